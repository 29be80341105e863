import PyProof.Rows.All
import Wide.All
import OpenK.AllK
import Wide.FinOn
import Lean
import PyProof.EqAt
import PyProof.EqKinds
import PyProof.TupleCall
import KE.KDictLaws
import KE.KDictList
import KE.KIntText
import KE.KLam
import KE.KRevIter
import PyProof.Draws
import PyProof.EnumMake
import PyProof.JoinWalk
import PyProof.MinMaxWalk
import PyProof.NeKinds
import PyProof.Rows.CallKw2
import PyProof.Rows.SortWalk
import PyProof.Rows.StrPadFill
import PyProof.Rows.StrRev
import PyProof.SeqI3
import PyProof.SumAny
import PyProof.WalkInts
import PyProof.ZipIter
import PySem.Challenge.RW_boughpress_k13_whole_knots_part_the_plac
set_option Elab.async false
set_option linter.all false
set_option maxRecDepth 100000
namespace L2
open PySem PySem.Spec PyProof.Rows
abbrev Key := Sum Int Str
def keyIs : Key → Value → Bool
  | .inl k, v => Value.isInt k v
  | .inr x, v => Value.isStrOf x v
def keyH (w : World) : Key → Int
  | .inl k => hashInt k
  | .inr x => hashStr w x
theorem keyIs_shape : ∀ {k : Key} {v : Value}, keyIs k v = true → (∃ i t, k = Sum.inl i ∧ v = Value.int i t) ∨ (∃ x t, k = Sum.inr x ∧ v = Value.str x t)
  | .inl i, v, h => by
    obtain ⟨t, e⟩ := Value.isInt_shape (k := i) (v := v) h
    exact .inl ⟨i, t, rfl, e⟩
  | .inr x, v, h => by
    obtain ⟨t, e⟩ := Value.isStrOf_shape (x := x) (v := v) h
    exact .inr ⟨x, t, rfl, e⟩
theorem keyIs_int (i : Int) (t : Tok) : keyIs (.inl i) (.int i t) = true := by simp [keyIs, Value.isInt]
theorem keyIs_str (x : Str) (t : Tok) : keyIs (.inr x) (.str x t) = true := by simp [keyIs, Value.isStrOf]
theorem key_ll (a b : Int) : decide ((Sum.inl a : Key) = Sum.inl b) = (a == b) := by
  by_cases e : a = b
  · subst e; simp
  · have h : ¬ (Sum.inl a : Key) = Sum.inl b := fun q => e (Sum.inl.inj q)
    rw [decide_eq_false h]
    exact (beq_eq_false_iff_ne.mpr e).symm
theorem key_rr (a b : Str) : decide ((Sum.inr a : Key) = Sum.inr b) = decide (a = b) := by
  by_cases e : a = b
  · subst e; simp
  · have h : ¬ (Sum.inr a : Key) = Sum.inr b := fun q => e (Sum.inr.inj q)
    rw [decide_eq_false h, decide_eq_false e]
theorem key_lr (a : Int) (b : Str) : decide ((Sum.inl a : Key) = Sum.inr b) = false := decide_eq_false (fun q => nomatch q)
theorem key_rl (a : Str) (b : Int) : decide ((Sum.inr a : Key) = Sum.inl b) = false := decide_eq_false (fun q => nomatch q)
def mixKind (prog : Program) (w : World) : PySem.KeyKind prog w Key where
  is := keyIs
  hash := keyH w
  inj := fun v a b ha hb => by
    rcases keyIs_shape ha with ⟨i, t, rfl, rfl⟩ | ⟨x, t, rfl, rfl⟩
    · rcases keyIs_shape hb with ⟨j, u, rfl, e⟩ | ⟨y, u, rfl, e⟩
      · injection e with e1 _; rw [e1]
      · exact nomatch e
    · rcases keyIs_shape hb with ⟨j, u, rfl, e⟩ | ⟨y, u, rfl, e⟩
      · exact nomatch e
      · injection e with e1 _; rw [e1]
  byValue := fun k v h => by
    rcases keyIs_shape h with ⟨i, t, rfl, rfl⟩ | ⟨x, t, rfl, rfl⟩ <;> rfl
  pyHash := fun hv h => by
    rcases keyIs_shape hv with ⟨i, t, rfl, rfl⟩ | ⟨x, t, rfl, rfl⟩
    · exact wpAny_pyHash_int h
    · exact wpAny_pyHash_str h
  eqBool := fun hu hv h => by
    rcases keyIs_shape hu with ⟨i, t, rfl, rfl⟩ | ⟨x, t, rfl, rfl⟩
    · rcases keyIs_shape hv with ⟨j, u, rfl, rfl⟩ | ⟨y, u, rfl, rfl⟩
      · rw [key_ll] at h; exact wpAny_eqBool_int h
      · rw [key_lr] at h; exact SeqAt.EqAt.int_str i t y u _ _ _ _ h
    · rcases keyIs_shape hv with ⟨j, u, rfl, rfl⟩ | ⟨y, u, rfl, rfl⟩
      · rw [key_rl] at h; exact SeqAt.EqAt.str_int x t j u _ _ _ _ h
      · rw [key_rr] at h; exact wpAny_eqBool_str h
  «strs» := fun k x t v h => by
    rcases keyIs_shape h with ⟨i, u, rfl, e⟩ | ⟨y, u, rfl, e⟩
    · exact nomatch e
    · injection e with e1 _
      subst e1
      cases v <;> rfl
theorem mixKind_int (prog : Program) (w : World) (i : Int) (t : Tok) : (mixKind prog w).is (.inl i) (.int i t) = true := keyIs_int i t
theorem mixKind_str (prog : Program) (w : World) (x : Str) (t : Tok) : (mixKind prog w).is (.inr x) (.str x t) = true := keyIs_str x t
end L2
namespace L2
open PySem PySem.Spec PyProof.Rows
inductive V where
  | non | bl (b : Bool) | int (i : Int) | str (x : Str) | byt (b : Array UInt8) | flt (b : UInt64) | ref (a : Addr) | ty (n : String)
  deriving DecidableEq
def RelV : V → Value → Prop
  | .non, u => u = Value.none
  | .bl b, u => u = Value.bool b
  | .int i, u => ∃ t, u = Value.int i t
  | .str x, u => ∃ t, u = Value.str x t
  | .byt b, u => ∃ t, u = Value.bytes b t
  | .flt b, u => ∃ t, u = Value.float b t
  | .ref a, u => u = Value.ref a
  | .ty n, u => u = Value.type n
abbrev Vals : List V → List Value → Prop := Paired RelV
theorem Vals.length {xs : List V} {us : List Value} (r : Vals xs us) : xs.length = us.length := Paired.length r
theorem Vals.get : ∀ {xs : List V} {us : List Value} {i : Nat} {x : V}, Vals xs us → xs[i]? = some x → ∃ u, us[i]? = some u ∧ RelV x u
  | _, _, _, _, .nil, e => by simp at e
  | _, _, 0, _, .cons r _, e => by simp at e; subst e; exact ⟨_, rfl, r⟩
  | _, _, i + 1, x, .cons _ t, e => by
    obtain ⟨u, h1, h2⟩ := Vals.get (i := i) (x := x) t (by simpa using e)
    exact ⟨u, by simpa using h1, h2⟩
theorem Vals.set {x : V} {u : Value} (r : RelV x u) : ∀ {xs : List V} {us : List Value} (i : Nat), Vals xs us → Vals (xs.set i x) (us.set i u)
  | _, _, _, .nil => .nil
  | _, _, 0, .cons _ t => .cons r t
  | _, _, i + 1, .cons q t => .cons q (Vals.set r i t)
theorem Vals.append : ∀ {xs ys : List V} {us ws : List Value}, Vals xs us → Vals ys ws → Vals (xs ++ ys) (us ++ ws)
  | _, _, _, _, .nil, s => s
  | _, _, _, _, .cons r t, s => .cons r (Vals.append t s)
theorem Vals.take : ∀ {xs : List V} {us : List Value} (n : Nat), Vals xs us → Vals (xs.take n) (us.take n)
  | _, _, 0, _ => .nil
  | _, _, _ + 1, .nil => .nil
  | _, _, n + 1, .cons r t => .cons r (Vals.take n t)
theorem Vals.drop : ∀ {xs : List V} {us : List Value} (n : Nat), Vals xs us → Vals (xs.drop n) (us.drop n)
  | _, _, 0, r => r
  | _, _, _ + 1, .nil => .nil
  | _, _, n + 1, .cons _ t => Vals.drop n t
def RelO : Option V → Option Value → Prop
  | some v, some u => RelV v u
  | none, none => True
  | _, _ => False
def KV {κ : Type} : List (κ × V) → List (κ × Value) → Prop := Paired fun (p : κ × V) (q : κ × Value) => p.1 = q.1 ∧ RelV p.2 q.2
def kV : Key → V
  | .inl i => .int i
  | .inr x => .str x
inductive HO where
  | lst (xs : List V)
  | tup (xs : List V)
  | dK (kvs : List (Key × V)) | dT (kvs : List (List Key × V))
  | set (S : Int → Bool) (n : Nat)
  | ins (C dx : Addr) (fs : List (Str × V))
  | own (x : Addr)
  | xd (fs : List (Str × V))
  | met (f x : Addr)
  | rng (lo hi : Int)
  | frz (o : Obj) (u : HO)
  | tbl (ps : Array Value)
  | ext (φ : Heap → Prop)
abbrev Hp := Addr → Option HO
def upd (H : Hp) (a : Addr) (o : HO) : Hp := fun b => if b = a then some o else H b
theorem upd_same {H : Hp} {a : Addr} {o : HO} : upd H a o a = some o := by unfold upd; rw [if_pos rfl]
theorem upd_ne {H : Hp} {a b : Addr} {o : HO} (h : b ≠ a) : upd H a o b = H b := by unfold upd; rw [if_neg h]
theorem upd_upd {H : Hp} {a : Addr} {o u : HO} : upd (upd H a o) a u = upd H a u := by
  funext b; unfold upd; split <;> rfl
theorem ne_of {H : Hp} {a b : Addr} {o u : HO} (h : H a = some o) (h' : H b = some u) (d : o ≠ u) : a ≠ b := by
  intro e; subst e; rw [h] at h'; exact d (Option.some.inj h')
theorem ne_of_none {H : Hp} {a b : Addr} {o : HO} (h : H a = some o) (h' : H b = none) : a ≠ b := by
  intro e; subst e; rw [h] at h'; cases h'
section
variable (P : Program) (w : World)
def ObjOk (H : Hp) (h : Heap) (a : Addr) : HO → Prop
  | .lst xs => xs.length ≤ sizeLine ∧ ∃ (its : List Value) (n : Nat), Vals xs its ∧ h.get? a = some { cls := .type "list", data := .seq its.toArray n }
  | .tup xs => xs.length ≤ sizeLine ∧ ∃ its : List Value, Vals xs its ∧ IsTup h a its.toArray
  | .dK kvs => kvs.length ≤ sizeLine ∧ (a == sysModules) = false ∧ ∃ vs, KV kvs vs ∧ h.DictOf (mixKind P w) a vs
  | .dT kvs => kvs.length ≤ sizeLine ∧ (a == sysModules) = false ∧ ∃ xs : List (List Key × Addr × Value),
      Paired (fun (p : List Key × V) (q : List Key × Addr × Value) => p.1 = q.1 ∧ H q.2.1 = some (.tup (p.1.map kV)) ∧ RelV p.2 q.2.2) kvs xs ∧
      ∃ o es ep, h.get? a = some o ∧ o.ExactDict ∧ o.data = .dict es ep ∧ es.toList = xs.map (entryOfKey (tupleKind (mixKind P w))) ∧ (xs.map (·.1)).Nodup
  | .set S n => h.SetOf (intKind P w) a S n
  | .ins C dx fs => H dx = some (.own a) ∧ fs.length ≤ 1000 ∧ dx ≠ a ∧ h.get? a = some (PySem.W.instObj C dx) ∧
      ∃ mA, h.Ns1 dx mA ∧ (∀ f, RelO (fs.lookup f) (mA f)) ∧ PySem.Within mA (fs.map (·.1))
  | .own _ => ∃ o, h.get? a = some o
  | .xd fs => ∃ mA, h.Ns1 a mA ∧ ∀ f, RelO (fs.lookup f) (mA f)
  | .rng lo hi => ∃ t u v, h.get? a = some { cls := .type "range", data := .fields #[.int lo t, .int hi u, .int 1 v] }
  | .frz o u => h.get? a = some o ∧ ObjOk H h a u
  | .tbl ps => h.get? a = some { cls := .none, data := .fields ps }
  | .met f x => h.get? a = some (PySem.W.methodObj (.ref f) (.ref x))
  | .ext φ => φ h ∧ (∃ o, h.get? a = some o) ∧ ∀ h1 h2 : Heap, φ h1 → (∀ o, h1.get? a = some o → h2.get? a = some o) → φ h2
def HOk (H : Hp) (h : Heap) : Prop := ∀ a o, H a = some o → ObjOk P w H h a o
end
section
variable {P : Program} {w : World} {H H' : Hp} {h h' : Heap} {a : Addr} {o : HO}
theorem ObjOk.lt (x : ObjOk P w H h a o) : a < h.objs.size := by
  cases o with
  | lst xs => obtain ⟨_, _, _, _, e⟩ := x; exact Heap.lt_size e
  | tup xs => obtain ⟨_, _, _, p⟩ := x; exact p.lt
  | dK kvs => obtain ⟨_, _, _, _, o, _, _, e, _⟩ := x; exact Heap.lt_size e
  | dT kvs => obtain ⟨_, _, _, _, o, _, _, e, _⟩ := x; exact Heap.lt_size e
  | set S n => obtain ⟨o, _, _, _, e, _⟩ := x; exact Heap.lt_size e
  | ins C dx fs => obtain ⟨_, _, _, e, _⟩ := x; exact Heap.lt_size e
  | own y => obtain ⟨_, e⟩ := x; exact Heap.lt_size e
  | xd fs => obtain ⟨_, ⟨_, _, _, e, _⟩, _⟩ := x; exact Heap.lt_size e
  | rng lo hi => obtain ⟨_, _, _, e⟩ := x; exact Heap.lt_size e
  | frz ob u => obtain ⟨e, _⟩ := x; exact Heap.lt_size e
  | tbl ps => exact Heap.lt_size (show h.get? a = some _ from x)
  | met f y => exact Heap.lt_size (show h.get? a = some _ from x)
  | ext φ => obtain ⟨_, ⟨_, e⟩, _⟩ := x; exact Heap.lt_size e
theorem Paired.mapP {α β : Type} {F G : α → β → Prop} : ∀ {l₁ : List α} {l₂ : List β}, Paired F l₁ l₂ → (∀ a b, F a b → G a b) → Paired G l₁ l₂
  | _, _, .nil, _ => .nil
  | _, _, .cons r t, f => .cons (f _ _ r) (Paired.mapP t f)
theorem ObjOk.stay (x : ObjOk P w H h a o) (k : ∀ b u, (b = a ∨ H b = some (.own a)) → h.get? b = some u → h'.get? b = some u)
    (ho : ∀ b, H b = some (.own a) → H' b = some (.own a)) (ht : ∀ b xs, H b = some (.tup xs) → H' b = some (.tup xs)) : ObjOk P w H' h' a o := by
  induction o with
  | lst xs => obtain ⟨z, its, n, r, e⟩ := x; exact ⟨z, its, n, r, k _ _ (.inl rfl) e⟩
  | tup xs => obtain ⟨z, its, r, ob, e, c⟩ := x; exact ⟨z, its, r, ob, k _ _ (.inl rfl) e, c⟩
  | dK kvs => obtain ⟨z, y, vs, r, ob, es, ep, e, c⟩ := x; exact ⟨z, y, vs, r, ob, es, ep, k _ _ (.inl rfl) e, c⟩
  | dT kvs =>
    obtain ⟨z, y, xs, r, ob, es, ep, e, c⟩ := x
    exact ⟨z, y, xs, Paired.mapP r fun p q z => ⟨z.1, ht _ _ z.2.1, z.2.2⟩, ob, es, ep, k _ _ (.inl rfl) e, c⟩
  | set S n => obtain ⟨ob, es, ep, t, e, c⟩ := x; exact ⟨ob, es, ep, t, k _ _ (.inl rfl) e, c⟩
  | ins C dx fs =>
    obtain ⟨d, z, ne, e, mA, ⟨od, es, ep, e2, c⟩, r⟩ := x
    exact ⟨ho _ d, z, ne, k _ _ (.inl rfl) e, mA, ⟨od, es, ep, k _ _ (.inr d) e2, c⟩, r⟩
  | own y => obtain ⟨ob, e⟩ := x; exact ⟨ob, k _ _ (.inl rfl) e⟩
  | xd fs => obtain ⟨mA, ⟨od, es, ep, e, c⟩, r⟩ := x; exact ⟨mA, ⟨od, es, ep, k _ _ (.inl rfl) e, c⟩, r⟩
  | rng lo hi => obtain ⟨t, u, v, e⟩ := x; exact ⟨t, u, v, k _ _ (.inl rfl) e⟩
  | frz ob u ih => obtain ⟨e, q⟩ := x; exact ⟨k _ _ (.inl rfl) e, ih q⟩
  | tbl ps =>
    have e : h.get? a = some { cls := .none, data := .fields ps } := x
    show h'.get? a = some { cls := .none, data := .fields ps }
    exact k a _ (.inl rfl) e
  | met f y =>
    have e : h.get? a = some (PySem.W.methodObj (.ref f) (.ref y)) := x
    show h'.get? a = some (PySem.W.methodObj (.ref f) (.ref y))
    exact k a _ (.inl rfl) e
  | ext φ => obtain ⟨p, ⟨o, e⟩, st⟩ := x; exact ⟨st _ _ p fun o q => k _ _ (.inl rfl) q, ⟨o, k _ _ (.inl rfl) e⟩, st⟩
theorem HOk.lt (x : HOk P w H h) (e : H a = some o) : a < h.objs.size := (x a o e).lt
theorem HOk.fresh (x : HOk P w H h) (e : h.objs.size ≤ a) : H a = none := by
  cases q : H a with
  | none => rfl
  | some u => exact absurd (Nat.lt_of_lt_of_le (x.lt q) e) (Nat.lt_irrefl _)
theorem HOk.kept (x : HOk P w H h) (k : ∀ b u, h.get? b = some u → h'.get? b = some u) : HOk P w H h' := fun a o e =>
  (x a o e).stay (fun b u _ q => k b u q) (fun _ q => q) fun _ _ q => q
theorem HOk.laid (x : HOk P w H h) (k : ∀ b u, h.get? b = some u → h'.get? b = some u) (hp : h.objs.size ≤ a) (new : ObjOk P w (upd H a o) h' a o) : HOk P w (upd H a o) h' := fun b u e => by
  have hn := x.fresh hp
  by_cases hb : b = a
  · subst hb; rw [upd_same] at e; cases e; exact new
  · rw [upd_ne hb] at e
    exact (x b u e).stay (fun c v _ q => k c v q) (fun c q => by rw [upd_ne (ne_of_none q hn)]; exact q) fun c xs q => by rw [upd_ne (ne_of_none q hn)]; exact q
end
def Rd (H : Hp) (a : Addr) (u : HO) : Prop := H a = some u ∨ ∃ o, H a = some (.frz o u)
theorem Rd.of {H : Hp} {a : Addr} {u : HO} (h : H a = some u) : Rd H a u := .inl h
theorem Rd.ok {P : Program} {w : World} {H : Hp} {h : Heap} {a : Addr} {u : HO} (r : Rd H a u) (x : HOk P w H h) : ObjOk P w H h a u := by
  rcases r with r | ⟨o, r⟩
  · exact x a u r
  · obtain ⟨_, q⟩ := x a _ r
    exact q
def Mut : Option HO → Prop
  | some (.lst _) => True
  | some (.dK _) => True
  | some (.dT _) => True
  | some (.set _ _) => True
  | some (.ins _ _ _) => True
  | some (.ext _) => True
  | _ => False
section
variable {P : Program} {w : World} {H : Hp} {h h' : Heap} {x e : Addr} {o' : HO}
theorem HOk.write (ok : HOk P w H h) (mu : Mut (H x)) (he : e = x ∨ H e = some (.own x)) (k : ∀ b u, b ≠ e → h.get? b = some u → h'.get? b = some u) (heo : ∃ u, h'.get? e = some u)
    (new : ObjOk P w (upd H x o') h' x o') : HOk P w (upd H x o') h' := fun b u q => by
  have nown : ∀ c y, H c = some (.own y) → c ≠ x := fun c y r z => by subst z; rw [r] at mu; exact mu
  have ntup : ∀ c xs, H c = some (.tup xs) → c ≠ x := fun c xs r z => by subst z; rw [r] at mu; exact mu
  by_cases hb : b = x
  · subst hb; rw [upd_same] at q; cases q; exact new
  · rw [upd_ne hb] at q
    by_cases hbe : b = e
    · have q' : H b = some (.own x) := by
        rcases he with z | z
        · exact absurd (hbe.trans z) hb
        · rw [hbe]; exact z
      rw [q] at q'; cases q'
      obtain ⟨v, hv⟩ := heo
      exact ⟨v, by rw [hbe]; exact hv⟩
    · refine (ok b u q).stay (fun c v hc r => k c v ?_ r) (fun c r => by rw [upd_ne (nown c b r)]; exact r) fun c xs r => by rw [upd_ne (ntup c xs r)]; exact r
      rcases hc with rfl | hc
      · exact hbe
      · rintro rfl
        rcases he with z | z
        · exact nown c b hc z
        · rw [hc] at z; cases z; exact hb rfl
end
structure Un (fs ex : List Addr) (H H' : Hp) (h h' : Heap) : Prop where
  keep : ∀ b o, h.get? b = some o → H b = none → b ∉ fs → b ∉ ex → h'.get? b = some o
  slot : ∀ b o, h.get? b = some o → H b = none → b ∈ fs → b ∉ ex → ∃ sl, h'.get? b = some { o with slots := sl }
  free : ∀ b o, h.get? b = some o → H b = none → b ∉ ex → H' b = none
  there : ∀ b o, h.get? b = some o → b ∉ ex → ∃ o', h'.get? b = some o'
  tups : ∀ b xs, H b = some (.tup xs) → H' b = some (.tup xs)
  frzs : ∀ b o u, H b = some (.frz o u) → H' b = some (.frz o u)
  tbls : ∀ b ps, H b = some (.tbl ps) → ∃ more, H' b = some (.tbl (ps ++ more))
section
variable {fs fs' ex ex' : List Addr} {H H1 H2 : Hp} {h h1 h2 h' : Heap} {a x e : Addr} {o : HO}
theorem Un.any (u : Un fs ex H H1 h h1) {b : Addr} {ob : Obj} (q : h.get? b = some ob) (n : H b = none) (hx : b ∉ ex) : ∃ sl, h1.get? b = some { ob with slots := sl } := by
  by_cases hb : b ∈ fs
  · exact u.slot b ob q n hb hx
  · exact ⟨ob.slots, u.keep b ob q n hb hx⟩
theorem Un.trans (a : Un fs ex H H1 h h1) (b : Un fs ex H1 H2 h1 h2) : Un fs ex H H2 h h2 where
  keep := fun c ob q n hc hx => b.keep c ob (a.keep c ob q n hc hx) (a.free c ob q n hx) hc hx
  slot := fun c ob q n hc hx => by
    obtain ⟨sl, e1⟩ := a.slot c ob q n hc hx
    obtain ⟨sl', e2⟩ := b.slot c _ e1 (a.free c ob q n hx) hc hx
    exact ⟨sl', e2⟩
  free := fun c ob q n hx => by
    obtain ⟨o', e1⟩ := a.there c ob q hx
    exact b.free c o' e1 (a.free c ob q n hx) hx
  there := fun c ob q hx => by
    obtain ⟨o', e1⟩ := a.there c ob q hx
    exact b.there c o' e1 hx
  tups := fun c xs q => b.tups c xs (a.tups c xs q)
  frzs := fun c ob xs q => b.frzs c ob xs (a.frzs c ob xs q)
  tbls := fun c ps q => by
    obtain ⟨m1, e1⟩ := a.tbls c ps q
    obtain ⟨m2, e2⟩ := b.tbls c _ e1
    exact ⟨m1 ++ m2, by rw [e2, Array.append_assoc]⟩
theorem Un.kept (k : ∀ b u, h.get? b = some u → h'.get? b = some u) : Un fs ex H H h h' :=
  ⟨fun b ob q _ _ _ => k b ob q, fun b ob q _ _ _ => ⟨ob.slots, k b ob q⟩, fun _ _ _ n _ => n, fun b ob q _ => ⟨ob, k b ob q⟩, fun _ _ q => q, fun _ _ _ q => q, fun _ ps q => ⟨#[], by rw [q]; simp⟩⟩
theorem Un.refl : Un fs ex H H h h := Un.kept fun _ _ q => q
theorem Un.laid (k : ∀ b u, h.get? b = some u → h'.get? b = some u) (hp : h.objs.size ≤ a) (hn : H a = none) : Un fs ex H (upd H a o) h h' where
  keep := fun b u q _ _ _ => k b u q
  slot := fun b u q _ _ _ => ⟨u.slots, k b u q⟩
  free := fun b u q n _ => by rw [upd_ne (Nat.ne_of_lt (Nat.lt_of_lt_of_le (Heap.lt_size q) hp))]; exact n
  there := fun b u q _ => ⟨u, k b u q⟩
  tups := fun b xs q => by rw [upd_ne (ne_of_none q hn)]; exact q
  frzs := fun b u xs q => by rw [upd_ne (ne_of_none q hn)]; exact q
  tbls := fun b ps q => ⟨#[], by rw [upd_ne (ne_of_none q hn), q]; simp⟩
theorem Un.write (mu : Mut (H x)) (he : e = x ∨ H e = some (.own x)) (k : ∀ b u, b ≠ e → h.get? b = some u → h'.get? b = some u) (heo : ∃ u, h'.get? e = some u) : Un fs ex H (upd H x o) h h' := by
  have hx : ∀ b, H b = none → b ≠ x := fun b n z => by subst z; rw [n] at mu; exact mu
  have hb : ∀ b, H b = none → b ≠ e := fun b n z => by
    subst z
    rcases he with r | r
    · exact hx b n r
    · rw [n] at r; cases r
  have hm : ∀ b u, H b = some u → ¬ Mut (some u) → b ≠ x := fun b u q nm z => by subst z; rw [q] at mu; exact nm mu
  refine ⟨fun b u q n _ _ => k b u (hb b n) q, fun b u q n _ _ => ⟨u.slots, k b u (hb b n) q⟩, fun b u q n _ => by rw [upd_ne (hx b n)]; exact n, fun b u q _ => ?_,
    fun b xs q => by rw [upd_ne (hm b _ q fun z => z)]; exact q, fun b u xs q => by rw [upd_ne (hm b _ q fun z => z)]; exact q, fun b ps q => ⟨#[], by rw [upd_ne (hm b _ q fun z => z), q]; simp⟩⟩
  by_cases hbe : b = e
  · subst hbe; exact heo
  · exact ⟨u, k b u hbe q⟩
theorem Un.mono (u : Un fs ex H H1 h h1) (hs : ∀ b ∈ fs, b ∈ fs') (hx : ∀ b ∈ ex, b ∈ ex') : Un fs' ex' H H1 h h1 :=
  ⟨fun b ob q n hb he => u.keep b ob q n (fun z => hb (hs b z)) fun z => he (hx b z), fun _ _ q n _ he => u.any q n fun z => he (hx _ z), fun b ob q n he => u.free b ob q n fun z => he (hx b z), fun b ob q he => u.there b ob q fun z => he (hx b z), u.tups, u.frzs, u.tbls⟩
end
def trk (h : Heap) (H : Hp) : List Addr := (List.range h.objs.size).filter fun a => (H a).isSome
def hidT (h : Heap) (H : Hp) : Heap := PySem.W.hideAll h (trk h H)
theorem hidT_size (h : Heap) (H : Hp) : (hidT h H).objs.size = h.objs.size := PySem.W.hideAll_size _ _
theorem hidT_get {h : Heap} {H : Hp} {b : Addr} {o : Obj} (e : h.get? b = some o) (n : H b = none) : (hidT h H).get? b = some o :=
  PySem.W.hideAll_get _ e fun hm => by
    have q : (H b).isSome = true := (List.mem_filter.mp hm).2
    rw [n] at q; simp at q
theorem of_hidT {h : Heap} {H : Hp} {b : Addr} {o : Obj} (e : (hidT h H).get? b = some o) : h.get? b = some o ∧ H b = none := by
  have e' : h.get? b = some o := PySem.W.of_hideAll (trk h H) e
  refine ⟨e', ?_⟩
  cases q : H b with
  | none => rfl
  | some x =>
    have hm : b ∈ trk h H := List.mem_filter.mpr ⟨List.mem_range.mpr (Heap.lt_size e'), by simp [q]⟩
    have z : (hidT h H).get? b = none := PySem.W.hideAll_none (trk h H) hm
    rw [z] at e; cases e
def allNews (g h : Heap) (L : Addr) : List (Addr × Obj) := (List.range h.objs.size).filterMap fun a => if a = L ∨ (g.get? a).isSome = true then none else (h.get? a).map fun o => (a, o)
def rest (g h : Heap) (L d : Addr) : List (Addr × Obj) := (allNews g h L).filter fun p => decide (p.1 ≠ d)
end L2
namespace L2
open PySem PySem.Spec PyProof.Rows
structure Mod (K : PySem.W.Frag) (mg : Str → Option Value) (base : Heap) : Prop where
  kin : K.In base
  glob : base.Ns mainGlobals mg
  blt : ∃ mb, base.Ns builtinsNs mb ∧ ∀ x : Str, x ≠ "__name__" → mb x = bootBuiltins x
  nolimit : base.NoLimit
structure Cx where
  prog : Program
  w : World
  K : PySem.W.Frag
  mg : Str → Option Value
  base : Heap
  A : Around
  N : List Str
  s₀ : Shared
  H₀ : Hp
  env : Env
  outer : List Env
  stack : List Env
  ex : List Addr
  fn : Str → Bool
  calm : Bool
  pn : List (Addr × Obj)
  xe : Value → Shared → Prop
def frs (l : List Env) : List Addr := l.filterMap (·.frame)
abbrev Cx.fs (X : Cx) : List Addr := frs X.outer
def Vis (sc : Scope) (x : Str) : Prop := sc.names.lookup x = some .local ∨ sc.names.lookup x = some .cell ∨ sc.names.lookup x = some .free
def Loc (sc : Scope) (x : Str) : Prop := sc.names.lookup x = some .local ∨ sc.names.lookup x = some .cell
def Look (env : Env) (h : Heap) (m : Str → Option Value) (x : Str) (u : Value) : Prop :=
  (env.kindOf x = some .local ∧ m x = some u) ∨ ((env.kindOf x = some .cell ∨ env.kindOf x = some .free) ∧ ∃ c, env.cells.lookup x = some c ∧ h.IsCell c (some u))
structure Cx.Ok (X : Cx) : Prop where
  mod : Mod X.K X.mg X.base
  kind : X.env.scope.kind = .function
  glob : X.env.globals = mainGlobals
  blt : X.env.builtins = builtinsNs
  above : X.s₀.heap.objs.size ≤ X.env.locals
  inj : ∀ x y c, X.env.cells.lookup x = some c → X.env.cells.lookup y = some c → x = y
  has : ∀ x, (X.env.kindOf x = some .cell ∨ X.env.kindOf x = some .free) → ∃ c, X.env.cells.lookup x = some c
  cab : ∀ x c, X.fn x = true → X.env.cells.lookup x = some c → X.s₀.heap.objs.size ≤ c
  hd : X.calm = true → X.A.handled = none
  frames : X.A.frames = some X.stack
  stk : X.stack = X.outer ∨ (X.stack = X.env :: X.outer ∧ X.env.frame = some X.env.locals)
  exf : ∀ b ∈ X.ex, b ≠ X.env.locals ∧ ∀ x c, X.env.cells.lookup x = some c → c ≠ b
  bs : ∀ b o, X.base.get? b = some o → X.s₀.heap.get? b = some o ∧ X.H₀ b = none
  bsz : X.base.objs.size ≤ X.s₀.heap.objs.size
  noex : ∀ b o, X.base.get? b = some o → b ∉ X.ex
  exfs : ∀ b ∈ X.ex, b ∉ X.fs
  funs : X.s₀.heap.FunFrames X.base X.outer
  frf : ∀ b ∈ X.fs, X.H₀ b = none
structure Inv (X : Cx) (pins : List (Addr × Obj)) (σ : List (Option V)) (H : Hp) (s : Shared) : Prop where
  ok : X.Ok
  os : s.os = X.s₀.os
  bare : AllBare s.gens
  base : Un X.fs X.ex X.H₀ H X.s₀.heap s.heap
  loc : ∃ m, s.heap.Ns X.env.locals m ∧ ∀ (i : Nat) (x : Str) (v : V), X.N[i]? = some x → σ[i]? = some (some v) → Vis X.env.scope x → ∃ u, RelV v u ∧ Look X.env s.heap m x u
  cell : ∀ x c, X.env.cells.lookup x = some c → ∃ v, s.heap.IsCell c v
  free : H X.env.locals = none
  freeC : ∀ x c, X.env.cells.lookup x = some c → H c = none
  pin : ∀ p ∈ X.pn ++ pins, s.heap.get? p.1 = some p.2 ∧ H p.1 = none ∧ p.1 ≠ X.env.locals ∧ p.1 ∉ X.fs ∧ ∀ v, p.2.data ≠ .cell v
  hok : HOk X.prog X.w H s.heap
  len : σ.length = X.N.length
section
variable {X : Cx} {pins : List (Addr × Obj)} {σ : List (Option V)} {H H' : Hp} {s : Shared} {h' : Heap}
theorem Cx.Ok.nofr (ok : X.Ok) {b : Addr} {o : Obj} (e : X.base.get? b = some o) : b ∉ X.fs := fun hb => by
  have := (ok.funs.mem hb).1
  rw [e] at this; cases this
theorem Inv.bs (I : Inv X pins σ H s) : ∀ b o, X.base.get? b = some o → s.heap.get? b = some o ∧ H b = none := fun b o e =>
  ⟨I.base.keep b o (I.ok.bs b o e).1 (I.ok.bs b o e).2 (I.ok.nofr e) (I.ok.noex b o e), I.base.free b o (I.ok.bs b o e).1 (I.ok.bs b o e).2 (I.ok.noex b o e)⟩
theorem Inv.bk (I : Inv X pins σ H s) : ∀ b o, X.base.get? b = some o → s.heap.get? b = some o := fun b o e => (I.bs b o e).1
theorem Inv.mod (I : Inv X pins σ H s) : Mod X.K X.mg X.base := I.ok.mod
theorem Inv.kIn (I : Inv X pins σ H s) : X.K.In s.heap := I.ok.mod.kin.keeps I.bk
theorem Inv.nolimit (I : Inv X pins σ H s) : s.heap.NoLimit := I.ok.mod.nolimit.keeps I.bk
theorem Inv.lt (I : Inv X pins σ H s) : X.env.locals < s.heap.objs.size := let ⟨_, hn, _⟩ := I.loc; hn.lt
theorem Inv.sz (I : Inv X pins σ H s) : X.s₀.heap.objs.size ≤ s.heap.objs.size := Nat.le_trans I.ok.above (Nat.le_of_lt I.lt)
theorem Inv.nofs (I : Inv X pins σ H s) {a : Addr} (h : s.heap.objs.size ≤ a) : a ∉ X.fs := fun hb => by
  obtain ⟨_, o, ho, _⟩ := I.ok.funs.mem hb
  exact absurd (Nat.lt_of_lt_of_le (Heap.lt_size ho) (Nat.le_trans I.sz h)) (Nat.lt_irrefl _)
theorem Inv.cne (I : Inv X pins σ H s) : ∀ x c, X.env.cells.lookup x = some c → c ≠ X.env.locals := fun x c e z => by
  obtain ⟨v, o, ho, hd⟩ := I.cell x c e
  obtain ⟨m, ⟨o', es, ep, ho', hd', _⟩, _⟩ := I.loc
  rw [z, ho'] at ho; cases ho; rw [hd'] at hd; cases hd
theorem Inv.funs (I : Inv X pins σ H s) : s.heap.FunFrames X.base X.outer := by
  have all : ∀ (l : List Env), (∀ b ∈ frs l, b ∈ X.fs) → X.s₀.heap.FunFrames X.base l → s.heap.FunFrames X.base l := by
    intro l
    induction l with
    | nil => intro _ _; trivial
    | cons env r ih =>
      intro hs hl
      obtain ⟨hk, ⟨L, o, hf, hn, ho, hd⟩, hr⟩ := hl
      have hL : L ∈ X.fs := hs L (by unfold frs; rw [List.filterMap_cons, hf]; exact List.mem_cons_self)
      obtain ⟨sl, e⟩ := I.base.slot L o ho (I.ok.frf L hL) hL fun z => I.ok.exfs L z hL
      exact ⟨hk, ⟨L, _, hf, hn, e, hd⟩, ih (fun b hb => hs b (by unfold frs; rw [List.filterMap_cons, hf]; exact List.mem_cons_of_mem _ hb)) hr⟩
  exact all X.outer (fun _ hb => hb) I.ok.funs
theorem Inv.stack (I : Inv X pins σ H s) : s.heap.FunFrames X.base X.stack := by
  rcases I.ok.stk with e | ⟨e, hf⟩
  · rw [e]; exact I.funs
  · rw [e]
    obtain ⟨m, hn, _⟩ := I.loc
    refine .cons (by rw [I.ok.kind]; decide) hf hn ?_ I.funs
    exact Heap.get?_none_of_le (Nat.le_trans I.ok.bsz I.ok.above)
theorem Inv.stkSub (I : Inv X pins σ H s) : ∀ b ∈ frs X.stack, b ∈ X.env.locals :: X.fs := fun b hb => by
  rcases I.ok.stk with e | ⟨e, hf⟩
  · rw [e] at hb; exact List.mem_cons_of_mem _ hb
  · rw [e] at hb
    unfold frs at hb
    rw [List.filterMap_cons, hf] at hb
    exact hb
theorem Inv.stkFree (I : Inv X pins σ H s) : ∀ b ∈ frs X.stack, H b = none := fun b hb => by
  rcases List.mem_cons.mp (I.stkSub b hb) with e | hb
  · rw [e]; exact I.free
  · obtain ⟨_, o, ho, _⟩ := I.ok.funs.mem hb
    exact I.base.free b o ho (I.ok.frf b hb) fun z => I.ok.exfs b z hb
theorem Inv.step {g' : Array GenState} {t' : Nat} {d' : Drawn} {ch : List Addr} (I : Inv X pins σ H s)
    (hch : ∀ b ∈ ch, (b ∈ X.ex ∨ X.s₀.heap.objs.size ≤ b) ∧ b ≠ X.env.locals ∧ (∀ x c, X.env.cells.lookup x = some c → c ≠ b) ∧ ∀ p ∈ X.pn ++ pins, p.1 ≠ b)
    (keep : ∀ b o, b ≠ X.env.locals → b ∉ X.fs → b ∉ ch → s.heap.get? b = some o → H b = none → h'.get? b = some o)
    (slot : ∀ b o, b ≠ X.env.locals → b ∈ X.fs → b ∉ ch → s.heap.get? b = some o → H b = none → ∃ sl, h'.get? b = some { o with slots := sl }) (free : ∀ b o, b ∉ ch → s.heap.get? b = some o → H b = none → H' b = none)
    (there : ∀ b o, b ∉ ch → s.heap.get? b = some o → ∃ o', h'.get? b = some o')
    (tups : ∀ b xs, H b = some (.tup xs) → H' b = some (.tup xs)) (frzs : ∀ b o u, H b = some (.frz o u) → H' b = some (.frz o u)) (tbls : ∀ b ps, H b = some (.tbl ps) → ∃ more, H' b = some (.tbl (ps ++ more)))
    (ns : ∀ m, s.heap.Ns X.env.locals m → h'.Ns X.env.locals m) (hok : HOk X.prog X.w H' h') (hg : AllBare g') :
    Inv X pins σ H' { s with heap := h', gens := g', drawn := d', toks := t' } := by
  have neL : ∀ b o, X.s₀.heap.get? b = some o → b ≠ X.env.locals := fun b o e => Nat.ne_of_lt (Nat.lt_of_lt_of_le (Heap.lt_size e) I.ok.above)
  have neC : ∀ b o, X.s₀.heap.get? b = some o → b ∉ X.ex → b ∉ ch := fun b o e hx hb => by
    rcases (hch b hb).1 with z | z
    · exact hx z
    · exact absurd (Nat.lt_of_lt_of_le (Heap.lt_size e) z) (Nat.lt_irrefl _)
  have cellK : ∀ x c, X.env.cells.lookup x = some c → ∀ v, s.heap.IsCell c v → h'.IsCell c v := fun x c e v ⟨o, ho, hd⟩ => by
    have nch : c ∉ ch := fun z => (hch c z).2.2.1 x c e rfl
    by_cases hc : c ∈ X.fs
    · obtain ⟨sl, q⟩ := slot c o (I.cne x c e) hc nch ho (I.freeC x c e)
      exact ⟨_, q, hd⟩
    · exact ⟨o, keep c o (I.cne x c e) hc nch ho (I.freeC x c e), hd⟩
  refine ⟨I.ok, I.os, hg, ⟨fun b o e n hb hx => ?_, fun b o e n hb hx => ?_, fun b o e n hx => ?_, fun b o e hx => ?_, fun b xs e => tups b xs (I.base.tups b xs e), fun b o xs e => frzs b o xs (I.base.frzs b o xs e), fun b ps e => ?_⟩, ?_, fun x c e => ?_, ?_, fun x c e => ?_, fun p hp => ?_, hok, I.len⟩
  · exact keep b o (neL b o e) hb (neC b o e hx) (I.base.keep b o e n hb hx) (I.base.free b o e n hx)
  · obtain ⟨sl, e1⟩ := I.base.slot b o e n hb hx
    obtain ⟨sl', e2⟩ := slot b _ (neL b o e) hb (neC b o e hx) e1 (I.base.free b o e n hx)
    exact ⟨sl', e2⟩
  · obtain ⟨o', e1⟩ := I.base.there b o e hx
    exact free b o' (neC b o e hx) e1 (I.base.free b o e n hx)
  · obtain ⟨o', e1⟩ := I.base.there b o e hx
    exact there b o' (neC b o e hx) e1
  · obtain ⟨m1, e1⟩ := I.base.tbls b ps e
    obtain ⟨m2, e2⟩ := tbls b _ e1
    exact ⟨m1 ++ m2, by rw [e2, Array.append_assoc]⟩
  · obtain ⟨m, hn, hl⟩ := I.loc
    refine ⟨m, ns m hn, fun i x v e1 e2 e3 => ?_⟩
    obtain ⟨u, r, l⟩ := hl i x v e1 e2 e3
    refine ⟨u, r, ?_⟩
    rcases l with l | ⟨k, c, e, z⟩
    · exact .inl l
    · exact .inr ⟨k, c, e, cellK x c e _ z⟩
  · obtain ⟨v, z⟩ := I.cell x c e
    exact ⟨v, cellK x c e v z⟩
  · obtain ⟨m, ⟨o, _, _, ho, _⟩, _⟩ := I.loc
    exact free _ o (fun z => (hch _ z).2.1 rfl) ho I.free
  · obtain ⟨v, o, ho, hd⟩ := I.cell x c e
    exact free c o (fun z => (hch c z).2.2.1 x c e rfl) ho (I.freeC x c e)
  · obtain ⟨e, n, ne, nf, d⟩ := I.pin p hp
    have nch : p.1 ∉ ch := fun z => (hch p.1 z).2.2.2 p hp rfl
    exact ⟨keep p.1 p.2 ne nf nch e n, free p.1 p.2 nch e n, ne, nf, d⟩
theorem Inv.un {t' : Nat} (I : Inv X pins σ H s) (u : Un X.fs [] H H' s.heap h') (hok : HOk X.prog X.w H' h') : Inv X pins σ H' { s with heap := h', toks := t' } := by
  obtain ⟨m, ⟨o, es, ep, ho, r⟩, _⟩ := id I.loc
  obtain ⟨sl, hL⟩ := u.any ho I.free (by simp)
  exact I.step (g' := s.gens) (d' := s.drawn) (ch := []) (fun _ z => nomatch z) (fun b o _ hb _ e n => u.keep b o e n hb (by simp)) (fun b o _ hb _ e n => u.slot b o e n hb (by simp)) (fun b o _ e n => u.free b o e n (by simp)) (fun b o _ e => u.there b o e (by simp)) u.tups u.frzs u.tbls (fun m' hm => by
    obtain ⟨o', es', ep', ho', r'⟩ := hm
    rw [ho] at ho'; cases ho'
    exact ⟨_, es', ep', hL, r'⟩) hok I.bare
theorem Inv.call {g' : Array GenState} {t' : Nat} {d' : Drawn} {ch : List Addr} (I : Inv X pins σ H s) (u : Un (frs X.stack) ch H H' s.heap h') (hok : HOk X.prog X.w H' h') (hg : AllBare g')
    (hch : ∀ b ∈ ch, (b ∈ X.ex ∨ X.s₀.heap.objs.size ≤ b) ∧ b ≠ X.env.locals ∧ (∀ x c, X.env.cells.lookup x = some c → c ≠ b) ∧ ∀ p ∈ X.pn ++ pins, p.1 ≠ b) :
    Inv X pins σ H' { s with heap := h', gens := g', drawn := d', toks := t' } := by
  obtain ⟨m, ⟨o, es, ep, ho, r⟩, _⟩ := id I.loc
  obtain ⟨sl, hL⟩ := u.any ho I.free fun z => (hch _ z).2.1 rfl
  exact I.step (ch := ch) hch (fun b o hL hb hc e n => u.keep b o e n (fun z => (List.mem_cons.mp (I.stkSub b z)).elim hL hb) hc) (fun b o _ _ hc e n => u.any e n hc) (fun b o hc e n => u.free b o e n hc) (fun b o hc e => u.there b o e hc) u.tups u.frzs u.tbls (fun m' hm => by
    obtain ⟨o', es', ep', ho', r'⟩ := hm
    rw [ho] at ho'; cases ho'
    exact ⟨_, es', ep', hL, r'⟩) hok hg
theorem Inv.turned {t' : Nat} {it : Addr} (I : Inv X pins σ H s) (k : ∀ b o, b ≠ it → s.heap.get? b = some o → h'.get? b = some o) (hn : H it = none) (hL : it ≠ X.env.locals)
    (h1 : it ∈ X.ex ∨ X.s₀.heap.objs.size ≤ it) (h2 : ∀ x c, X.env.cells.lookup x = some c → c ≠ it) (h3 : ∀ p ∈ X.pn ++ pins, p.1 ≠ it) : Inv X pins σ H { s with heap := h', toks := t' } := by
  have nit : ∀ b u, H b = some u → b ≠ it := fun b u e z => by rw [z, hn] at e; cases e
  refine I.step (g' := s.gens) (d' := s.drawn) (ch := [it]) (fun b hb => ?_) (fun b o _ _ hc e _ => k b o (fun z => hc (by simp [z])) e) (fun b o _ _ hc e _ => ⟨o.slots, k b o (fun z => hc (by simp [z])) e⟩) (fun _ _ _ _ n => n)
    (fun b o hc e => ⟨o, k b o (fun z => hc (by simp [z])) e⟩) (fun _ _ e => e) (fun _ _ _ e => e) (fun b ps e => ⟨#[], by rw [e]; simp⟩) (fun m hm => ?_) (fun b u e => ?_) I.bare
  · have e : b = it := by simpa using hb
    subst e
    exact ⟨h1, hL, h2, h3⟩
  · obtain ⟨o, es, ep, ho, r⟩ := hm
    exact ⟨o, es, ep, k _ o (Ne.symm hL) ho, r⟩
  · refine (I.hok b u e).stay (fun c v hc q => k c v ?_ q) (fun _ q => q) fun _ _ q => q
    rcases hc with z | z
    · rw [z]; exact nit b u e
    · exact nit c _ z
theorem Inv.tok (I : Inv X pins σ H s) (t : Nat) : Inv X pins σ H { s with toks := t } := I.un (h' := s.heap) (t' := t) Un.refl I.hok
theorem Inv.kept {t' : Nat} (I : Inv X pins σ H s) (k : ∀ b u, s.heap.get? b = some u → h'.get? b = some u) : Inv X pins σ H { s with heap := h', toks := t' } := I.un (Un.kept k) (I.hok.kept k)
theorem Inv.laid {a : Addr} {o : HO} {t' : Nat} (I : Inv X pins σ H s) (k : ∀ b u, s.heap.get? b = some u → h'.get? b = some u) (hp : s.heap.objs.size ≤ a) (new : ObjOk X.prog X.w (upd H a o) h' a o) :
    Inv X pins σ (upd H a o) { s with heap := h', toks := t' } := I.un (Un.laid k hp (I.hok.fresh hp)) (I.hok.laid k hp new)
theorem Inv.write {x e : Addr} {o : HO} {t' : Nat} (I : Inv X pins σ H s) (mu : Mut (H x)) (he : e = x ∨ H e = some (.own x)) (k : ∀ b u, b ≠ e → s.heap.get? b = some u → h'.get? b = some u) (heo : ∃ u, h'.get? e = some u)
    (new : ObjOk X.prog X.w (upd H x o) h' x o) : Inv X pins σ (upd H x o) { s with heap := h', toks := t' } := I.un (Un.write mu he k heo) (I.hok.write mu he k heo new)
theorem Inv.pins_of {pins' : List (Addr × Obj)} (I : Inv X pins σ H s) (h : ∀ p ∈ pins', s.heap.get? p.1 = some p.2 ∧ H p.1 = none ∧ p.1 ≠ X.env.locals ∧ p.1 ∉ X.fs ∧ ∀ v, p.2.data ≠ .cell v) : Inv X pins' σ H s :=
  ⟨I.ok, I.os, I.bare, I.base, I.loc, I.cell, I.free, I.freeC, fun p hp => (List.mem_append.mp hp).elim (fun z => I.pin p (List.mem_append_left _ z)) (h p), I.hok, I.len⟩
theorem nodup_ix {N : List Str} (hN : N.Nodup) {i j : Nat} {x : Str} (a : N[i]? = some x) (b : N[j]? = some x) : i = j := by
  obtain ⟨h1, e1⟩ := List.getElem?_eq_some_iff.mp a
  obtain ⟨h2, e2⟩ := List.getElem?_eq_some_iff.mp b
  exact (List.getElem_inj hN).mp (e1.trans e2.symm)
theorem store_ok2 {M : Model} {A : Around} {E : Value → Shared → Prop} {i : Nat} {x : Str} {v : V} {u : Value} {Q : Unit → Shared → Prop} (I : Inv X pins σ H s) (hN : X.N.Nodup) (hi : X.N[i]? = some x) (hx : Loc X.env.scope x) (r : RelV v u)
    (h : ∀ s', Inv X pins (σ.set i (some v)) H s' → (∃ a, Heap.SameBut a s.heap s'.heap ∧ (a = X.env.locals ∨ X.env.cells.lookup x = some a)) → Q () s') (hf : X.fn x = true ∨ X.env.scope.names.lookup x = some .local := by first | exact .inl rfl | exact .inr rfl | assumption) : wpAny M A (storeName X.env x u) Q E s := by
  obtain ⟨m, hn, hl⟩ := id I.loc
  have hcls : (X.env.scope.kind == .class || (X.env.scope.kind == .module && X.env.locals != X.env.globals)) = false := by rw [I.ok.kind]; rfl
  have hiσ : i < σ.length := by rw [I.len]; exact (List.getElem?_eq_some_iff.mp hi).1
  have cne := I.cne
  have tracked : ∀ {a : Addr} {h' : Heap}, (∃ o, s.heap.get? a = some o ∧ H a = none) → Heap.SameBut a s.heap h' → HOk X.prog X.w H h' := fun {a h'} ha hs b ob e => by
    obtain ⟨_, _, hfree⟩ := ha
    refine (I.hok b ob e).stay (fun c w' hc q => (hs.2 c ?_).trans q) (fun _ q => q) fun _ _ q => q
    rintro rfl
    rcases hc with rfl | hc
    · rw [hfree] at e; cases e
    · rw [hfree] at hc; cases hc
  rcases hx with hk | hk
  · refine wpAny_storeName_local hk hn (fun h' hn' hs => ?_) hcls
    obtain ⟨oL, _, _, hoL, _⟩ := id hn
    refine h _ ⟨I.ok, I.os, I.bare, ⟨fun b o e n hb hx => ?_, fun b o e n hb hx => ?_, I.base.free, fun b o e hx => ?_, I.base.tups, I.base.frzs, I.base.tbls⟩, ⟨_, hn', fun j y v' e1 e2 e3 => ?_⟩, fun y c e => ?_, I.free, I.freeC, fun p hp => ?_, tracked ⟨oL, hoL, I.free⟩ hs, by simpa using I.len⟩ ⟨_, hs, .inl rfl⟩
    · exact (hs.2 b (Nat.ne_of_lt (Nat.lt_of_lt_of_le (Heap.lt_size e) I.ok.above))).trans (I.base.keep b o e n hb hx)
    · obtain ⟨sl, e1⟩ := I.base.slot b o e n hb hx
      exact ⟨sl, (hs.2 b (Nat.ne_of_lt (Nat.lt_of_lt_of_le (Heap.lt_size e) I.ok.above))).trans e1⟩
    · obtain ⟨o', e1⟩ := I.base.there b o e hx
      exact ⟨o', (hs.2 b (Nat.ne_of_lt (Nat.lt_of_lt_of_le (Heap.lt_size e) I.ok.above))).trans e1⟩
    · by_cases hj : j = i
      · subst hj
        rw [hi] at e1; cases e1
        rw [List.getElem?_set_self hiσ] at e2
        cases e2
        exact ⟨u, r, .inl ⟨hk, by simp⟩⟩
      · rw [List.getElem?_set_ne (Ne.symm hj)] at e2
        obtain ⟨u', r', q⟩ := hl j y v' e1 e2 e3
        refine ⟨u', r', ?_⟩
        rcases q with ⟨k, e⟩ | ⟨k, c, e, z⟩
        · refine .inl ⟨k, ?_⟩
          have : y ≠ x := fun e => hj (nodup_ix hN e1 (e ▸ hi))
          simp [this, e]
        · exact .inr ⟨k, c, e, z.sameBut hs (cne y c e)⟩
    · obtain ⟨w', z⟩ := I.cell y c e
      exact ⟨w', z.sameBut hs (cne y c e)⟩
    · obtain ⟨e, n, ne, nf, d⟩ := I.pin p hp
      exact ⟨(hs.2 p.1 ne).trans e, n, ne, nf, d⟩
  · have hfn : X.fn x = true := by
      rcases hf with z | z
      · exact z
      · rw [z] at hk; cases hk
    obtain ⟨c, hc⟩ := I.ok.has x (.inl hk)
    obtain ⟨w', z⟩ := I.cell x c hc
    refine wpAny_storeName_cell I.ok.kind hk hc z (fun h' hc' hs => ?_)
    obtain ⟨oc, hoc, hocd⟩ := id z
    refine h { s with heap := h' } ⟨I.ok, I.os, I.bare, ⟨fun b o e n hb hx => ?_, fun b o e n hb hx => ?_, I.base.free, fun b o e hx => ?_, I.base.tups, I.base.frzs, I.base.tbls⟩, ⟨m, hn.sameBut hs (Ne.symm (cne x c hc)), fun j y v' e1 e2 e3 => ?_⟩, fun y c' e => ?_, I.free, I.freeC, fun p hp => ?_, tracked ⟨oc, hoc, I.freeC x c hc⟩ hs, by simpa using I.len⟩ ⟨c, hs, .inr hc⟩
    · exact (hs.2 b (Nat.ne_of_lt (Nat.lt_of_lt_of_le (Heap.lt_size e) (I.ok.cab x c hfn hc)))).trans (I.base.keep b o e n hb hx)
    · obtain ⟨sl, e1⟩ := I.base.slot b o e n hb hx
      exact ⟨sl, (hs.2 b (Nat.ne_of_lt (Nat.lt_of_lt_of_le (Heap.lt_size e) (I.ok.cab x c hfn hc)))).trans e1⟩
    · obtain ⟨o', e1⟩ := I.base.there b o e hx
      exact ⟨o', (hs.2 b (Nat.ne_of_lt (Nat.lt_of_lt_of_le (Heap.lt_size e) (I.ok.cab x c hfn hc)))).trans e1⟩
    · by_cases hj : j = i
      · subst hj
        rw [hi] at e1; cases e1
        rw [List.getElem?_set_self hiσ] at e2
        cases e2
        exact ⟨u, r, .inr ⟨.inl hk, c, hc, hc'⟩⟩
      · rw [List.getElem?_set_ne (Ne.symm hj)] at e2
        obtain ⟨u', r', q⟩ := hl j y v' e1 e2 e3
        refine ⟨u', r', ?_⟩
        rcases q with q | ⟨k, c', e, z'⟩
        · exact .inl q
        · refine .inr ⟨k, c', e, z'.sameBut hs ?_⟩
          rintro rfl
          exact hj (nodup_ix hN e1 (I.ok.inj _ _ _ e hc ▸ hi))
    · by_cases hcc : c' = c
      · subst hcc; exact ⟨_, hc'⟩
      · obtain ⟨w2, z2⟩ := I.cell y c' e
        exact ⟨w2, z2.sameBut hs hcc⟩
    · obtain ⟨e, n, ne, nf, d⟩ := I.pin p hp
      refine ⟨(hs.2 p.1 ?_).trans e, n, ne, nf, d⟩
      intro q
      rw [q, hoc] at e
      have q' : oc = p.2 := Option.some.inj e
      exact d w' (by rw [← q']; exact hocd)
theorem store_ok {M : Model} {A : Around} {E : Value → Shared → Prop} {i : Nat} {x : Str} {v : V} {u : Value} {Q : Unit → Shared → Prop} (I : Inv X pins σ H s) (hN : X.N.Nodup) (hi : X.N[i]? = some x) (hx : Loc X.env.scope x) (r : RelV v u)
    (h : ∀ s', Inv X pins (σ.set i (some v)) H s' → Q () s') (hf : X.fn x = true ∨ X.env.scope.names.lookup x = some .local := by first | exact .inl rfl | exact .inr rfl | assumption) : wpAny M A (storeName X.env x u) Q E s :=
  store_ok2 I hN hi hx r (fun s' I' _ => h s' I') hf
theorem Inv.call' {s' : Shared} {ch : List Addr} (I : Inv X pins σ H s) (ho : s'.os = s.os) (u : Un (frs X.stack) ch H H' s.heap s'.heap) (hok : HOk X.prog X.w H' s'.heap) (hg : AllBare s'.gens)
    (hch : ∀ b ∈ ch, (b ∈ X.ex ∨ X.s₀.heap.objs.size ≤ b) ∧ b ≠ X.env.locals ∧ (∀ x c, X.env.cells.lookup x = some c → c ≠ b) ∧ ∀ p ∈ X.pn ++ pins, p.1 ≠ b) : Inv X pins σ H' s' := by
  obtain ⟨h', g', d', t', o'⟩ := s'
  have e : o' = s.os := ho
  subst e
  exact I.call (g' := g') (t' := t') (d' := d') u hok hg hch
end
abbrev XK := Value → Option Addr → Hp → Prop
abbrev St := List (Option V)
abbrev VK := V → Hp → Prop
abbrev TE := St → Hp → VK → Prop
abbrev TT := St → Hp → (Bool → Hp → Prop) → Prop
abbrev TA := St → Hp → (List V → Hp → Prop) → Prop
structure Ends where
  nx : St → Hp → Prop
  rt : VK
  bk : St → Hp → Prop := fun _ _ => False
  ct : St → Hp → Prop := fun _ _ => False
abbrev TS := Ends → St → Hp → Prop
def EP (X : Cx) (pins : List (Addr × Obj)) (σ : St) (Q : VK) (u : Value) (s' : Shared) : Prop := ∃ v H', Inv X pins σ H' s' ∧ RelV v u ∧ Q v H'
def TP (X : Cx) (pins : List (Addr × Obj)) (σ : St) (Q : Bool → Hp → Prop) (b : Bool) (s' : Shared) : Prop := ∃ H', Inv X pins σ H' s' ∧ Q b H'
def AP (X : Cx) (pins : List (Addr × Obj)) (σ : St) (Q : List V → Hp → Prop) (us : List Value) (s' : Shared) : Prop := ∃ vs H', Inv X pins σ H' s' ∧ Vals vs us ∧ Q vs H'
def SP (X : Cx) (pins : List (Addr × Obj)) (D : Ends) (f : Flow) (s' : Shared) : Prop :=
  match f with
  | .next => ∃ σ' H', Inv X pins σ' H' s' ∧ D.nx σ' H'
  | .brk => ∃ σ' H', Inv X pins σ' H' s' ∧ D.bk σ' H'
  | .cont => ∃ σ' H', Inv X pins σ' H' s' ∧ D.ct σ' H'
  | .ret u => ∃ v σ' H', Inv X pins σ' H' s' ∧ RelV v u ∧ D.rt v H'
def PE (X : Cx) (e : Expr) (t : TE) : Prop :=
  ∀ (pins : List (Addr × Obj)) (s : Shared) (σ : St) (H : Hp) (Q : VK), Inv X pins σ H s → t σ H Q → wpAny (model X.prog X.w) X.A (eval e X.env) (EP X pins σ Q) X.xe s
def PT (X : Cx) (e : Expr) (t : TT) : Prop :=
  ∀ (pins : List (Addr × Obj)) (s : Shared) (σ : St) (H : Hp) (Q : Bool → Hp → Prop), Inv X pins σ H s → t σ H Q → wpAny (model X.prog X.w) X.A (isTrue e X.env (eval e X.env)) (TP X pins σ Q) X.xe s
def PW (X : Cx) (e : Expr) (t : TT) : Prop :=
  ∀ (whole : Sem Value) (pins : List (Addr × Obj)) (s : Shared) (σ : St) (H : Hp) (Q : Bool → Hp → Prop), Inv X pins σ H s → t σ H Q → wpAny (model X.prog X.w) X.A (isTrue e X.env whole) (TP X pins σ Q) X.xe s
theorem PW.pt {X : Cx} {e : Expr} {t : TT} (h : PW X e t) : PT X e t := h _
def PA (X : Cx) (es : List Expr) (t : TA) : Prop :=
  ∀ (pos : Pos) (pins : List (Addr × Obj)) (s : Shared) (σ : St) (H : Hp) (Q : List V → Hp → Prop), Inv X pins σ H s → t σ H Q → wpAny (model X.prog X.w) X.A (spliced (backTo pos (starEach es X.env))) (AP X pins σ Q) X.xe s
def PS (X : Cx) (st : Stmt) (t : TS) : Prop :=
  ∀ (pins : List (Addr × Obj)) (s : Shared) (σ : St) (H : Hp) (D : Ends), Inv X pins σ H s → t D σ H → wpAny (model X.prog X.w) X.A (exec st X.env) (SP X pins D) X.xe s
def PSs (X : Cx) (st : List Stmt) (t : TS) : Prop :=
  ∀ (pins : List (Addr × Obj)) (s : Shared) (σ : St) (H : Hp) (D : Ends), Inv X pins σ H s → t D σ H → wpAny (model X.prog X.w) X.A (execs st X.env) (SP X pins D) X.xe s
theorem thn {α : Type} {t : Sem α} {Q Q' : α → Shared → Prop} {M : Model} {A : Around} {E : Value → Shared → Prop} {s : Shared} (h : wpAny M A t Q E s) (hQ : ∀ a s, Q a s → Q' a s) : wpAny M A t Q' E s := wpAny_mono h hQ fun _ _ x => x
end L2
namespace L2
open PySem PySem.Spec PyProof.Rows
section
variable {X : Cx}
def tVar (i : Nat) : TE := fun σ H Q => ∃ v, σ[i]? = some (some v) ∧ Q v H
def tC (v : V) : TE := fun _ H Q => Q v H
theorem pe_var {i : Nat} {x : Str} {pos : Pos} (hN : X.N[i]? = some x) (hv : Vis X.env.scope x) (hd : (x == ("__debug__" : Str)) = false := by decide) (hcd : (x == ("__classdict__" : Str)) = false := by decide) : PE X (.Name x pos) (tVar i) := by
  intro pins s σ H Q I h
  obtain ⟨v, e, h⟩ := h
  obtain ⟨m, hn, hl⟩ := I.loc
  obtain ⟨u, r, l⟩ := hl i x v hN e hv
  have fin : EP X pins σ Q u s := ⟨v, H, I, r, h⟩
  rcases l with ⟨hk, hm⟩ | ⟨hk, c, hc, hcell⟩
  · exact wpAny_Name (wpAny_loadName_local I.ok.kind hk hn hm fin) hd
  · rcases hk with hk | hk
    · exact wpAny_Name (wpAny_loadName_cell I.ok.kind hk hc hcell fin) hd
    · exact wpAny_Name (wpAny_loadName_free I.ok.kind hk hc hcell fin hcd) hd
theorem pe_int {i j pos} : PE X (.Constant (.int i) j pos) (tC (.int i)) := fun _ _ _ H _ I h => wpAny_Constant_int ⟨.int i, H, I.tok _, ⟨_, rfl⟩, h⟩
theorem pe_bl {b j pos} : PE X (.Constant (.bool b) j pos) (tC (.bl b)) := fun _ _ _ H _ I h => Constant_bool ⟨.bl b, H, I, rfl, h⟩
theorem pe_str {x j pos} : PE X (.Constant (.str x) j pos) (tC (.str x)) := fun _ _ _ H _ I h => Calls.Constant_str ⟨.str x, H, I.tok _, ⟨_, rfl⟩, h⟩
def Gl (X : Cx) (x : Str) : Prop := X.env.kindOf x = some .globalImplicit
theorem ld_glob {E : Value → Shared → Prop} {pins : List (Addr × Obj)} {s : Shared} {σ : St} {H : Hp} {x : Str} {u : Value} {pos : Pos} {Q : Value → Shared → Prop} (I : Inv X pins σ H s) (hg : Gl X x) (hm : X.mg x = some u) (h : Q u s)
    (hd : (x == ("__debug__" : Str)) = false := by decide) : wpAny (model X.prog X.w) X.A (eval (.Name x pos) X.env) Q E s :=
  Calls.Name_function_global I.ok.kind hg (Calls.loadGlobal_global (by rw [I.ok.glob]; exact I.mod.glob.keeps I.bk) hm h) hd
theorem ld_blt {E : Value → Shared → Prop} {pins : List (Addr × Obj)} {s : Shared} {σ : St} {H : Hp} {x : Str} {u : Value} {pos : Pos} {Q : Value → Shared → Prop} (I : Inv X pins σ H s) (hg : Gl X x) (hm : X.mg x = none) (hv : bootBuiltins x = some u) (h : Q u s)
    (hn : x ≠ "__name__" := by decide) (hd : (x == ("__debug__" : Str)) = false := by decide) : wpAny (model X.prog X.w) X.A (eval (.Name x pos) X.env) Q E s := by
  obtain ⟨mb, h1, h2⟩ := I.mod.blt
  exact Calls.Name_function_global I.ok.kind hg (Calls.loadGlobal_builtin (by rw [I.ok.glob]; exact I.mod.glob.keeps I.bk) hm (by rw [I.ok.blt]; exact h1.keeps I.bk) ((h2 x hn).trans hv) h) hd
theorem pe_glob {x : Str} {v : V} {u : Value} {pos : Pos} (hg : Gl X x) (hm : X.mg x = some u) (r : RelV v u) (hd : (x == ("__debug__" : Str)) = false := by decide) : PE X (.Name x pos) (tC v) :=
  fun _ _ _ H _ I h => ld_glob I hg hm ⟨v, H, I, r, h⟩ hd
theorem pe_bltn {x : Str} {v : V} {u : Value} {pos : Pos} (hg : Gl X x) (hm : X.mg x = none) (hv : bootBuiltins x = some u) (r : RelV v u) (hn : x ≠ "__name__" := by decide) (hd : (x == ("__debug__" : Str)) = false := by decide) : PE X (.Name x pos) (tC v) :=
  fun _ _ _ H _ I h => ld_blt I hg hm hv ⟨v, H, I, r, h⟩ hn hd
variable {a b : Expr} {ta tb : TE} {pos : Pos}
def PC (X : Cx) (op : CmpOp) (a b : Expr) (t : TE) : Prop :=
  ∀ (pins : List (Addr × Obj)) (s : Shared) (σ : St) (H : Hp) (Q : VK), Inv X pins σ H s → t σ H Q →
    wpAny (model X.prog X.w) X.A (eval a X.env) (fun v s₁ => wpAny (model X.prog X.w) X.A (eval b X.env) (fun u s₂ => wpAny (model X.prog X.w) X.A (compareOp op v u) (EP X pins σ Q) X.xe s₂) X.xe s₁) X.xe s
theorem nobehind (b : Expr) {op : CmpOp} (h : op ≠ .In) (h2 : op ≠ .NotIn) : behindInMarks op b = false := by
  have e1 : (op == CmpOp.In) = false := by cases op <;> first | rfl | exact absurd rfl h
  have e2 : (op == CmpOp.NotIn) = false := by cases op <;> first | rfl | exact absurd rfl h2
  cases b <;> simp [behindInMarks, e1, e2]
def tB (t : TE) : TT := fun σ H Q => t σ H fun x H1 => ∃ c, x = .bl c ∧ Q c H1
theorem pe_cmp {op : CmpOp} {t : TE} (h : PC X op a b t) (h1 : behindInMarks op b = false := by first | exact nobehind _ (by decide) (by decide) | rfl) : PE X (.Compare a [op] [b] pos) t := fun pins s σ H Q I hw => wpAny_Compare1 (h pins s σ H Q I hw) h1
theorem pt_cmp {op : CmpOp} {t : TE} (h : PC X op a b t) (h1 : behindInMarks op b = false := by first | exact nobehind _ (by decide) (by decide) | rfl) : PT X (.Compare a [op] [b] pos) (tB t) := by
  intro pins s σ H Q I hw
  refine wpAny_isTrue_Compare1 (thn (h pins s σ H _ I hw) fun v s1 h1 => thn h1 fun u s2 h2 => thn h2 fun c s3 ⟨x, H1, I1, r1, q1⟩ => ?_) h1
  obtain ⟨d, rfl, q⟩ := q1
  cases r1
  exact wpAny_truthy_bool ⟨H1, I1, q⟩
theorem pt_val {e : Expr} {t : TE} (h : PE X e t) (he : ∀ whole, isTrue e X.env whole = (do let v ← whole; standAt e.pos; holding [v] (truthy v)) := by intro _; rfl) : PT X e (tB t) := by
  intro pins s σ H Q I hw
  refine isTrue_plain (thn (h pins s σ H _ I hw) fun v s1 ⟨x, H1, I1, r1, q1⟩ => ?_) (he _)
  obtain ⟨d, rfl, q⟩ := q1
  cases r1
  exact wpAny_truthy_bool ⟨H1, I1, q⟩
variable {tA tB' : TT} {rest : List Expr}
def tAnd (t u : TT) : TT := fun σ H Q => t σ H fun c H1 => if c = true then u σ H1 Q else Q false H1
def tOr (t u : TT) : TT := fun σ H Q => t σ H fun c H1 => if c = true then Q true H1 else u σ H1 Q
def tNot (t : TT) : TT := fun σ H Q => t σ H fun c H1 => Q (!c) H1
theorem pw_and1 (ha : PT X a tA) : PW X (.BoolOp .And [a] pos) tA := by
  intro wh pins s σ H Q I h
  refine isTrue_and (thn (ha pins s σ H Q I h) fun c s1 e => ?_)
  cases c with
  | true => exact isTrue_and_nil e
  | false => exact e
theorem pw_or1 (ha : PT X a tA) : PW X (.BoolOp .Or [a] pos) tA := by
  intro wh pins s σ H Q I h
  refine isTrue_or (thn (ha pins s σ H Q I h) fun c s1 e => ?_)
  cases c with
  | false => exact isTrue_or_nil e
  | true => exact e
theorem pw_and (ha : PT X a tA) (hb : PW X (.BoolOp .And (b :: rest) pos) tB') : PW X (.BoolOp .And (a :: b :: rest) pos) (tAnd tA tB') := by
  intro wh pins s σ H Q I h
  refine isTrue_and (thn (ha pins s σ H _ I h) fun c s1 ⟨H1, I1, q1⟩ => ?_)
  cases c with
  | true => exact hb wh pins s1 σ H1 Q I1 q1
  | false => exact ⟨H1, I1, q1⟩
theorem pw_or (ha : PT X a tA) (hb : PW X (.BoolOp .Or (b :: rest) pos) tB') : PW X (.BoolOp .Or (a :: b :: rest) pos) (tOr tA tB') := by
  intro wh pins s σ H Q I h
  refine isTrue_or (thn (ha pins s σ H _ I h) fun c s1 ⟨H1, I1, q1⟩ => ?_)
  cases c with
  | true => exact ⟨H1, I1, q1⟩
  | false => exact hb wh pins s1 σ H1 Q I1 q1
theorem pt_not (ha : PT X a tA) : PT X (.UnaryOp .Not a pos) (tNot tA) := by
  intro pins s σ H Q I h
  exact isTrue_not (ha pins s σ H (fun c H1 => Q (!c) H1) I h)
def tAndV (ta tb : TE) : TE := fun σ H Q => ta σ H fun x H1 => ∃ c, x = .bl c ∧ if c = true then tb σ H1 Q else Q (.bl false) H1
theorem pe_one {op} {t : TE} (h : PE X a t) : PE X (.BoolOp op [a] pos) t := fun pins s σ H Q I hw => BoolOp_one (h pins s σ H Q I hw)
theorem pe_and (ha : PE X a ta) (hb : PE X (.BoolOp .And (b :: rest) pos) tb) : PE X (.BoolOp .And (a :: b :: rest) pos) (tAndV ta tb) := by
  intro pins s σ H Q I h
  refine BoolOp_and (thn (ha pins s σ H _ I h) fun v s1 ⟨x, H1, I1, r1, q1⟩ => ?_)
  obtain ⟨c, rfl, q1⟩ := q1
  cases r1
  refine wpAny_truthy_bool ?_
  cases c with
  | true => exact hb pins s1 σ H1 Q I1 q1
  | false => exact ⟨.bl false, H1, I1, rfl, q1⟩
end
end L2
namespace L2
open PySem PySem.Spec PyProof.Rows
def SqL (K : PySem.W.Frag) (H : Hp) (a : Addr) (xs : List V) : Prop :=
  Rd H a (.lst xs) ∨
    ∃ (o : Obj) (its : Array Value) (n : Nat), K.lookup a = some o ∧ o.cls = .type "list" ∧ o.dict = none ∧ o.data = .seq its n ∧ its.size ≤ sizeLine ∧ Vals xs its.toList
def SqT (K : PySem.W.Frag) (H : Hp) (a : Addr) (xs : List V) : Prop :=
  Rd H a (.tup xs) ∨
    ∃ (o : Obj) (its : Array Value) (n : Nat), K.lookup a = some o ∧ o.cls = .type "tuple" ∧ o.data = .seq its n ∧ its.size ≤ sizeLine ∧ Vals xs its.toList
def absV : Value → Option V
  | .none => some .non
  | .bool b => some (.bl b)
  | .int i _ => some (.int i)
  | .str x _ => some (.str x)
  | .bytes b _ => some (.byt b)
  | .float b _ => some (.flt b)
  | .ref a => some (.ref a)
  | .type n => some (.ty n)
  | _ => none
theorem RelV.abs {x : V} {u : Value} (r : RelV x u) : absV u = some x := by
  cases x with
  | non => cases r; rfl
  | bl _ => cases r; rfl
  | int _ => obtain ⟨t, rfl⟩ := r; rfl
  | str _ => obtain ⟨t, rfl⟩ := r; rfl
  | byt _ => obtain ⟨t, rfl⟩ := r; rfl
  | flt _ => obtain ⟨t, rfl⟩ := r; rfl
  | ref _ => cases r; rfl
  | ty _ => cases r; rfl
theorem RelV.inj {x y : V} {u : Value} (r : RelV x u) (q : RelV y u) : x = y := Option.some.inj (r.abs.symm.trans q.abs)
theorem Vals.inj : ∀ {xs ys : List V} {us : List Value}, Vals xs us → Vals ys us → xs = ys
  | _, _, _, .nil, .nil => rfl
  | _, _, _, .cons r t, .cons r' t' => by rw [r.inj r', Vals.inj t t']
section
variable {X : Cx} {pins : List (Addr × Obj)} {σ : St} {H : Hp} {s : Shared} {a : Addr} {xs ys : List V}
theorem SqL.of {K : PySem.W.Frag} (h : H a = some (.lst xs)) : SqL K H a xs := .inl (.inl h)
theorem SqT.of {K : PySem.W.Frag} (h : H a = some (.tup xs)) : SqT K H a xs := .inl (.inl h)
theorem Inv.list (I : Inv X pins σ H s) (h : SqL X.K H a xs) : ∃ its : List Value, Vals xs its ∧ PlainL s.heap a its.toArray ∧ xs.length ≤ sizeLine := by
  rcases h with h | ⟨o, its, n, hk, hc, hd, hs, hz, r⟩
  · obtain ⟨z, its, n, r, e⟩ := h.ok I.hok
    exact ⟨its, r, ⟨_, n, e, rfl, rfl, rfl⟩, z⟩
  · refine ⟨its.toList, r, ⟨o, n, I.kIn a o hk, hc, hd, by simpa using hs⟩, ?_⟩
    have e := r.length
    simp only [Array.length_toList] at e
    omega
theorem Inv.tuple (I : Inv X pins σ H s) (h : SqT X.K H a xs) : ∃ its : List Value, Vals xs its ∧ IsTup s.heap a its.toArray ∧ xs.length ≤ sizeLine := by
  rcases h with h | ⟨o, its, n, hk, hc, hs, hz, r⟩
  · obtain ⟨z, its, r, p⟩ := h.ok I.hok
    exact ⟨its, r, p, z⟩
  · refine ⟨its.toList, r, ⟨o, I.kIn a o hk, hc, n, by simpa using hs⟩, ?_⟩
    have e := r.length
    simp only [Array.length_toList] at e
    omega
theorem Inv.list_inj (I : Inv X pins σ H s) (h : SqL X.K H a xs) (h' : SqL X.K H a ys) : xs = ys := by
  obtain ⟨its, r, ⟨o, n, e, _, _, d⟩, _⟩ := I.list h
  obtain ⟨its', r', ⟨o', n', e', _, _, d'⟩, _⟩ := I.list h'
  rw [e] at e'; cases e'
  rw [d] at d'
  injection d' with d1 _
  have : its = its' := by simpa using congrArg Array.toList d1
  subst this
  exact r.inj r'
theorem Inv.tuple_inj (I : Inv X pins σ H s) (h : SqT X.K H a xs) (h' : SqT X.K H a ys) : xs = ys := by
  obtain ⟨its, r, ⟨o, e, _, n, d⟩, _⟩ := I.tuple h
  obtain ⟨its', r', ⟨o', e', _, n', d'⟩, _⟩ := I.tuple h'
  rw [e] at e'; cases e'
  rw [d] at d'
  injection d' with d1 _
  have : its = its' := by simpa using congrArg Array.toList d1
  subst this
  exact r.inj r'
end
abbrev Cx.wish (X : Cx) (E : Value → Shared → Prop) : Cx := { X with xe := E }
abbrev Cx.nox (X : Cx) : Cx := X.wish fun _ _ => False
theorem Cx.Ok.wish {X : Cx} (ok : X.Ok) (E : Value → Shared → Prop) : (X.wish E).Ok :=
  ⟨ok.mod, ok.kind, ok.glob, ok.blt, ok.above, ok.inj, ok.has, ok.cab, ok.hd, ok.frames, ok.stk, ok.exf, ok.bs, ok.bsz, ok.noex, ok.exfs, ok.funs, ok.frf⟩
theorem Cx.Ok.unwish {X : Cx} {E : Value → Shared → Prop} (ok : (X.wish E).Ok) : X.Ok :=
  ⟨ok.mod, ok.kind, ok.glob, ok.blt, ok.above, ok.inj, ok.has, ok.cab, ok.hd, ok.frames, ok.stk, ok.exf, ok.bs, ok.bsz, ok.noex, ok.exfs, ok.funs, ok.frf⟩
section
variable {X : Cx} {pins : List (Addr × Obj)} {σ : St} {H : Hp} {s : Shared} {E : Value → Shared → Prop}
theorem Inv.wish (I : Inv X pins σ H s) (E : Value → Shared → Prop) : Inv (X.wish E) pins σ H s := ⟨I.ok.wish E, I.os, I.bare, I.base, I.loc, I.cell, I.free, I.freeC, I.pin, I.hok, I.len⟩
theorem Inv.unwish (I : Inv (X.wish E) pins σ H s) : Inv X pins σ H s := ⟨I.ok.unwish, I.os, I.bare, I.base, I.loc, I.cell, I.free, I.freeC, I.pin, I.hok, I.len⟩
theorem SP.unwish {D : Ends} {f : Flow} {s' : Shared} (h : SP (X.wish E) pins D f s') : SP X pins D f s' := by
  cases f with
  | next => obtain ⟨σ', H', I, q⟩ := h; exact ⟨σ', H', I.unwish, q⟩
  | brk => obtain ⟨σ', H', I, q⟩ := h; exact ⟨σ', H', I.unwish, q⟩
  | cont => obtain ⟨σ', H', I, q⟩ := h; exact ⟨σ', H', I.unwish, q⟩
  | ret u => obtain ⟨v, σ', H', I, r, q⟩ := h; exact ⟨v, σ', H', I.unwish, r, q⟩
theorem PE.nox {e : Expr} {t : TE} (h : PE X.nox e t) : PE X e t := fun pins s σ H Q I hw =>
  wpAny_mono (h pins s σ H Q (I.wish _) hw) (fun _ _ ⟨v, H', I', r, q⟩ => ⟨v, H', I'.unwish, r, q⟩) fun _ _ z => False.elim z
theorem PT.nox {e : Expr} {t : TT} (h : PT X.nox e t) : PT X e t := fun pins s σ H Q I hw =>
  wpAny_mono (h pins s σ H Q (I.wish _) hw) (fun _ _ ⟨H', I', q⟩ => ⟨H', I'.unwish, q⟩) fun _ _ z => False.elim z
theorem PSs.nox {st : List Stmt} {t : TS} (h : PSs X.nox st t) : PSs X st t := fun pins s σ H D I hw =>
  wpAny_mono (h pins s σ H D (I.wish _) hw) (fun _ _ q => q.unwish) fun _ _ z => False.elim z
end
section
variable {X : Cx} {st : Stmt} {rest : List Stmt} {t u : TS} {e : Expr} {te : TE} {pos : Pos}
def tNext : TS := fun D σ H => D.nx σ H
def tSeq (t u : TS) : TS := fun D σ H => t { D with nx := u D } σ H
theorem pss_nil : PSs X [] tNext := fun _ _ σ H _ I h => wpAny_execs_nil ⟨σ, H, I, h⟩
theorem pss_cons (h1 : PS X st t) (h2 : PSs X rest u) : PSs X (st :: rest) (tSeq t u) := by
  intro pins s σ H D I h
  refine wpAny_execs_cons (thn (h1 pins s σ H { D with nx := u D } I h) fun f s1 q => ?_)
  cases f with
  | next =>
    obtain ⟨σ', H', I', q⟩ := q
    exact h2 pins s1 σ' H' D I' q
  | ret v => exact q
  | brk => exact q
  | cont => exact q
theorem pss_one (h1 : PS X st t) : PSs X [st] t := by
  intro pins s σ H D I h
  refine wpAny_execs_cons (thn (h1 pins s σ H D I h) fun f s1 q => ?_)
  cases f with
  | next => exact wpAny_execs_nil q
  | ret v => exact q
  | brk => exact q
  | cont => exact q
theorem Inv.quiet {pins : List (Addr × Obj)} {σ : St} {H : Hp} {s : Shared} (I : Inv X pins σ H s) : interactive X.env = false := by simp [interactive, I.ok.kind]
def tDrop (te : TE) : TS := fun D σ H => te σ H fun _ H1 => D.nx σ H1
theorem ps_expr (he : PE X e te) (hs : swapsWith e none pos.line X.env = pure false := by rfl) : PS X (.Expr e pos) (tDrop te) := by
  intro pins s σ H D I h
  exact wpAny_Expr_any (thn (he pins s σ H _ I h) fun v s1 ⟨x, H1, I1, r1, q1⟩ => ⟨σ, H1, I1, q1⟩) I.quiet hs
def tRet (te : TE) : TS := fun D σ H => te σ H D.rt
theorem ps_ret (he : PE X e te) : PS X (.Return (some e) pos) (tRet te) := by
  intro pins s σ H D I h
  exact wpAny_Return_some (thn (he pins s σ H _ I h) fun v s1 ⟨x, H1, I1, r1, q1⟩ => ⟨x, σ, H1, I1, r1, q1⟩)
def tIfS (c : TT) (t u : TS) : TS := fun D σ H => c σ H fun b H1 => if b = true then t D σ H1 else u D σ H1
theorem ps_if {c : Expr} {a b : List Stmt} {tc : TT} (hc : PT X c tc) (ha : PSs X a t) (hb : PSs X b u) : PS X (.If c a b pos) (tIfS tc t u) := by
  intro pins s σ H D I h
  refine wpAny_If (thn (hc pins s σ H _ I h) fun d s1 ⟨H1, I1, q1⟩ => ?_)
  cases d with
  | true => exact ha pins s1 σ H1 D I1 q1
  | false => exact hb pins s1 σ H1 D I1 q1
end
abbrev TG := V → St → Hp → (St → Hp → Prop) → Prop
abbrev TGs := List V → St → Hp → (St → Hp → Prop) → Prop
def PG (X : Cx) (target : Expr) (t : TG) : Prop :=
  ∀ (pins : List (Addr × Obj)) (s : Shared) (σ : St) (H : Hp) (v : V) (u : Value) (Q : St → Hp → Prop), Inv X pins σ H s → RelV v u → t v σ H Q →
    wpAny (model X.prog X.w) X.A (assign target X.env u) (fun _ s' => ∃ σ' H', Inv X pins σ' H' s' ∧ Q σ' H') X.xe s
def PGs (X : Cx) (ts : List Expr) (t : TGs) : Prop :=
  ∀ (pins : List (Addr × Obj)) (s : Shared) (σ : St) (H : Hp) (vs : List V) (us : List Value) (Q : St → Hp → Prop), Inv X pins σ H s → Vals vs us → t vs σ H Q →
    wpAny (model X.prog X.w) X.A (assignInOrder ((assignEach ts X.env).map (·.2)) us) (fun _ s' => ∃ σ' H', Inv X pins σ' H' s' ∧ Q σ' H') X.xe s
abbrev TSet := V → V → V → Hp → (Hp → Prop) → Prop
def PSet (X : Cx) (t : TSet) : Prop :=
  ∀ (pins : List (Addr × Obj)) (s : Shared) (σ : St) (H : Hp) (o i v : V) (ov iv u : Value) (Q : Hp → Prop), Inv X pins σ H s → RelV o ov → RelV i iv → RelV v u → t o i v H Q →
    wpAny (model X.prog X.w) X.A (setItem ov iv u) (fun _ s' => ∃ H', Inv X pins σ H' s' ∧ Q H') X.xe s
abbrev TIp := V → V → Hp → VK → Prop
def PIp (X : Cx) (op : Operator) (t : TIp) : Prop :=
  ∀ (pins : List (Addr × Obj)) (s : Shared) (σ : St) (H : Hp) (x y : V) (v u : Value) (Q : VK), Inv X pins σ H s → RelV x v → RelV y u → t x y H Q →
    wpAny (model X.prog X.w) X.A (inplaceOp op v u) (EP X pins σ Q) X.xe s
section
variable {X : Cx} {pos : Pos}
def gName (i : Nat) : TG := fun v σ H Q => Q (σ.set i (some v)) H
theorem pg_name {i : Nat} {x : Str} (hN : X.N.Nodup) (hi : X.N[i]? = some x) (hx : Loc X.env.scope x) (hf : X.fn x = true ∨ X.env.scope.names.lookup x = some .local := by first | exact .inl rfl | exact .inr rfl | assumption) : PG X (.Name x pos) (gName i) := by
  intro pins s σ H v u Q I r h
  exact wpAny_assign_Name (store_ok I hN hi hx r (fun s' I' => ⟨_, H, I', h⟩) hf)
def gNil : TGs := fun vs σ H Q => vs = [] ∧ Q σ H
def gCons (t : TG) (u : TGs) : TGs := fun vs σ H Q => ∃ v r, vs = v :: r ∧ t v σ H fun σ' H' => u r σ' H' Q
theorem pgs_nil : PGs X [] gNil := by
  intro pins s σ H vs us Q I r h
  obtain ⟨e, h⟩ := h
  subst e
  cases r
  exact assignInOrder_nil ⟨σ, H, I, h⟩
theorem pgs_cons {e : Expr} {es : List Expr} {t : TG} {u : TGs} (h1 : PG X e t) (h2 : PGs X es u)
    (hs : (assignEach (e :: es) X.env).map (·.2) = assign e X.env :: (assignEach es X.env).map (·.2) := by rfl) : PGs X (e :: es) (gCons t u) := by
  intro pins s σ H vs us Q I r h
  obtain ⟨v, vr, e1, h⟩ := h
  subst e1
  cases r with
  | cons r rr =>
    rw [hs]
    refine assignInOrder_cons (thn (h1 pins s σ H _ _ _ I r h) fun _ s1 ⟨σ1, H1, I1, q1⟩ => ?_)
    exact h2 pins s1 σ1 H1 _ _ Q I1 rr q1
def gTup (K : PySem.W.Frag) (n : Nat) (t : TGs) : TG := fun v σ H Q => ∃ a xs, v = .ref a ∧ SqT K H a xs ∧ xs.length = n ∧ t xs σ H Q
theorem pg_tup {es : List Expr} {k : Nat} {t : TGs} {n : Nat} (hc : X.calm = true) (h : PGs X es t)
    (hn : (assignEach es X.env).length = n := by rfl) (hst : (assignEach es X.env).findIdx? (·.1) = none := by rfl) : PG X (.Tuple es k pos) (gTup X.K n t) := by
  intro pins s σ H v u Q I r hw
  obtain ⟨a, xs, e1, hq, hl, hw⟩ := hw
  subst e1
  cases r
  obtain ⟨its, rv, ht, hz⟩ := I.tuple hq
  refine assign_Tuple_tuple (I.ok.hd hc) ht (by simp [hn, ← hl, rv.length]) hst fun h' hx => ?_
  have I1 : Inv X pins σ H { s with heap := h' } := I.kept (t' := s.toks) fun b o e => hx b o (Nat.ne_of_lt (Heap.lt_size e)) e
  exact h pins _ σ H xs _ Q I1 (by simpa using rv) hw
def tAsg (te : TE) (g : TG) : TS := fun D σ H => te σ H fun x H1 => g x σ H1 D.nx
theorem ps_set {i : Nat} {x : Str} {e : Expr} {te : TE} {pos' : Pos} (hN : X.N.Nodup) (hi : X.N[i]? = some x) (hx : Loc X.env.scope x) (he : PE X e te) (hs : swapsWith e (some (.Name x pos')) pos.line X.env = pure false := by rfl) (hf : X.fn x = true ∨ X.env.scope.names.lookup x = some .local := by first | exact .inl rfl | exact .inr rfl | assumption) :
    PS X (.Assign [.Name x pos'] e pos) (tAsg te (gName i)) := by
  intro pins s σ H D I h
  refine wpAny_Assign_Name (thn (he pins s σ H _ I h) fun v s1 ⟨y, H1, I1, r1, q1⟩ => ?_) hs
  exact store_ok I1 hN hi hx r1 (fun s2 I2 => ⟨_, H1, I2, q1⟩) hf
def tAugS (to ti te : TE) (tget : V → V → Hp → VK → Prop) (tip : TIp) (tset : TSet) : TS := fun D σ H => to σ H fun o H1 => ti σ H1 fun i H2 => tget o i H2 fun x H3 => te σ H3 fun y H4 => tip x y H4 fun z H5 => tset o i z H5 fun H6 => D.nx σ H6
def PGet (X : Cx) (t : V → V → Hp → VK → Prop) : Prop :=
  ∀ (pins : List (Addr × Obj)) (s : Shared) (σ : St) (H : Hp) (o i : V) (ov iv : Value) (Q : VK), Inv X pins σ H s → RelV o ov → RelV i iv → t o i H Q →
    wpAny (model X.prog X.w) X.A (getItem ov iv) (EP X pins σ Q) X.xe s
theorem ps_augS {o i e : Expr} {to ti te : TE} {tget : V → V → Hp → VK → Prop} {tip : TIp} {tset : TSet} {op : Operator} {tpos : Pos} (ho : PE X o to) (hi : PE X i ti) (hg : PGet X tget) (he : PE X e te) (hp : PIp X op tip) (hs : PSet X tset)
    (ha : ∀ ov iv new, augStore i ov iv new = (do holding [new, ov, iv] (setItem ov iv new); release [new, ov, iv] []; pure .next) := by intros; rfl) : PS X (.AugAssign (.Subscript o i tpos) op e pos) (tAugS to ti te tget tip tset) := by
  intro pins s σ H D I h
  refine wpAny_AugAssign_SubscriptAny (thn (ho pins s σ H _ I h) fun ov s1 ⟨x1, H1, I1, r1, q1⟩ => ?_) ha
  refine thn (hi pins s1 σ H1 _ I1 q1) fun iv s2 ⟨x2, H2, I2, r2, q2⟩ => ?_
  refine thn (hg pins s2 σ H2 x1 x2 ov iv _ I2 r1 r2 q2) fun old s3 ⟨x3, H3, I3, r3, q3⟩ => ?_
  refine thn (he pins s3 σ H3 _ I3 q3) fun v s4 ⟨x4, H4, I4, r4, q4⟩ => ?_
  refine thn (hp pins s4 σ H4 x3 x4 old v _ I4 r3 r4 q4) fun new s5 ⟨x5, H5, I5, r5, q5⟩ => ?_
  exact thn (hs pins s5 σ H5 x1 x2 x5 ov iv new _ I5 r1 r2 r5 q5) fun _ s6 ⟨H6, I6, q6⟩ => ⟨σ, H6, I6, q6⟩
end
section
variable {X : Cx} {pos : Pos}
end
structure It where
  go : Nat → Hp → Prop
  yld : Nat → Hp → V → Hp → Prop
  stop : Nat → Hp → Prop
def FpOk (X : Cx) (pins : List (Addr × Obj)) (H : Hp) (b : Addr) : Prop :=
  H b = none ∧ b ≠ X.env.locals ∧ b ∉ X.fs ∧ (b ∈ X.ex ∨ X.s₀.heap.objs.size ≤ b) ∧ (∀ x c, X.env.cells.lookup x = some c → c ≠ b) ∧ ∀ p ∈ X.pn ++ pins, p.1 ≠ b
theorem Inv.fpOk {X : Cx} {pins : List (Addr × Obj)} {σ : St} {H H' : Hp} {s : Shared} {b : Addr} (I : Inv X pins σ H s) (hb : s.heap.objs.size ≤ b) (hn : H' b = none) : FpOk X pins H' b := by
  refine ⟨hn, Nat.ne_of_gt (Nat.lt_of_lt_of_le I.lt hb), I.nofs hb, .inr (Nat.le_trans I.sz hb), fun x c e z => ?_, fun p hp z => ?_⟩
  · obtain ⟨v, q⟩ := I.cell x c e
    exact absurd (Nat.lt_of_lt_of_le q.lt (by rw [z]; exact hb)) (Nat.lt_irrefl _)
  · exact absurd (Nat.lt_of_lt_of_le (Heap.lt_size (I.pin p hp).1) (by rw [z]; exact hb)) (Nat.lt_irrefl _)
structure Turn (P : Program) (w : World) (K : PySem.W.Frag) (tg : Expr) (J : It) (fp : List Addr) (it : Addr) (tn : Nat → Heap → Prop) : Prop where
  mem : it ∈ fp
  obj : ∀ i h, tn i h → ∀ b ∈ fp, ∃ o, h.get? b = some o ∧ ∀ v, o.data ≠ .cell v
  keep : ∀ i h h', tn i h → (∀ b ∈ fp, ∀ o, h.get? b = some o → h'.get? b = some o) → tn i h'
  item : ∀ (X : Cx), X.prog = P → X.w = w → X.K = K → X.calm = true → ∀ (i : Nat) (pins : List (Addr × Obj)) (s : Shared) (σ : St) (H : Hp) (E : Value → Shared → Prop), Inv X pins σ H s → (∀ b ∈ fp, FpOk X pins H b) → tn i s.heap → J.go i H →
    wpAny (model P w) X.A (pyNext (.ref it)) (fun r s1 => ∃ u, r = some u ∧
      wpAny (model P w) X.A (letOwnedTupleGo tg (.ref it) u) (fun _ s2 => ∃ x H', Inv X pins σ H' s2 ∧ RelV x u ∧ J.yld i H x H' ∧ tn (i + 1) s2.heap ∧ ∀ b ∈ fp, H' b = none) E s1) E s
  done : ∀ (X : Cx), X.prog = P → X.w = w → X.K = K → X.calm = true → ∀ (i : Nat) (pins : List (Addr × Obj)) (s : Shared) (σ : St) (H : Hp) (E : Value → Shared → Prop), Inv X pins σ H s → (∀ b ∈ fp, FpOk X pins H b) → tn i s.heap → J.stop i H →
    wpAny (model P w) X.A (pyNext (.ref it)) (fun r s1 => r = none ∧ Inv X pins σ H s1) E s
  self : ∀ (A : Around) (i : Nat) (s : Shared) (Q : Value → Shared → Prop) (E : Value → Shared → Prop), tn i s.heap → Q (.ref it) s → wpAny (model P w) A (pyIter (.ref it)) Q E s
abbrev TI := St → Hp → (It → Hp → Prop) → Prop
def PIE (X : Cx) (pins : List (Addr × Obj)) (σ : St) (tg : Expr) (R : It → Hp → Prop) (itv : Value) (s2 : Shared) : Prop :=
  ∃ (it : Addr) (fp : List Addr) (tn : Nat → Heap → Prop) (J : It) (H' : Hp), itv = .ref it ∧ Inv X pins σ H' s2 ∧ Turn X.prog X.w X.K tg J fp it tn ∧ tn 0 s2.heap ∧ (∀ b ∈ fp, FpOk X pins H' b) ∧ R J H'
def PI (X : Cx) (tg iter : Expr) (wi : TI) : Prop :=
  ∀ (pins : List (Addr × Obj)) (s : Shared) (σ : St) (H : Hp) (R : It → Hp → Prop), Inv X pins σ H s → wi σ H R →
    wpAny (model X.prog X.w) X.A (eval iter X.env) (fun v s1 => wpAny (model X.prog X.w) X.A (pyIter v) (PIE X pins σ tg R) X.xe s1) X.xe s
theorem go_of {M : Model} {A : Around} {E : Value → Shared → Prop} {s : Shared} {tg : Expr} {it : Addr} {u : Value} {o : Obj} {n : String} {vs : Array Value} {Q : Unit → Shared → Prop} (ho : s.heap.get? it = some o) (hc : o.cls = .type n) (hd : o.data = .fields vs)
    (hn : ["enumerate", "zip", "dict_itemiterator", "dict_reverseitemiterator", "odict_iterator", "itertools.zip_longest", "itertools.pairwise"].contains n = false) (hQ : Q () s) : wpAny M A (letOwnedTupleGo tg (.ref it) u) Q E s := by
  unfold letOwnedTupleGo
  cases tg <;> first
    | exact wpAny_pure hQ
    | (cases u <;> first
        | exact wpAny_pure hQ
        | (refine wpAny_bind (wpAny_load ho ?_)
           rw [hc, hd]
           show wpAny M A (if (["enumerate", "zip", "dict_itemiterator", "dict_reverseitemiterator", "odict_iterator", "itertools.zip_longest", "itertools.pairwise"].contains n && vs[0]? == some (rawInt _)) = true then _ else _) Q E s
           rw [if_neg (by intro h; rw [hn, Bool.false_and] at h; cases h)]
           exact wpAny_pure hQ))
def Itl (K : PySem.W.Frag) (a : Addr) : It :=
  ⟨fun i H => ∃ xs x, SqL K H a xs ∧ xs[i]? = some x, fun i H x H' => H' = H ∧ ∀ xs, SqL K H a xs → xs[i]? = some x, fun i H => ∃ xs, SqL K H a xs ∧ xs.length ≤ i⟩
def Itt (K : PySem.W.Frag) (a : Addr) : It :=
  ⟨fun i H => ∃ xs x, SqT K H a xs ∧ xs[i]? = some x, fun i H x H' => H' = H ∧ ∀ xs, SqT K H a xs → xs[i]? = some x, fun i H => ∃ xs, SqT K H a xs ∧ xs.length ≤ i⟩
def Itr (lo : Int) (n : Nat) : It := ⟨fun i _ => i < n, fun i H x H' => H' = H ∧ x = .int (lo + i), fun i _ => n ≤ i⟩
theorem turn_list {P : Program} {w : World} {K : PySem.W.Frag} {tg : Expr} (a it : Addr) : Turn P w K tg (Itl K a) [it] it (fun i h => h.IsListIter it a i) where
  mem := by simp
  obj := fun i h st b hb => by
    have e : b = it := by simpa using hb
    subst e
    obtain ⟨o, e, c, d⟩ := st
    exact ⟨o, e, fun v z => by rw [d] at z; cases z⟩
  keep := fun i h h' st k => st.at fun o e => k it (by simp) o e
  item := by
    intro X hP hw hK hc i pins s σ H E I hf st hg
    subst hP hw hK
    obtain ⟨xs, x, hq, hx⟩ := hg
    obtain ⟨its, rv, p, hz⟩ := I.list hq
    obtain ⟨u, hu, ru⟩ := rv.get hx
    obtain ⟨f0, f1, f2, f3, f4, f5⟩ := hf it (by simp)
    refine wpAny_pyNext_list_item st p.isList (x := u) (by simpa using hu) fun h' st' sb => ?_
    have I1 : Inv X pins σ H { s with heap := h' } := I.turned (t' := s.toks) (fun b o hb e => (sb.2 b hb).trans e) f0 f1 f3 f4 f5
    obtain ⟨o, e, c, d⟩ := id st'
    exact ⟨u, rfl, go_of (s := { s with heap := h' }) e c d (by decide) ⟨x, H, I1, ru, ⟨rfl, fun ys hy => by rw [I.list_inj hy hq]; exact hx⟩, st', fun b hb => (hf b hb).1⟩⟩
  done := by
    intro X hP hw hK hc i pins s σ H E I hf st hg
    subst hP hw hK
    obtain ⟨xs, hq, hx⟩ := hg
    obtain ⟨its, rv, p, hz⟩ := I.list hq
    obtain ⟨f0, f1, f2, f3, f4, f5⟩ := hf it (by simp)
    have hl := rv.length
    exact wpAny_pyNext_list_end (I.ok.hd hc) st p.isList (by simp; omega) fun h' eb => ⟨rfl, I.turned (t' := s.toks) (fun b o hb e => eb b o hb e) f0 f1 f3 f4 f5⟩
  self := fun _ _ _ _ _ st h => wpAny_pyIter_listiter st h
theorem turn_tuple {P : Program} {w : World} {K : PySem.W.Frag} {tg : Expr} (a it : Addr) : Turn P w K tg (Itt K a) [it] it (fun i h => h.IsTupleIter it a i) where
  mem := by simp
  obj := fun i h st b hb => by
    have e : b = it := by simpa using hb
    subst e
    obtain ⟨o, e, c, d⟩ := st
    exact ⟨o, e, fun v z => by rw [d] at z; cases z⟩
  keep := fun i h h' st k => st.at fun o e => k it (by simp) o e
  item := by
    intro X hP hw hK hc i pins s σ H E I hf st hg
    subst hP hw hK
    obtain ⟨xs, x, hq, hx⟩ := hg
    obtain ⟨its, rv, p, hz⟩ := I.tuple hq
    obtain ⟨u, hu, ru⟩ := rv.get hx
    obtain ⟨f0, f1, f2, f3, f4, f5⟩ := hf it (by simp)
    refine wpAny_pyNext_tuple_item st (show s.heap.IsTuple a its.toArray from p) (x := u) (by simpa using hu) fun h' st' sb => ?_
    have I1 : Inv X pins σ H { s with heap := h' } := I.turned (t' := s.toks) (fun b o hb e => (sb.2 b hb).trans e) f0 f1 f3 f4 f5
    obtain ⟨o, e, c, d⟩ := id st'
    exact ⟨u, rfl, go_of (s := { s with heap := h' }) e c d (by decide) ⟨x, H, I1, ru, ⟨rfl, fun ys hy => by rw [I.tuple_inj hy hq]; exact hx⟩, st', fun b hb => (hf b hb).1⟩⟩
  done := by
    intro X hP hw hK hc i pins s σ H E I hf st hg
    subst hP hw hK
    obtain ⟨xs, hq, hx⟩ := hg
    obtain ⟨its, rv, p, hz⟩ := I.tuple hq
    obtain ⟨f0, f1, f2, f3, f4, f5⟩ := hf it (by simp)
    have hl := rv.length
    exact wpAny_pyNext_tuple_end (I.ok.hd hc) st (show s.heap.IsTuple a its.toArray from p) (by simp; omega) fun h' eb => ⟨rfl, I.turned (t' := s.toks) (fun b o hb e => eb b o hb e) f0 f1 f3 f4 f5⟩
  self := fun _ _ _ _ _ st h => wpAny_pyIter_tupleiter st h
theorem turn_range {P : Program} {w : World} {K : PySem.W.Frag} {tg : Expr} (it : Addr) (lo : Int) (n : Nat) : Turn P w K tg (Itr lo n) [it] it (fun i h => IsRangeIter h it (lo + (i : Nat) * 1) ((n : Int) - (i : Nat)) 1) where
  mem := by simp
  obj := fun i h st b hb => by
    have e : b = it := by simpa using hb
    subst e
    exact ⟨_, st, fun v z => by
      have z' : Data.fields _ = Data.cell v := z
      cases z'⟩
  keep := fun i h h' st k => k it (by simp) _ st
  item := by
    intro X hP hw hK hc i pins s σ H E I hf st hg
    subst hP hw hK
    obtain ⟨f0, f1, f2, f3, f4, f5⟩ := hf it (by simp)
    have W := Walks.range (prog := X.prog) (w := X.w) (I.ok.hd hc) it lo 1 n
    refine W.item i s _ _ hg st fun v h' tk hv st' kk => ?_
    obtain ⟨t, rfl⟩ := hv
    have I1 : Inv X pins σ H { s with heap := h', toks := tk } := I.turned (fun b o hb e => kk b o (by simpa using hb) e) f0 f1 f3 f4 f5
    refine ⟨_, rfl, go_of (s := { s with heap := h', toks := tk }) (n := "range_iterator") st' rfl rfl (by decide) ⟨.int (lo + i), H, I1, ⟨t, ?_⟩, ⟨rfl, rfl⟩, st', fun b hb => (hf b hb).1⟩⟩
    rw [Int.mul_one]
  done := by
    intro X hP hw hK hc i pins s σ H E I hf st hg
    subst hP hw hK
    obtain ⟨f0, f1, f2, f3, f4, f5⟩ := hf it (by simp)
    exact wpAny_pyNext_range_end (I.ok.hd hc) st (by have : n ≤ i := hg; omega) fun h' eb => ⟨rfl, I.turned (t' := s.toks) (fun b o hb e => eb b o hb e) f0 f1 f3 f4 f5⟩
  self := fun _ _ _ _ _ st h => wpAny_pyIter_rangeiter st h
end L2
namespace L2
open PySem PySem.Spec PyProof.Rows
section
variable {X : Cx} {tg : Expr}
theorem range_it {pins : List (Addr × Obj)} {σ : St} {H : Hp} {s : Shared} {R : It → Hp → Prop} {E : Value → Shared → Prop} {lo hi : Int} {t u v : Tok} {tk : Nat} (I : Inv X pins σ H s) (h1 : -(2 ^ 62) ≤ lo) (h2 : lo < 2 ^ 62) (h3 : -(2 ^ 62) ≤ hi) (h4 : hi < 2 ^ 62)
    (q : R (Itr lo (hi - lo).toNat) H) : wpAny (model X.prog X.w) X.A (pyIter (.ref s.heap.objs.size)) (PIE X pins σ tg R) E { s with heap := s.heap.push { cls := .type "range", data := .fields #[.int lo t, .int hi u, .int 1 v] }, toks := tk } := by
  refine wpAny_pyIter_range (IsRange.new ..) (small_one h1 h2 h3 h4) ?_
  have I1 : Inv X pins σ H { s with heap := s.heap.push { cls := .type "range", data := .fields #[.int lo t, .int hi u, .int 1 v] }, toks := tk } := I.kept fun b o e => Heap.get?_push_of_some _ e
  refine ⟨(s.heap.push { cls := .type "range", data := .fields #[.int lo t, .int hi u, .int 1 v] }).objs.size, [(s.heap.push { cls := .type "range", data := .fields #[.int lo t, .int hi u, .int 1 v] }).objs.size], _, _, H, rfl,
    I1.kept (t' := tk) fun b o e => Heap.get?_push_of_some _ e, turn_range _ lo (hi - lo).toNat, ?_, fun b hb => ?_, q⟩
  · have e1 : lo + ((0 : Nat) : Int) * 1 = lo := by simp
    have e2 : (((hi - lo).toNat : Nat) : Int) - ((0 : Nat) : Int) = Builtin.Range.rangeSize lo hi 1 := by rw [rangeSize_one]; split <;> omega
    show IsRangeIter _ _ (lo + ((0 : Nat) : Int) * 1) ((((hi - lo).toNat : Nat) : Int) - ((0 : Nat) : Int)) 1
    rw [e1, e2]
    exact Heap.get?_push_size _ rfl
  · have e : b = (s.heap.push { cls := .type "range", data := .fields #[.int lo t, .int hi u, .int 1 v] }).objs.size := by simpa using hb
    subst e
    exact I1.fpOk (Nat.le_refl _) (I1.hok.fresh (Nat.le_refl _))
def iRng1 (ta : TA) : TI := fun σ H R => ta σ H fun vs H1 => ∃ j : Int, vs = [.int j] ∧ -(2 ^ 62) ≤ j ∧ j < 2 ^ 62 ∧ R (Itr 0 j.toNat) H1
theorem pi_range1 {a : Expr} {ta : TA} {p pos : Pos} (hg : Gl X "range") (hm : X.mg "range" = none) (ha : PA X [a] ta) (hs : starEach [a] X.env = [(false, eval a X.env)] := by rfl) : PI X tg (.Call (.Name "range" p) [a] [] pos) (iRng1 ta) := by
  intro pins s σ H R I h
  refine Call_ (ld_blt I hg hm boot_range (PyProof.Rows.callWith_type1 (thn (ha pos pins s σ H _ I h) fun us s1 ⟨vs, H1, I1, r1, q1⟩ => ?_) hs rfl))
  obtain ⟨j, e, q1, q2, q⟩ := q1
  subst e
  cases r1 with
  | cons r rr =>
    cases rr
    obtain ⟨t, rfl⟩ := r
    exact call_range_1 (range_it I1 (by omega) (by omega) q1 q2 (by simpa using q))
def tFor (wi : TI) (g : TG) (tb : TS) : TS := fun D σ H => wi σ H fun J H1 => ∃ W : Nat → Nat → St → Hp → Prop, (∃ m, W 0 m σ H1) ∧ ∀ i m σ H, W i m σ H →
  (J.stop i H ∧ D.nx σ H) ∨ (J.go i H ∧ ∃ N : St → Hp → Prop, (∀ σ' H', N σ' H' → ∃ m', m' < m ∧ W (i + 1) m' σ' H') ∧ ∀ x H', J.yld i H x H' → g x σ H' fun σ2 H2 => tb { D with nx := N, ct := N, bk := D.nx } σ2 H2)
def pinsAt (fp : List Addr) (h : Heap) : List (Addr × Obj) := fp.filterMap fun b => (h.get? b).map fun o => (b, o)
theorem mem_pinsAt {fp : List Addr} {h : Heap} {b : Addr} {o : Obj} (hb : b ∈ fp) (e : h.get? b = some o) : (b, o) ∈ pinsAt fp h := List.mem_filterMap.mpr ⟨b, hb, by rw [e]; rfl⟩
theorem of_pinsAt {fp : List Addr} {h : Heap} {p : Addr × Obj} (hp : p ∈ pinsAt fp h) : p.1 ∈ fp ∧ h.get? p.1 = some p.2 := by
  obtain ⟨b, hb, e⟩ := List.mem_filterMap.mp hp
  cases q : h.get? b with
  | none => rw [q] at e; cases e
  | some o =>
    rw [q] at e
    have e' : (b, o) = p := Option.some.inj e
    subst e'
    exact ⟨hb, q⟩
theorem Inv.pinned {pins : List (Addr × Obj)} {σ : St} {H : Hp} {s : Shared} {fp : List Addr} (I : Inv X pins σ H s) (hf : ∀ b ∈ fp, FpOk X pins H b) (ho : ∀ b ∈ fp, ∃ o, s.heap.get? b = some o ∧ ∀ v, o.data ≠ .cell v) : Inv X (pins ++ pinsAt fp s.heap) σ H s :=
  I.pins_of fun p hp => (List.mem_append.mp hp).elim (fun z => I.pin p (List.mem_append_right _ z)) fun z => by
    obtain ⟨hb, e⟩ := of_pinsAt z
    obtain ⟨f0, f1, f2, _⟩ := hf p.1 hb
    obtain ⟨o, e', d⟩ := ho p.1 hb
    rw [e] at e'; cases e'
    exact ⟨e, f0, f1, f2, d⟩
theorem Inv.unpinned {pins pl : List (Addr × Obj)} {σ : St} {H : Hp} {s : Shared} (I : Inv X (pins ++ pl) σ H s) : Inv X pins σ H s := I.pins_of fun p hp => I.pin p (List.mem_append_right _ (List.mem_append_left _ hp))
theorem ps_for {iter : Expr} {body : List Stmt} {wi : TI} {g : TG} {tb : TS} {pos : Pos} (hp : PassesOwn (model X.prog X.w) X.A X.env X.xe) (hc : X.calm = true) (hi : PI X tg iter wi) (hg : PG X tg g) (hb : PSs X body tb)
    (hs : ∀ x, foldedSetIterable iter X.env x = pure x := by intro _; rfl) : PS X (.For tg iter body [] pos) (tFor wi g tb) := by
  intro pins s σ H D I h
  refine wpAny_For (thn (hi pins s σ H _ I h) fun v s1 h1 => thn h1 fun itv s2 h2 => ?_) hs
  obtain ⟨it, fp, tn, J, H2, e, I2, T, st2, f2, W, ⟨m0, w0⟩, turn⟩ := h2
  subst e
  have stat : ∀ {H' : Hp}, (∀ b ∈ fp, H' b = none) → ∀ b ∈ fp, FpOk X pins H' b := fun hn b hb => ⟨hn b hb, (f2 b hb).2⟩
  refine codeAny_forLoop_any (fun n s' => ∃ i σ' H', Inv X pins σ' H' s' ∧ tn i s'.heap ∧ (∀ b ∈ fp, H' b = none) ∧ W i n σ' H') ?_ m0 ⟨0, σ, H2, I2, st2, fun b hb => (f2 b hb).1, w0⟩
  rintro n s3 ⟨i, σ3, H3, I3, st3, fr3, w3⟩
  rcases turn i n σ3 H3 w3 with ⟨stop, qn⟩ | ⟨go, N, hN, step⟩
  · refine wpAny_passesOwn hp (thn (T.done X rfl rfl rfl hc i pins s3 σ3 H3 X.xe I3 (stat fr3) st3 stop) fun r s4 ⟨hr, I4⟩ => ?_)
    subst hr
    exact wpAny_execs_nil ⟨σ3, H3, I4, qn⟩
  · refine wpAny_passesOwn hp (thn (T.item X rfl rfl rfl hc i pins s3 σ3 H3 X.xe I3 (stat fr3) st3 go) fun r s4 ⟨u, hr, h4⟩ => ?_)
    subst hr
    refine wpAny_passesOwn hp (thn h4 fun _ s5 ⟨x, H5, I5, r5, y5, st5, fr5⟩ => ?_)
    have I5' := I5.pinned (stat fr5) (T.obj _ _ st5)
    refine wpAny_passesOwn hp (thn (hg _ s5 σ3 H5 x u _ I5' r5 (step x H5 y5)) fun _ s6 ⟨σ6, H6, I6, q6⟩ => ?_)
    refine wpAny_passesOwn hp (thn (hb _ s6 σ6 H6 _ I6 q6) fun f s7 q7 => ?_)
    have again : ∀ {σ7 : St} {H7 : Hp}, Inv X (pins ++ pinsAt fp s5.heap) σ7 H7 s7 → N σ7 H7 → ∃ m, m < n ∧ ∃ i σ' H', Inv X pins σ' H' s7 ∧ tn i s7.heap ∧ (∀ b ∈ fp, H' b = none) ∧ W i m σ' H' := fun {σ7 H7} I7 n7 => by
      obtain ⟨m', hm, w7⟩ := hN σ7 H7 n7
      refine ⟨m', hm, i + 1, σ7, H7, I7.unpinned, T.keep _ _ _ st5 fun b hb o e => (I7.pin (b, o) (List.mem_append_right _ (List.mem_append_right _ (mem_pinsAt hb e)))).1, fun b hb => ?_, w7⟩
      obtain ⟨o, e, d⟩ := T.obj _ _ st5 b hb
      exact (I7.pin (b, o) (List.mem_append_right _ (List.mem_append_right _ (mem_pinsAt hb e)))).2.1
    cases f with
    | next => obtain ⟨σ7, H7, I7, n7⟩ := q7; exact again I7 n7
    | cont => obtain ⟨σ7, H7, I7, n7⟩ := q7; exact again I7 n7
    | brk => obtain ⟨σ7, H7, I7, q7⟩ := q7; exact ⟨σ7, H7, I7.unpinned, q7⟩
    | ret v => obtain ⟨x7, σ7, H7, I7, r7, q7⟩ := q7; exact ⟨x7, σ7, H7, I7.unpinned, r7, q7⟩
end
theorem for_range {lo : Int} {n : Nat} {g : TG} {tb : TS} {D : Ends} {σ : St} {H : Hp} (Pv : Nat → St → Hp → Prop) (h0 : Pv 0 σ H)
    (hs : ∀ i σ H, i < n → Pv i σ H → g (.int (lo + i)) σ H fun σ2 H2 => tb { D with nx := Pv (i + 1), ct := Pv (i + 1), bk := D.nx } σ2 H2) (hd : ∀ σ H, Pv n σ H → D.nx σ H) :
    ∃ W : Nat → Nat → St → Hp → Prop, (∃ m, W 0 m σ H) ∧ ∀ i m σ H, W i m σ H →
      ((Itr lo n).stop i H ∧ D.nx σ H) ∨ ((Itr lo n).go i H ∧ ∃ N : St → Hp → Prop, (∀ σ' H', N σ' H' → ∃ m', m' < m ∧ W (i + 1) m' σ' H') ∧ ∀ x H', (Itr lo n).yld i H x H' → g x σ H' fun σ2 H2 => tb { D with nx := N, ct := N, bk := D.nx } σ2 H2) := by
  refine ⟨fun i m σ H => m = n - i ∧ i ≤ n ∧ Pv i σ H, ⟨n, by simp, Nat.zero_le _, h0⟩, ?_⟩
  rintro i m σ H ⟨rfl, hi, p⟩
  by_cases hlt : i < n
  · refine .inr ⟨hlt, Pv (i + 1), fun σ' H' p' => ⟨n - (i + 1), by omega, rfl, hlt, p'⟩, fun x H' y => ?_⟩
    obtain ⟨e, y⟩ := y
    subst e y
    exact hs i σ _ hlt p
  · have e : i = n := by omega
    subst e
    exact .inl ⟨Nat.le_refl _, hd σ H p⟩
end L2
namespace L2
open PySem PySem.Spec PyProof.Rows
abbrev R2 := V → V → Hp → VK → Prop
def OpR (X : Cx) (f : Value → Value → Sem Value) (r : R2) : Prop :=
  ∀ (pins : List (Addr × Obj)) (s : Shared) (σ : St) (H : Hp) (x y : V) (v u : Value) (Q : VK), Inv X pins σ H s → RelV x v → RelV y u → r x y H Q →
    wpAny (model X.prog X.w) X.A (f v u) (EP X pins σ Q) X.xe s
def UnR (X : Cx) (f : Value → Sem Value) (r : V → Hp → VK → Prop) : Prop :=
  ∀ (pins : List (Addr × Obj)) (s : Shared) (σ : St) (H : Hp) (x : V) (v : Value) (Q : VK), Inv X pins σ H s → RelV x v → r x H Q →
    wpAny (model X.prog X.w) X.A (f v) (EP X pins σ Q) X.xe s
def CallR (X : Cx) (f : Value) (r : List V → Hp → VK → Prop) : Prop :=
  ∀ (pins : List (Addr × Obj)) (s : Shared) (σ : St) (H : Hp) (xs : List V) (us : List Value) (Q : VK), Inv X pins σ H s → Vals xs us → r xs H Q →
    wpAny (model X.prog X.w) X.A (call f us) (EP X pins σ Q) X.xe s
def tOp (r : R2) (ta tb : TE) : TE := fun σ H Q => ta σ H fun x H1 => tb σ H1 fun y H2 => r x y H2 Q
def tUn (r : V → Hp → VK → Prop) (ta : TE) : TE := fun σ H Q => ta σ H fun x H1 => r x H1 Q
def rI (C : Int → Int → Prop) (g : Int → Int → V) : R2 := fun x y H Q => ∃ i j, x = .int i ∧ y = .int j ∧ C i j ∧ Q (g i j) H
def rI0 (g : Int → Int → V) : R2 := fun x y H Q => ∃ i j, x = .int i ∧ y = .int j ∧ Q (g i j) H
def rU (g : Int → V) : V → Hp → VK → Prop := fun x H Q => ∃ i, x = .int i ∧ Q (g i) H
section
variable {X : Cx} {a b c : Expr} {ta tb tc : TE} {pos : Pos}
theorem binT (ha : PE X a ta) (hb : PE X b tb) {pins : List (Addr × Obj)} {s : Shared} {σ : St} {H : Hp} {R : V → V → Hp → Prop} (I : Inv X pins σ H s)
    (h : ta σ H fun x H1 => tb σ H1 fun y H2 => R x y H2) {Q : Value → Shared → Prop} {f : Value → Value → Sem Value}
    (hf : ∀ v u s2 x y H2, Inv X pins σ H2 s2 → RelV x v → RelV y u → R x y H2 → wpAny (model X.prog X.w) X.A (f v u) Q X.xe s2) :
    wpAny (model X.prog X.w) X.A (eval a X.env) (fun v s₁ => wpAny (model X.prog X.w) X.A (eval b X.env) (fun u s₂ => wpAny (model X.prog X.w) X.A (f v u) Q X.xe s₂) X.xe s₁) X.xe s := by
  refine thn (ha pins s σ H _ I h) fun v s1 ⟨x, H1, I1, r1, q1⟩ => ?_
  refine thn (hb pins s1 σ H1 _ I1 q1) fun u s2 ⟨y, H2, I2, r2, q2⟩ => ?_
  exact hf v u s2 x y H2 I2 r1 r2 q2
theorem pe_op {op : Operator} {r : R2} (ho : OpR X (binaryOp op) r) (ha : PE X a ta) (hb : PE X b tb) : PE X (.BinOp a op b pos) (tOp r ta tb) := by
  intro pins s σ H Q I h
  exact wpAny_BinOp (binT ha hb I h fun v u s2 x y H2 I2 rx ry q => ho pins s2 σ H2 x y v u Q I2 rx ry q)
theorem pe_un {op : UnaryOp} {r : V → Hp → VK → Prop} (ho : UnR X (unaryOp op) r) (ha : PE X a ta) : PE X (.UnaryOp op a pos) (tUn r ta) := by
  intro pins s σ H Q I h
  exact UnaryOp_ (thn (ha pins s σ H _ I h) fun v s1 ⟨x, H1, I1, r1, q1⟩ => ho pins s1 σ H1 x v Q I1 r1 q1)
theorem opI {f : Value → Value → Sem Value} {C : Int → Int → Prop} {g : Int → Int → Int}
    (rule : ∀ (i j : Int) (t u : Tok) (s : Shared) (Q : Value → Shared → Prop) (E : Value → Shared → Prop), C i j → Q (.int (g i j) s.toks) { s with toks := s.toks + 1 } → wpAny (model X.prog X.w) X.A (f (.int i t) (.int j u)) Q E s) :
    OpR X f (rI C fun i j => .int (g i j)) := by
  intro pins s σ H x y v u Q I rx ry h
  obtain ⟨i, j, rfl, rfl, hc, q⟩ := h
  obtain ⟨t, rfl⟩ := rx
  obtain ⟨t', rfl⟩ := ry
  exact rule i j t t' s _ _ hc ⟨.int (g i j), H, I.tok _, ⟨_, rfl⟩, q⟩
theorem opI0 {f : Value → Value → Sem Value} {g : Int → Int → Int}
    (rule : ∀ (i j : Int) (t u : Tok) (s : Shared) (Q : Value → Shared → Prop) (E : Value → Shared → Prop), Q (.int (g i j) s.toks) { s with toks := s.toks + 1 } → wpAny (model X.prog X.w) X.A (f (.int i t) (.int j u)) Q E s) :
    OpR X f (rI0 fun i j => .int (g i j)) := by
  intro pins s σ H x y v u Q I rx ry h
  obtain ⟨i, j, rfl, rfl, q⟩ := h
  obtain ⟨t, rfl⟩ := rx
  obtain ⟨t', rfl⟩ := ry
  exact rule i j t t' s _ _ ⟨.int (g i j), H, I.tok _, ⟨_, rfl⟩, q⟩
theorem opB0 {f : Value → Value → Sem Value} {g : Int → Int → Bool}
    (rule : ∀ (i j : Int) (t u : Tok) (s : Shared) (Q : Value → Shared → Prop) (E : Value → Shared → Prop), Q (.bool (g i j)) s → wpAny (model X.prog X.w) X.A (f (.int i t) (.int j u)) Q E s) :
    OpR X f (rI0 fun i j => .bl (g i j)) := by
  intro pins s σ H x y v u Q I rx ry h
  obtain ⟨i, j, rfl, rfl, q⟩ := h
  obtain ⟨t, rfl⟩ := rx
  obtain ⟨t', rfl⟩ := ry
  exact rule i j t t' s _ _ ⟨.bl (g i j), H, I, rfl, q⟩
def CPow (i j : Int) : Prop := 0 ≤ j ∧ j ≤ 1000000 ∧ i.natAbs < 2 ^ 64
def CMul (i j : Int) : Prop := (-(2 ^ 64) < i ∧ i < 2 ^ 64) ∨ (-(2 ^ 64) < j ∧ j < 2 ^ 64)
theorem CMul.ok {i j : Int} (h : CMul i j) : IntMulOk i j := by
  rcases h with ⟨h1, h2⟩ | ⟨h1, h2⟩
  · exact .of_left (intBits_le_64 h1 h2)
  · exact .of_right (intBits_le_64 h1 h2)
theorem op_add : OpR X (binaryOp .Add) (rI0 fun i j => .int (i + j)) := opI0 fun _ _ _ _ _ _ _ q => add_int q
theorem op_sub : OpR X (binaryOp .Sub) (rI0 fun i j => .int (i - j)) := opI0 fun _ _ _ _ _ _ _ q => sub_int q
theorem op_mod : OpR X (binaryOp .Mod) (rI (fun _ j => 0 < j) fun i j => .int (i % j)) := opI fun i j _ _ _ _ _ hc q => by
  have h1 : (0 : Int) < j := hc
  exact mod_int' (by omega) (by rw [Int.fmod_eq_emod_of_nonneg i (by omega)]; exact q)
theorem op_pow : OpR X (binaryOp .Pow) (rI CPow fun i j => .int (i ^ j.toNat)) := opI fun _ _ _ _ _ _ _ hc q => pow_int_small hc.1 hc.2.1 hc.2.2 q
theorem unI {f : Value → Sem Value} {g : Int → Int}
    (rule : ∀ (i : Int) (t : Tok) (s : Shared) (Q : Value → Shared → Prop) (E : Value → Shared → Prop), Q (.int (g i) s.toks) { s with toks := s.toks + 1 } → wpAny (model X.prog X.w) X.A (f (.int i t)) Q E s) :
    UnR X f (rU fun i => .int (g i)) := by
  intro pins s σ H x v Q I rx h
  obtain ⟨i, rfl, q⟩ := h
  obtain ⟨t, rfl⟩ := rx
  exact rule i t s _ _ ⟨.int (g i), H, I.tok _, ⟨_, rfl⟩, q⟩
theorem un_neg : UnR X (unaryOp .USub) (rU fun i => .int (-i)) := unI fun _ _ _ _ _ q => neg_int q
end
def scal : V → V → Bool
  | .non, .non => true | .non, .int _ => true | .int _, .non => true | .non, .bl _ => true | .bl _, .non => true | .non, .str _ => true | .str _, .non => true
  | .int _, .int _ => true | .bl _, .bl _ => true | .str _, .str _ => true | .byt _, .byt _ => true
  | .int _, .str _ => true | .str _, .int _ => true | .bl _, .str _ => true | .str _, .bl _ => true
  | _, _ => false
def rEq : R2 := fun x y H Q => scal x y = true ∧ Q (.bl (decide (x = y))) H
def rNe : R2 := fun x y H Q => scal x y = true ∧ Q (.bl (!decide (x = y))) H
theorem dec_int {i j : Int} : decide (V.int i = V.int j) = (i == j) := by
  rw [Bool.eq_iff_iff]
  simp
theorem dec_bl {i j : Bool} : decide (V.bl i = V.bl j) = (i == j) := by
  rw [Bool.eq_iff_iff]
  simp
theorem dec_str {i j : Str} : decide (V.str i = V.str j) = (i == j) := by
  rw [Bool.eq_iff_iff]
  simp
theorem dec_byt {i j : Array UInt8} : decide (V.byt i = V.byt j) = (i.toList == j.toList) := by
  rw [Bool.eq_iff_iff]
  cases i
  cases j
  simp
section
variable {X : Cx} {a b c : Expr} {ta tb tc : TE} {pos : Pos}
theorem fin_bl {pins : List (Addr × Obj)} {σ : St} {H : Hp} {s : Shared} {Q : VK} {k k' : Bool} (I : Inv X pins σ H s) (q : Q (.bl k) H) (e : k = k') : EP X pins σ Q (.bool k') s := by
  subst e
  exact ⟨.bl k, H, I, rfl, q⟩
theorem op_eq : OpR X (compareOp .Eq) rEq := by
  intro pins s σ H x y v u Q I rx ry h
  obtain ⟨hs, q⟩ := h
  cases x with
  | non =>
    cases rx
    cases y with
    | non => cases ry; exact PySem.EqNone.eq_none_none (fin_bl I q (by simp))
    | bl j => cases ry; exact PySem.EqNone.eq_none_bool (fin_bl I q (by simp))
    | int j => obtain ⟨t', rfl⟩ := ry; exact PySem.EqNone.eq_none_int (fin_bl I q (by simp))
    | str j => obtain ⟨t', rfl⟩ := ry; exact PySem.EqNone.eq_none_str (fin_bl I q (by simp))
    | _ => exact absurd (show false = true from hs) Bool.false_ne_true
  | bl i =>
    cases rx
    cases y with
    | non => cases ry; exact PySem.EqNone.eq_bool_none (fin_bl I q (by simp))
    | bl j => cases ry; exact eq_bool (fin_bl I q dec_bl)
    | str j => obtain ⟨t', rfl⟩ := ry; exact PySem.EqMixed.eq_bool_str (fin_bl I q (by simp))
    | _ => exact absurd (show false = true from hs) Bool.false_ne_true
  | int i =>
    obtain ⟨t, rfl⟩ := rx
    cases y with
    | non => cases ry; exact PySem.EqNone.eq_int_none (fin_bl I q (by simp))
    | int j => obtain ⟨t', rfl⟩ := ry; exact eq_int (fin_bl I q dec_int)
    | str j => obtain ⟨t', rfl⟩ := ry; exact PySem.EqMixed.eq_int_str (fin_bl I q (by simp))
    | _ => exact absurd (show false = true from hs) Bool.false_ne_true
  | str i =>
    obtain ⟨t, rfl⟩ := rx
    cases y with
    | non => cases ry; exact PySem.EqNone.eq_str_none (fin_bl I q (by simp))
    | bl j => cases ry; exact PySem.EqMixed.eq_str_bool (fin_bl I q (by simp))
    | int j => obtain ⟨t', rfl⟩ := ry; exact PySem.EqMixed.eq_str_int (fin_bl I q (by simp))
    | str j => obtain ⟨t', rfl⟩ := ry; exact eq_str (fin_bl I q dec_str)
    | _ => exact absurd (show false = true from hs) Bool.false_ne_true
  | byt i =>
    obtain ⟨t, rfl⟩ := rx
    cases y with
    | byt j => obtain ⟨t', rfl⟩ := ry; exact PySem.W.eq_bytes (fin_bl I q dec_byt)
    | _ => exact absurd (show false = true from hs) Bool.false_ne_true
  | _ => cases y <;> exact absurd (show false = true from hs) Bool.false_ne_true
theorem op_ne : OpR X (compareOp .NotEq) rNe := by
  intro pins s σ H x y v u Q I rx ry h
  obtain ⟨hs, q⟩ := h
  cases x with
  | non =>
    cases rx
    cases y with
    | non => cases ry; exact PySem.EqNone.ne_none_none (fin_bl I q (by simp))
    | bl j => cases ry; exact PySem.EqNone.ne_none_bool (fin_bl I q (by simp))
    | int j => obtain ⟨t', rfl⟩ := ry; exact PySem.EqNone.ne_none_int (fin_bl I q (by simp))
    | str j => obtain ⟨t', rfl⟩ := ry; exact PySem.EqNone.ne_none_str (fin_bl I q (by simp))
    | _ => exact absurd (show false = true from hs) Bool.false_ne_true
  | bl i =>
    cases rx
    cases y with
    | non => cases ry; exact PySem.EqNone.ne_bool_none (fin_bl I q (by simp))
    | bl j => cases ry; exact ne_bool (fin_bl I q (congrArg not dec_bl))
    | str j => obtain ⟨t', rfl⟩ := ry; exact PySem.EqMixed.ne_bool_str (fin_bl I q (by simp))
    | _ => exact absurd (show false = true from hs) Bool.false_ne_true
  | int i =>
    obtain ⟨t, rfl⟩ := rx
    cases y with
    | non => cases ry; exact PySem.EqNone.ne_int_none (fin_bl I q (by simp))
    | int j => obtain ⟨t', rfl⟩ := ry; exact ne_int (fin_bl I q (congrArg not dec_int))
    | str j => obtain ⟨t', rfl⟩ := ry; exact PySem.EqMixed.ne_int_str (fin_bl I q (by simp))
    | _ => exact absurd (show false = true from hs) Bool.false_ne_true
  | str i =>
    obtain ⟨t, rfl⟩ := rx
    cases y with
    | non => cases ry; exact PySem.EqNone.ne_str_none (fin_bl I q (by simp))
    | bl j => cases ry; exact PySem.EqMixed.ne_str_bool (fin_bl I q (by simp))
    | int j => obtain ⟨t', rfl⟩ := ry; exact PySem.EqMixed.ne_str_int (fin_bl I q (by simp))
    | str j => obtain ⟨t', rfl⟩ := ry; exact ne_str (fin_bl I q (congrArg not dec_str))
    | _ => exact absurd (show false = true from hs) Bool.false_ne_true
  | byt i =>
    obtain ⟨t, rfl⟩ := rx
    cases y with
    | byt j => obtain ⟨t', rfl⟩ := ry; exact PySem.W.ne_bytes (fin_bl I q (congrArg not dec_byt))
    | _ => exact absurd (show false = true from hs) Bool.false_ne_true
  | _ => cases y <;> exact absurd (show false = true from hs) Bool.false_ne_true
theorem op_lt : OpR X (compareOp .Lt) (rI0 fun i j => .bl (decide (i < j))) := opB0 fun _ _ _ _ _ _ _ q => lt_int q
theorem op_le : OpR X (compareOp .LtE) (rI0 fun i j => .bl (decide (i ≤ j))) := opB0 fun _ _ _ _ _ _ _ q => le_int q
theorem op_gt : OpR X (compareOp .Gt) (rI0 fun i j => .bl (decide (j < i))) := opB0 fun _ _ _ _ _ _ _ q => gt_int q
theorem op_ge : OpR X (compareOp .GtE) (rI0 fun i j => .bl (decide (j ≤ i))) := opB0 fun _ _ _ _ _ _ _ q => ge_int q
theorem op_lt_str : OpR X (compareOp .Lt) (fun x y H Q => ∃ i j, x = .str i ∧ y = .str j ∧ Q (.bl (decide (i.cps.toList < j.cps.toList))) H) := by
  intro pins s σ H x y v u Q I rx ry h
  obtain ⟨i, j, rfl, rfl, q⟩ := h
  obtain ⟨t, rfl⟩ := rx
  obtain ⟨t', rfl⟩ := ry
  exact lt_str (fin_bl I q rfl)
theorem op_in_str : OpR X (compareOp .In) (fun x y H Q => ∃ i j, x = .str i ∧ y = .str j ∧ Q (.bl (!(Builtin.Str.occurrences j i 0 j.length 1).isEmpty)) H) := by
  intro pins s σ H x y v u Q I rx ry h
  obtain ⟨i, j, rfl, rfl, q⟩ := h
  obtain ⟨t, rfl⟩ := rx
  obtain ⟨t', rfl⟩ := ry
  exact in_str (fin_bl I q rfl)
theorem OpR.or {f : Value → Value → Sem Value} {r r' : R2} (h : OpR X f r) (h' : OpR X f r') : OpR X f (fun x y H Q => r x y H Q ∨ r' x y H Q) := by
  intro pins s σ H x y v u Q I rx ry q
  rcases q with q | q
  · exact h pins s σ H x y v u Q I rx ry q
  · exact h' pins s σ H x y v u Q I rx ry q
theorem nomark (b : Expr) {op : CmpOp} (h : op ≠ .In := by decide) (h2 : op ≠ .NotIn := by decide) : behindInMarks op b = false := by
  have e1 : (op == CmpOp.In) = false := by cases op <;> first | rfl | exact absurd rfl h
  have e2 : (op == CmpOp.NotIn) = false := by cases op <;> first | rfl | exact absurd rfl h2
  cases b <;> simp [behindInMarks, e1, e2]
theorem pe_cmpR {op : CmpOp} {r : R2} (ho : OpR X (compareOp op) r) (ha : PE X a ta) (hb : PE X b tb) (hm : behindInMarks op b = false) : PE X (.Compare a [op] [b] pos) (tOp r ta tb) := by
  intro pins s σ H Q I h
  exact wpAny_Compare1 (binT ha hb I h fun v u s2 x y H2 I2 rx ry q => ho pins s2 σ H2 x y v u Q I2 rx ry q) hm
def tTest (t : TE) : TT := fun σ H Q => t σ H fun x H' => ∃ k, x = .bl k ∧ Q k H'
theorem pt_cmpR {op : CmpOp} {r : R2} (ho : OpR X (compareOp op) r) (ha : PE X a ta) (hb : PE X b tb) (hm : behindInMarks op b = false) : PT X (.Compare a [op] [b] pos) (tTest (tOp r ta tb)) := by
  intro pins s σ H Q I h
  refine wpAny_isTrue_Compare1 (thn (ha pins s σ H _ I h) fun v s1 ⟨x, H1, I1, r1, q1⟩ => thn (hb pins s1 σ H1 _ I1 q1) fun u s2 ⟨y, H2, I2, r2, q2⟩ =>
    thn (ho pins s2 σ H2 x y v u _ I2 r1 r2 q2) fun c s3 ⟨z, H3, I3, r3, k, e, q3⟩ => ?_) hm
  subst e
  cases r3
  exact wpAny_truthy_bool ⟨H3, I3, q3⟩
def tChain (r r' : R2) (ta tb tc : TE) : TE := fun σ H Q => ta σ H fun x H1 => tb σ H1 fun y H2 => r x y H2 fun z H3 => ∃ k, z = .bl k ∧
  (if k = true then tc σ H3 fun w' H4 => r' y w' H4 Q else Q (.bl false) H3)
theorem pt_chain {op op' : CmpOp} {r r' : R2} (ho : OpR X (compareOp op) r) (ho' : OpR X (compareOp op') r') (ha : PE X a ta) (hb : PE X b tb) (hc : PE X c tc)
    (hm : lastMarks [op, op'] [b, c] = false := by with_unfolding_all rfl) : PT X (.Compare a [op, op'] [b, c] pos) (tTest (tChain r r' ta tb tc)) := by
  intro pins s σ H Q I h
  refine isTrue_chain (thn (ha pins s σ H _ I h) fun v s1 ⟨x, H1, I1, r1, q1⟩ => test_link (thn (hb pins s1 σ H1 _ I1 q1) fun u s2 ⟨y, H2, I2, r2, q2⟩ =>
    thn (ho pins s2 σ H2 x y v u _ I2 r1 r2 q2) fun d s3 ⟨z, H3, I3, r3, k, e, q3⟩ => ?_)) hm
  subst e
  cases r3
  refine wpAny_truthy_bool ?_
  cases k with
  | false =>
    obtain ⟨k', e', q'⟩ := q3
    cases e'
    exact ite_ff ⟨H3, I3, q'⟩
  | true =>
    refine ite_tt (test_last (thn (hc pins s3 σ H3 _ I3 q3) fun w' s4 ⟨z', H4, I4, r4, q4⟩ => thn (ho' pins s4 σ H4 y z' u w' _ I4 r2 r4 q4) fun d' s5 ⟨z2, H5, I5, r5, k2, e2, q5⟩ => ?_))
    subst e2
    cases r5
    exact wpAny_truthy_bool ⟨H5, I5, q5⟩
theorem line63 : (sizeLine : Nat) < 2 ^ 63 := by rw [sizeLine_eq]; decide
theorem op_add_str : OpR X (binaryOp .Add) (fun x y H Q => ∃ i j, x = .str i ∧ y = .str j ∧ i.length + j.length ≤ sizeLine ∧ Q (.str (i ++ j)) H) := by
  intro pins s σ H x y v u Q I rx ry h
  obtain ⟨i, j, rfl, rfl, hz, q⟩ := h
  obtain ⟨t, rfl⟩ := rx
  obtain ⟨t', rfl⟩ := ry
  exact add_str (fun t' tk => ⟨.str (i ++ j), H, I.tok _, ⟨_, rfl⟩, q⟩) hz
theorem iop_add_str : OpR X (inplaceOp .Add) (fun x y H Q => ∃ i j, x = .str i ∧ y = .str j ∧ i.length + j.length ≤ sizeLine ∧ Q (.str (i ++ j)) H) := by
  intro pins s σ H x y v u Q I rx ry h
  obtain ⟨i, j, rfl, rfl, hz, q⟩ := h
  obtain ⟨t, rfl⟩ := rx
  obtain ⟨t', rfl⟩ := ry
  exact iadd_str (fun t' tk => ⟨.str (i ++ j), H, I.tok _, ⟨_, rfl⟩, q⟩) hz
theorem vals1 {x : V} {us : List Value} (r : Vals [x] us) : ∃ u, us = [u] ∧ RelV x u := by
  cases r with
  | cons r1 r2 => cases r2; exact ⟨_, rfl, r1⟩
theorem vals2 {x y : V} {us : List Value} (r : Vals [x, y] us) : ∃ u w', us = [u, w'] ∧ RelV x u ∧ RelV y w' := by
  cases r with
  | cons r1 r2 =>
    cases r2 with
    | cons r3 r4 => cases r4; exact ⟨_, _, rfl, r1, r3⟩
theorem call_max2 (hc : X.calm = true) : CallR X (.builtin "max") (fun xs H Q => ∃ i j, xs = [.int i, .int j] ∧ Q (.int (if j > i then j else i)) H) := by
  intro pins s σ H xs us Q I r h
  obtain ⟨i, j, rfl, q⟩ := h
  obtain ⟨u, w', rfl, ⟨t, rfl⟩, ⟨t', rfl⟩⟩ := vals2 r
  refine max_two_ints (I.ok.hd hc) fun h' tk k => ⟨_, H, I.kept k, ?_, q⟩
  by_cases hj : j > i
  · rw [if_pos hj, if_pos hj]; exact ⟨_, rfl⟩
  · rw [if_neg hj, if_neg hj]; exact ⟨_, rfl⟩
theorem call_min2 (hc : X.calm = true) : CallR X (.builtin "min") (fun xs H Q => ∃ i j, xs = [.int i, .int j] ∧ Q (.int (if j < i then j else i)) H) := by
  intro pins s σ H xs us Q I r h
  obtain ⟨i, j, rfl, q⟩ := h
  obtain ⟨u, w', rfl, ⟨t, rfl⟩, ⟨t', rfl⟩⟩ := vals2 r
  refine min_two_ints (I.ok.hd hc) fun h' tk k => ⟨_, H, I.kept k, ?_, q⟩
  by_cases hj : j < i
  · rw [if_pos hj, if_pos hj]; exact ⟨_, rfl⟩
  · rw [if_neg hj, if_neg hj]; exact ⟨_, rfl⟩
def LenV (K : PySem.W.Frag) (x : V) (H : Hp) (n : Nat) : Prop :=
  match x with
  | .str y => y.length ≤ sizeLine ∧ n = y.length
  | .byt y => y.size ≤ sizeLine ∧ n = y.size
  | .ref p => (∃ xs, SqL K H p xs ∧ n = xs.length) ∨ ∃ xs, SqT K H p xs ∧ n = xs.length
  | _ => False
theorem call_len : CallR X (.builtin "len") (fun xs H Q => ∃ x n, xs = [x] ∧ LenV X.K x H n ∧ Q (.int n) H) := by
  intro pins s σ H xs us Q I r h
  obtain ⟨x, n, rfl, e, q⟩ := h
  obtain ⟨u, rfl, rx⟩ := vals1 r
  have hl := line63
  have hs : sizeLine = 16777216 := sizeLine_eq
  cases x with
  | str y =>
    obtain ⟨t, rfl⟩ := rx
    obtain ⟨hy, e'⟩ : y.length ≤ sizeLine ∧ n = y.length := e
    subst e'
    exact len_str (by omega) ⟨.int _, H, I.tok _, ⟨_, rfl⟩, q⟩
  | byt y =>
    obtain ⟨t, rfl⟩ := rx
    obtain ⟨hy, e'⟩ : y.size ≤ sizeLine ∧ n = y.size := e
    subst e'
    exact PySem.W.len_bytes (by omega) ⟨.int _, H, I.tok _, ⟨_, rfl⟩, q⟩
  | ref p =>
    cases rx
    have e' : (∃ xs, SqL X.K H p xs ∧ n = xs.length) ∨ ∃ xs, SqT X.K H p xs ∧ n = xs.length := e
    rcases e' with ⟨xs, hx, e'⟩ | ⟨xs, hx, e'⟩
    · subst e'
      obtain ⟨its, r', pl, hz⟩ := I.list hx
      have hlen := r'.length
      exact Calls.call_len_list pl.isList (by simp only [List.size_toArray]; omega) ⟨.int xs.length, H, I.tok _, ⟨_, by simp only [List.size_toArray]; rw [hlen]⟩, q⟩
    · subst e'
      obtain ⟨its, r', pl, hz⟩ := I.tuple hx
      have hlen := r'.length
      exact len_tuple pl (by simp only [List.size_toArray]; omega) ⟨.int xs.length, H, I.tok _, ⟨_, by simp only [List.size_toArray]; rw [hlen]⟩, q⟩
  | _ => exact (show False from e).elim
end
end L2
namespace L2
open PySem PySem.Spec PyProof.Rows
structure ObjM (h : Heap) (x dx C : Addr) (mA : Str → Option Value) : Prop where
  obj : h.get? x = some (PySem.W.instObj C dx)
  ns : h.Ns1 dx mA
  ne : dx ≠ x
theorem lookIn_ns {h : Heap} {dx : Addr} {mA : Str → Option Value} (n : h.Ns1 dx mA) : ∃ od, h.get? dx = some od ∧ ∀ name, PySem.W.lookIn name od = some (mA name) := by
  obtain ⟨o, es, ep, ho, hd, hk, _, hm⟩ := n
  refine ⟨o, ho, fun name => ?_⟩
  have e := hm name
  unfold nsFind findBy at e
  rw [← Array.find?_toList] at e
  unfold PySem.W.lookIn
  rw [hd]
  dsimp only
  split
  · rename_i y q
    rw [q] at e
    exact congrArg some e
  · rename_i q
    rw [q] at e
    have a : es.toList.any (·.refKey) = false := by
      rw [List.any_eq_false]
      intro y hy
      obtain ⟨z, t, hkey⟩ := hk y (Array.mem_toList_iff.mp hy)
      simp [DictEntry.refKey, hkey]
    have a' : ¬ es.toList.any (·.refKey) = true := by rw [a]; exact Bool.false_ne_true
    rw [if_neg a']
    exact congrArg some e
theorem ObjM.look {h : Heap} {x dx C : Addr} {mA : Str → Option Value} (I : ObjM h x dx C mA) : ∃ od, PySem.W.InstAt h x (PySem.W.instObj C dx) C (some od) ∧ ∀ name, PySem.W.lookIn name od = some (mA name) :=
  let ⟨od, ho, hl⟩ := lookIn_ns I.ns
  ⟨od, ⟨I.obj, rfl, rfl, ho⟩, hl⟩
section
variable {prog : Program} {w : World} {A : Around} {E : Value → Shared → Prop} {s : Shared} {K : PySem.W.Frag} {x dx C f : Addr} {mA : Str → Option Value} {name : Str} {v : Value}
end
theorem RelO.some_of {v : V} {o : Option Value} (r : RelO (some v) o) : ∃ u, o = some u ∧ RelV v u := by
  cases o with
  | none => exact (show False from r).elim
  | some u => exact ⟨u, rfl, r⟩
section
variable {P : Program} {w : World} {H H' : Hp} {h h' : Heap} {a C dx : Addr} {fs fs' : List (Str × V)}
theorem ins_get (hok : HOk P w H h) (e : H a = some (.ins C dx fs)) : ∃ mA, ObjM h a dx C mA ∧ (∀ f, RelO (fs.lookup f) (mA f)) ∧ PySem.Within mA (fs.map (·.1)) ∧ fs.length ≤ 1000 ∧ H dx = some (.own a) := by
  obtain ⟨d, z, ne, ob, mA, n, r, q⟩ := (show ObjOk P w H h a (.ins C dx fs) from hok a _ e)
  exact ⟨mA, ⟨ob, n, ne⟩, r, q, z, d⟩
end
structure Cls (K : PySem.W.Frag) (C : Addr) : Prop where
  pg : PySem.W.plainGet K C Str.empty = true
  hd : PySem.W.hasDictIn K C = true
  po : PySem.W.plainOver K C = true
  sa : PySem.W.findIn K (.ref C) "__setattr__" = some (some (.builtin "object.__setattr__"))
theorem Cls.get {K : PySem.W.Frag} {C : Addr} (c : Cls K C) (f : Str) : PySem.W.plainGet K C f = true := c.pg
structure Con (K : PySem.W.Frag) (C : Addr) (f : Str) (v : V) (u : Value) : Prop where
  at_ : PySem.W.findIn K (.ref C) f = some (some u)
  rel : RelV v u
  get : PySem.W.specialIn K u "__get__" = some none
  cp : PySem.W.copiedNames.contains f = false
structure Meth (K : PySem.W.Frag) (C : Addr) (m : Str) (f : Addr) : Prop where
  at_ : PySem.W.findIn K (.ref C) m = some (some (.ref f))
  fn : PySem.W.isFn K (.ref f) = true
  kp : PySem.W.keepIn K (.ref f) = true
section
variable {X : Cx} {pins : List (Addr × Obj)} {σ : St} {H : Hp} {s : Shared} {a C dx : Addr} {fs : List (Str × V)} {f : Str} {v : V} {A : Around} {E : Value → Shared → Prop}
theorem Inv.made (I : Inv X pins σ H s) : Inv X pins σ (upd (upd H s.heap.objs.size (.own (s.heap.objs.size + 1))) (s.heap.objs.size + 1) (.ins C s.heap.objs.size []))
    { s with heap := (s.heap.push PySem.W.emptyDict).push (PySem.W.instObj C s.heap.objs.size) } := by
  have e1 : (s.heap.push PySem.W.emptyDict).get? s.heap.objs.size = some PySem.W.emptyDict := Heap.get?_push_size s.heap rfl
  have e2 : ((s.heap.push PySem.W.emptyDict).push (PySem.W.instObj C s.heap.objs.size)).get? (s.heap.objs.size + 1) = some (PySem.W.instObj C s.heap.objs.size) := by
    have := Heap.get?_push_size (s.heap.push PySem.W.emptyDict) (o := PySem.W.instObj C s.heap.objs.size) rfl
    rwa [Heap.size_push] at this
  have e3 : (s.heap.push PySem.W.emptyDict).Ns s.heap.objs.size (fun _ => none) := ⟨PySem.W.emptyDict, #[], _, e1, rfl, (fun e he => absurd he (by simp)), fun _ => rfl⟩
  have I1 := I.laid (a := s.heap.objs.size) (o := .own (s.heap.objs.size + 1)) (h' := s.heap.push PySem.W.emptyDict) (t' := s.toks) (fun b u q => Heap.get?_push_of_some _ q) (Nat.le_refl _) ⟨_, e1⟩
  refine I1.laid (a := s.heap.objs.size + 1) (o := .ins C s.heap.objs.size []) (t' := s.toks) (fun b u q => Heap.get?_push_of_some _ q) (Nat.le_of_eq (Heap.size_push _ _)) ?_
  have ne : s.heap.objs.size ≠ s.heap.objs.size + 1 := Nat.ne_of_lt (Nat.lt_succ_self _)
  refine ⟨by rw [upd_ne ne, upd_same], Nat.zero_le _, ne, e2, fun _ => none, (Heap.Ns1.of_empty e3).at fun o q => Heap.get?_push_of_some _ q, fun _ => True.intro, fun y hy => absurd rfl hy⟩
end
section
variable {X : Cx} {o e value : Expr} {f : Str} {pos pos' tpos : Pos} {ta tv : TE}
end
section
variable {X : Cx} {pins : List (Addr × Obj)} {σ : St} {H : Hp} {s : Shared} {A : Around} {E : Value → Shared → Prop} {Q : Value → Shared → Prop} {c : Value} {b : Bool}
inductive TyOf (K : PySem.W.Frag) (H : Hp) : V → Value → Prop where
  | non : TyOf K H .non (.type "NoneType")
  | bl (x : Bool) : TyOf K H (.bl x) (.type "bool")
  | int (i : Int) : TyOf K H (.int i) (.type "int")
  | str (x : Str) : TyOf K H (.str x) (.type "str")
  | flt (x : UInt64) : TyOf K H (.flt x) (.type "float")
  | lst {a : Addr} {xs : List V} (e : H a = some (.lst xs)) : TyOf K H (.ref a) (.type "list")
  | frz {a : Addr} {o : Obj} {xs : List V} (e : H a = some (.frz o (.lst xs))) : TyOf K H (.ref a) (.type "list")
  | tup {a : Addr} {xs : List V} (e : H a = some (.tup xs)) : TyOf K H (.ref a) (.type "tuple")
  | dK {a : Addr} {kvs : List (Key × V)} (e : H a = some (.dK kvs)) : TyOf K H (.ref a) (.type "dict")
  | dT {a : Addr} {kvs : List (List Key × V)} (e : H a = some (.dT kvs)) : TyOf K H (.ref a) (.type "dict")
  | ins {a C dx : Addr} {fs : List (Str × V)} (e : H a = some (.ins C dx fs)) (cl : Cls K C) (ha : PySem.W.findIn K (.ref C) "__class__" = some (some (.builtin "object.__class__")))
      (hn : PySem.W.specialIn K (.builtin "object.__class__") "__get__" = some (some (.builtin "getset_descriptor.__get__"))) (htk : PySem.W.takesIn K (.builtin "object.__class__") = some true)
      (hm : PySem.W.mroIn K C (.type "object") = some true) : TyOf K H (.ref a) (.ref C)
theorem isinst_ok {x : V} {u t : Value} (I : Inv X pins σ H s) (rx : RelV x u) (ty : TyOf X.K H x t) (e : PySem.W.kitOne X.K t c = some b) (h : ∀ tk, Q (.bool b) { s with toks := tk }) :
    wpAny (model X.prog X.w) A (call (.builtin "isinstance") [u, c]) Q E s := by
  cases ty with
  | non => cases (show u = Value.none from rx); exact PySem.W.kia_one PySem.W.kitx_none I.kIn True.intro e (fun z => nomatch z) h
  | bl y => cases (show u = Value.bool y from rx); exact PySem.W.kia_one PySem.W.kitx_bool I.kIn True.intro e (fun z => nomatch z) h
  | int i => obtain ⟨t, q⟩ := (show ∃ t, u = Value.int i t from rx); cases q; exact PySem.W.kia_one PySem.W.kitx_int I.kIn True.intro e (fun z => nomatch z) h
  | str y => obtain ⟨t, q⟩ := (show ∃ t, u = Value.str y t from rx); cases q; exact PySem.W.kia_one PySem.W.kitx_str I.kIn True.intro e (fun z => nomatch z) h
  | flt y => obtain ⟨t, q⟩ := (show ∃ t, u = Value.float y t from rx); cases q; exact PySem.W.kia_one PySem.W.kitx_float I.kIn True.intro e (fun z => nomatch z) h
  | @lst a xs ea =>
    cases (show u = Value.ref a from rx)
    obtain ⟨_, _, n, _, h1⟩ := (show ObjOk X.prog X.w H s.heap a (.lst xs) from I.hok a _ ea)
    exact PySem.W.kia_one PySem.W.kitx_list I.kIn ⟨_, h1, rfl⟩ e (fun z => nomatch z) h
  | @frz a ob xs ea =>
    cases (show u = Value.ref a from rx)
    obtain ⟨_, _, _, n, _, h1⟩ := (show ObjOk X.prog X.w H s.heap a (.frz ob (.lst xs)) from I.hok a _ ea)
    exact PySem.W.kia_one PySem.W.kitx_list I.kIn ⟨_, h1, rfl⟩ e (fun z => nomatch z) h
  | @tup a xs ea =>
    cases (show u = Value.ref a from rx)
    obtain ⟨_, _, _, p⟩ := (show ObjOk X.prog X.w H s.heap a (.tup xs) from I.hok a _ ea)
    obtain ⟨o, h1, h2, _⟩ := p
    exact PySem.W.kia_one PySem.W.kitx_tuple I.kIn ⟨o, h1, h2⟩ e (fun z => nomatch z) h
  | @dK a kvs ea =>
    cases (show u = Value.ref a from rx)
    obtain ⟨_, _, vs, _, p⟩ := (show ObjOk X.prog X.w H s.heap a (.dK kvs) from I.hok a _ ea)
    obtain ⟨o, es, ep, h1, h2, _⟩ := p
    exact PySem.W.kia_one PySem.W.kitx_dict I.kIn ⟨o, h1, h2.1⟩ e (fun z => nomatch z) h
  | @dT a kvs ea =>
    cases (show u = Value.ref a from rx)
    obtain ⟨_, _, xs, _, o, es, ep, h1, h2, _⟩ := (show ObjOk X.prog X.w H s.heap a (.dT kvs) from I.hok a _ ea)
    exact PySem.W.kia_one PySem.W.kitx_dict I.kIn ⟨o, h1, h2.1⟩ e (fun z => nomatch z) h
  | @ins a C dx fs ea cl ha hn htk hm =>
    cases (show u = Value.ref a from rx)
    obtain ⟨mA, O, _⟩ := ins_get I.hok ea
    obtain ⟨od, J, _⟩ := O.look
    exact PySem.W.kia_one (PySem.W.kitx_own (cl.get _) cl.hd ha hn htk hm) I.kIn J e (fun z => nomatch z) h
end
end L2
namespace L2
open PySem PySem.Spec PyProof.Rows
structure Room (k : Nat) (A : Around) : Prop where
  hd : A.handled = none
  dp : A.depth + 3 * k + 5 < recursionLimit
  un : A.units + 16 * k + 200 < cLine
theorem Room.mono {j k : Nat} {A : Around} (r : Room k A) (h : j ≤ k) : Room j A := ⟨r.hd, by have := r.dp; omega, by have := r.un; omega⟩
theorem Room.deeper {k : Nat} {A : Around} (r : Room (k + 1) A) (env : Env) : Room k (A.deeper env) :=
  ⟨r.hd, by have := r.dp; show A.depth + 1 + 3 * k + 5 < _; omega, by have := r.un; show A.units + 3 + 16 * k + 200 < _; omega⟩
theorem Room.in1 {k : Nat} {A : Around} (r : Room (k + 1) A) : Room k A.in1 :=
  ⟨r.hd, by have := r.dp; show A.depth + 3 * k + 5 < _; omega, by have := r.un; show A.units + 1 + 16 * k + 200 < _; omega⟩
theorem Room.depth {k : Nat} {A : Around} (r : Room k A) : A.depth < recursionLimit := by have := r.dp; omega
theorem Room.units {k : Nat} {A : Around} (r : Room k A) : A.units + 64 < cLine := by have := r.un; omega
theorem Room.units0 {k : Nat} {A : Around} (r : Room k A) : A.units < cLine := by have := r.un; omega
def tNil : TA := fun _ H Q => Q [] H
def tCons (ta : TE) (tr : TA) : TA := fun σ H Q => ta σ H fun x H1 => tr σ H1 fun xs H2 => Q (x :: xs) H2
section
variable {X : Cx} {e : Expr} {es : List Expr} {te : TE} {t : TA} {pos : Pos}
theorem pa_nil : PA X [] tNil := fun _ _ _ _ H Q I h => Calls.spliced_nil ⟨[], H, I, .nil, h⟩
theorem pa_cons (ha : PE X e te) (hr : PA X es t) (hs : starEach (e :: es) X.env = (false, eval e X.env) :: starEach es X.env := by rfl) : PA X (e :: es) (tCons te t) := by
  intro pos pins s σ H Q I h
  rw [hs]
  show wpAny _ _ (spliced ((false, eval e X.env) :: backTo pos (starEach es X.env))) _ _ s
  refine Calls.spliced_cons (thn (ha pins s σ H _ I h) fun u s1 ⟨x, H1, I1, r1, q1⟩ => ?_)
  exact thn (hr pos pins s1 σ H1 _ I1 q1) fun us s2 ⟨xs, H2, I2, r2, q2⟩ => ⟨x :: xs, H2, I2, .cons r1 r2, q2⟩
def tTup (t : TA) : TE := fun σ H Q => t σ H fun xs H1 => xs.length ≤ sizeLine ∧ ∀ p, H1 p = none → Q (.ref p) (upd H1 p (.tup xs))
def tLst (t : TA) : TE := fun σ H Q => t σ H fun xs H1 => xs.length ≤ sizeLine ∧ ∀ p, H1 p = none → Q (.ref p) (upd H1 p (.lst xs))
theorem pe_tup {x1} (h : PA X es t) : PE X (.Tuple es x1 pos) (tTup t) := by
  intro pins s σ H Q I hq
  refine wpAny_Tuple_spliced (thn (h pos pins s σ H _ I hq) fun us s1 ⟨xs, H1, I1, r, z, q⟩ => ⟨by rw [← r.length]; exact z, ?_⟩)
  have hf : H1 s1.heap.objs.size = none := I1.hok.fresh (Nat.le_refl _)
  refine ⟨.ref s1.heap.objs.size, upd H1 s1.heap.objs.size (.tup xs), I1.laid (t' := s1.toks) (fun b u e => Heap.get?_push_of_some _ e) (Nat.le_refl _) ?_, rfl, q _ hf⟩
  exact ⟨z, us, r, ⟨_, Heap.get?_push_size _ rfl, rfl, _, rfl⟩⟩
theorem pe_lst (h : PA X es t) : PE X (.List es pos) (tLst t) := by
  intro pins s σ H Q I hq
  refine wpAny_List_spliced (thn (h pos pins s σ H _ I hq) fun us s1 ⟨xs, H1, I1, r, z, q⟩ => ⟨by rw [← r.length]; exact z, ?_⟩)
  have hf : H1 s1.heap.objs.size = none := I1.hok.fresh (Nat.le_refl _)
  refine ⟨.ref s1.heap.objs.size, upd H1 s1.heap.objs.size (.lst xs), I1.laid (t' := s1.toks) (fun b u e => Heap.get?_push_of_some _ e) (Nat.le_refl _) ?_, rfl, q _ hf⟩
  exact ⟨z, us, 0, r, Heap.get?_push_size _ rfl⟩
end
abbrev Sp := List V → Hp → VK → XK → Prop
abbrev CXT := List Env → Hp → Shared → XK → Value → Shared → Prop
structure Env0 (P : Program) (w : World) (K : PySem.W.Frag) (mg : Str → Option Value) (base : Heap) (A : Around) (outer : List Env) (s : Shared) (H : Hp) : Prop where
  frames : A.frames = some outer
  mod : Mod K mg base
  bs : ∀ b o, base.get? b = some o → s.heap.get? b = some o ∧ H b = none
  bsz : base.objs.size ≤ s.heap.objs.size
  funs : s.heap.FunFrames base outer
  frf : ∀ b ∈ frs outer, H b = none
  hok : HOk P w H s.heap
  bare : AllBare s.gens
def CE (outer : List Env) (P : Program) (w : World) (H : Hp) (s : Shared) (Q : VK) (u : Value) (s' : Shared) : Prop :=
  ∃ v H', s'.os = s.os ∧ AllBare s'.gens ∧ Un (frs outer) [] H H' s.heap s'.heap ∧ HOk P w H' s'.heap ∧ RelV v u ∧ Q v H'
def CR (CX : CXT) (outer : List Env) (P : Program) (w : World) (H : Hp) (s : Shared) (Q : VK) (E : XK) (r : Result) (s' : Shared) : Prop :=
  match r with
  | .ok (.ret u) => CE outer P w H s Q u s'
  | .ok _ => False
  | .error e => CX outer H s E e s'
structure FnOk (P : Program) (w : World) (K : PySem.W.Frag) (mg : Str → Option Value) (base : Heap) (CX : CXT) (k : Nat) (f : Addr) (fd : FuncData) (ps : List Str) (sp : Sp) : Prop where
  len : ∀ vs H Q E, sp vs H Q E → vs.length = ps.length
  run : ∀ (A : Around) (outer : List Env) (s : Shared) (H : Hp) (args : Args) (us : List Value) (vs : List V) (Q : VK) (E : XK), Room k A → Env0 P w K mg base A outer s H → BindsTo s fd args (ps.zip us) → Vals vs us → sp vs H Q E →
    codeAny (model P w) A (.call (.ref f) args) (CR CX outer P w H s Q E) s
theorem FnOk.mono {P : Program} {w : World} {K : PySem.W.Frag} {mg : Str → Option Value} {base : Heap} {CX : CXT} {j k : Nat} {f : Addr} {fd : FuncData} {ps : List Str} {sp : Sp} (F : FnOk P w K mg base CX j f fd ps sp) (h : j ≤ k) :
    FnOk P w K mg base CX k f fd ps sp := ⟨F.len, fun A outer s H args us vs Q E hr => F.run A outer s H args us vs Q E (hr.mono h)⟩
theorem FnOk.imp {P : Program} {w : World} {K : PySem.W.Frag} {mg : Str → Option Value} {base : Heap} {CX : CXT} {k : Nat} {f : Addr} {fd : FuncData} {ps : List Str} {sp sp' : Sp} (F : FnOk P w K mg base CX k f fd ps sp)
    (h : ∀ vs H Q E, sp' vs H Q E → sp vs H Q E) : FnOk P w K mg base CX k f fd ps sp' :=
  ⟨fun vs H Q E q => F.len vs H Q E (h _ _ _ _ q), fun A outer s H args us vs Q E hr he hb hv hs => F.run A outer s H args us vs Q E hr he hb hv (h _ _ _ _ hs)⟩
theorem Env0.in1 {P : Program} {w : World} {K : PySem.W.Frag} {mg : Str → Option Value} {base : Heap} {A : Around} {outer : List Env} {s : Shared} {H : Hp} (e : Env0 P w K mg base A outer s H) :
    Env0 P w K mg base A.in1 outer s H := ⟨e.frames, e.mod, e.bs, e.bsz, e.funs, e.frf, e.hok, e.bare⟩
section
variable {X : Cx} {pins : List (Addr × Obj)} {σ : St} {H : Hp} {s s' : Shared}
theorem Inv.env0 (I : Inv X pins σ H s) : Env0 X.prog X.w X.K X.mg X.base X.A X.stack s H :=
  ⟨I.ok.frames, I.ok.mod, I.bs, Nat.le_trans I.ok.bsz I.sz, I.stack, I.stkFree, I.hok, I.bare⟩
theorem Inv.after {Q : VK} {u : Value} (I : Inv X pins σ H s) (h : CE X.stack X.prog X.w H s Q u s') : EP X pins σ Q u s' := by
  obtain ⟨v, H', os, bare, un, hok, r, q⟩ := h
  obtain ⟨hh, g, d, t, os'⟩ := s'
  obtain rfl : os' = s.os := os
  exact ⟨v, H', I.call (h' := hh) (g' := g) (d' := d) (t' := t) (ch := []) un hok bare (fun b z => absurd z (by simp)), r, q⟩
end
def tCall (sp : Sp) (dvs : List V) (E : XK) (t : TA) : TE := fun σ H Q => t σ H fun vs H1 => sp (vs ++ dvs) H1 Q E
def Binds (K : PySem.W.Frag) (fd : FuncData) (ps : List Str) (ds : List Value) : Prop :=
  ∀ (s : Shared) (us : List Value), K.In s.heap → (us ++ ds).length = ps.length → BindsTo s fd ⟨us, []⟩ (ps.zip (us ++ ds))
theorem Binds.all {K : PySem.W.Frag} {fd : FuncData} {ps : List Str} (h : ∀ us : List Value, us.length = ps.length → bindArgs fd ⟨us, []⟩ = pure (ps.zip us)) : Binds K fd ps [] := fun s us _ hl => by
  rw [List.append_nil] at hl ⊢
  exact .of_eq (h us hl)
def Passes (CX : CXT) (X : Cx) (E : XK) : Prop := ∀ (pins : List (Addr × Obj)) (σ : St) (H : Hp) (s : Shared) (e : Value) (s' : Shared), Inv X pins σ H s → CX X.stack H s E e s' → X.xe e s'
section
variable {X : Cx} {CX : CXT} {k : Nat} {f C : Addr} {fd : FuncData} {ps : List Str} {sp : Sp} {dvs : List V} {ds : List Value} {E : XK} {x m : Str} {p pos apos : Pos} {e o : Expr} {es : List Expr} {ta : TE} {t : TA}
theorem run_fn {pins : List (Addr × Obj)} {σ : St} {H : Hp} {s : Shared} {Q : VK} {us : List Value} {vs : List V} (F : FnOk X.prog X.w X.K X.mg X.base CX k f fd ps sp) (hr : Room k X.A) (hb : Binds X.K fd ps ds) (hd : Vals dvs ds) (hx : Passes CX X E)
    (I : Inv X pins σ H s) (r : Vals vs us) (h : sp (vs ++ dvs) H Q E) : wpAny (model X.prog X.w) X.A (call (.ref f) us) (EP X pins σ Q) X.xe s := by
  have r2 : Vals (vs ++ dvs) (us ++ ds) := r.append hd
  have hl : (us ++ ds).length = ps.length := by rw [← r2.length]; exact F.len _ _ _ _ h
  refine wpAny_call (codeAny_mono (F.run X.A X.stack s H ⟨us, []⟩ (us ++ ds) (vs ++ dvs) Q E hr I.env0 (hb s us I.kIn hl) r2 h) fun r s' hq => ?_)
  cases r with
  | error e => exact hx pins σ H s e s' I hq
  | ok fl =>
    cases fl with
    | ret u => exact I.after hq
    | next => exact False.elim hq
    | brk => exact False.elim hq
    | cont => exact False.elim hq
theorem pe_call (F : FnOk X.prog X.w X.K X.mg X.base CX k f fd ps sp) (hr : Room k X.A) (hg : Gl X x) (hm : X.mg x = some (.ref f)) (hk : PySem.W.keepIn X.K (.ref f) = true) (hb : Binds X.K fd ps ds) (hd : Vals dvs ds) (hx : Passes CX X E)
    (ha : PA X (e :: es) t) (hdb : (x == ("__debug__" : Str)) = false := by decide) (he : starEach (e :: es) X.env = (false, eval e X.env) :: starEach es X.env := by rfl) (hpl : (backTo pos (starEach es X.env)).any (·.1) = false := by rfl) :
    PE X (.Call (.Name x p) (e :: es) [] pos) (tCall sp dvs E t) := by
  intro pins s σ H Q I h
  refine wpAny_Call_Name_kw (ld_glob I hg hm ?_ hdb)
  refine PySem.W.callWith_K (h₀ := X.base) I.ok.mod.kin hk (thn (ha pos pins s σ H _ I h) fun us s1 ⟨vs, H1, I1, r, q⟩ => ⟨I1.kIn, ?_⟩) he hpl
  exact run_fn F hr hb hd hx I1 r q
theorem pe_call0 (F : FnOk X.prog X.w X.K X.mg X.base CX k f fd ps sp) (hr : Room k X.A) (hg : Gl X x) (hm : X.mg x = some (.ref f)) (hk : PySem.W.keepIn X.K (.ref f) = true) (hb : Binds X.K fd ps ds) (hd : Vals dvs ds) (hx : Passes CX X E)
    (hdb : (x == ("__debug__" : Str)) = false := by decide) : PE X (.Call (.Name x p) [] [] pos) (tCall sp dvs E tNil) := by
  intro pins s σ H Q I h
  refine wpAny_Call_Name_kw (ld_glob I hg hm ?_ hdb)
  exact PySem.W.callWith_K0 I.kIn hk (run_fn (us := []) F hr hb hd hx I .nil h)
structure Mk (K : PySem.W.Frag) (C f : Addr) : Prop where
  makes : PySem.W.makesIn K C = true
  init : PySem.W.findIn K (.ref C) "__init__" = some (some (.ref f))
  fn : PySem.W.isFn K (.ref f) = true
  kp : PySem.W.keepIn K (.ref C) = true
end
section
variable {X : Cx} {CX : CXT} {k : Nat} {f C : Addr} {fd : FuncData} {ps ks : List Str} {sp : Sp} {E : XK} {x m : Str} {p pos apos kpos : Pos} {e o : Expr} {es : List Expr} {kws : List Keyword} {te ta : TE} {t tk : TA} {nm : Option Str}
structure KBinds (K : PySem.W.Frag) (fd : FuncData) (ps ks : List Str) (g : List Value → List Value → List Value) (gV : List V → List V → List V) : Prop where
  to : ∀ (s : Shared) (us ws : List Value), K.In s.heap → (g us ws).length = ps.length → BindsTo s fd ⟨us, ks.zip ws⟩ (ps.zip (g us ws))
  rel : ∀ {vs : List V} {us : List Value} {zs : List V} {ws : List Value}, Vals vs us → Vals zs ws → Vals (gV vs zs) (g us ws)
variable {g : List Value → List Value → List Value} {gV : List V → List V → List V}
end
structure FnScope (N P : List Str) (sc : Scope) : Prop where
  kind : sc.kind = .function
  co : sc.isCoroutine = false
  gen : sc.isGenerator = false
  nd : N.Nodup
  pre : N.take P.length = P
  par : ∀ x ∈ P, sc.names.lookup x = some .local ∨ sc.names.lookup x = some .cell
  nofree : ∀ y ∈ sc.names, y.2 ≠ .free
theorem bindL_out {kindOf : Str → Option NameKind} {x : Str} : ∀ {binds : List (Str × Value)} {m : Str → Option Value}, (∀ v, (x, v) ∉ binds) → bindL kindOf binds m x = m x
  | [], _, _ => rfl
  | (n, v) :: r, m, h => by
    unfold bindL
    rw [bindL_out fun w hw => h w (List.mem_cons_of_mem _ hw)]
    split
    · have : x ≠ n := by rintro rfl; exact h v List.mem_cons_self
      simp [this]
    · rfl
theorem bindC_out {kindOf : Str → Option NameKind} {x : Str} : ∀ {binds : List (Str × Value)} {m : Str → Option Value}, (∀ v, (x, v) ∉ binds) → bindC kindOf binds m x = m x
  | [], _, _ => rfl
  | (n, v) :: r, m, h => by
    unfold bindC
    rw [bindC_out fun w hw => h w (List.mem_cons_of_mem _ hw)]
    split
    · rfl
    · have : x ≠ n := by rintro rfl; exact h v List.mem_cons_self
      simp [this]
theorem bindL_get {kindOf : Str → Option NameKind} {x : Str} {v : Value} : ∀ {P : List Str} {vs : List Value} {i : Nat} {m : Str → Option Value}, P.Nodup → P[i]? = some x → vs[i]? = some v → kindOf x = some .local →
    bindL kindOf (P.zip vs) m x = some v
  | [], _, _, _, _, h, _, _ => by simp at h
  | _ :: _, [], _, _, _, _, h, _ => by simp at h
  | p :: P, w :: vs, 0, m, nd, h1, h2, hk => by
    simp at h1 h2; subst h1; subst h2
    show bindL kindOf ((p, w) :: P.zip vs) m p = _
    unfold bindL
    rw [bindL_out fun v hv => (List.nodup_cons.mp nd).1 (List.of_mem_zip hv).1, if_pos hk]
    simp
  | p :: P, w :: vs, i + 1, m, nd, h1, h2, hk => by
    show bindL kindOf ((p, w) :: P.zip vs) m x = _
    unfold bindL
    exact bindL_get (i := i) (List.nodup_cons.mp nd).2 (by simpa using h1) (by simpa using h2) hk
theorem bindC_get {kindOf : Str → Option NameKind} {x : Str} {v : Value} : ∀ {P : List Str} {vs : List Value} {i : Nat} {m : Str → Option Value}, P.Nodup → P[i]? = some x → vs[i]? = some v → kindOf x ≠ some .local →
    bindC kindOf (P.zip vs) m x = some v
  | [], _, _, _, _, h, _, _ => by simp at h
  | _ :: _, [], _, _, _, _, h, _ => by simp at h
  | p :: P, w :: vs, 0, m, nd, h1, h2, hk => by
    simp at h1 h2; subst h1; subst h2
    show bindC kindOf ((p, w) :: P.zip vs) m p = _
    unfold bindC
    rw [bindC_out fun v hv => (List.nodup_cons.mp nd).1 (List.of_mem_zip hv).1, if_neg hk]
    simp
  | p :: P, w :: vs, i + 1, m, nd, h1, h2, hk => by
    show bindC kindOf ((p, w) :: P.zip vs) m x = _
    unfold bindC
    exact bindC_get (i := i) (List.nodup_cons.mp nd).2 (by simpa using h1) (by simpa using h2) hk
def start (N : List Str) (vs : List V) : St := vs.map some ++ List.replicate (N.length - vs.length) none
def cxOf (CX : CXT) (P : Program) (w : World) (K : PySem.W.Frag) (mg : Str → Option Value) (base : Heap) (N : List Str) (qual : Str) (scope : Scope) (f : Addr) (cd : Value) (A : Around) (outer : List Env) (s : Shared) (H : Hp) (E : XK) : Cx where
  prog := P
  w := w
  K := K
  mg := mg
  base := base
  A := A.deeper (envOfC qual scope s.heap.objs.size f cd)
  N := N
  s₀ := s
  H₀ := H
  env := envOfC qual scope s.heap.objs.size f cd
  outer := outer
  stack := envOfC qual scope s.heap.objs.size f cd :: outer
  ex := []
  calm := true
  fn := fun _ => true
  pn := []
  xe := fun e s' => wpAny (model P w) (A.deeper (envOfC qual scope s.heap.objs.size f cd)) (leaving (envOfC qual scope s.heap.objs.size f cd) e) (fun _ s'' => CX outer H s E e s'') (fun e' s'' => CX outer H s E e' s'') s'
theorem cell_has {sc : Scope} {n : Nat} {x : Str} (h : sc.names.lookup x = some .cell) : ∃ c, (cellsFrom n sc.names []).lookup x = some c := by
  have q := PySem.W.cellsFrom_some sc.names n [] (.inl h)
  exact Option.isSome_iff_exists.mp q
theorem inv_start {CX : CXT} {P : Program} {w : World} {K : PySem.W.Frag} {mg : Str → Option Value} {base : Heap} {N ps : List Str} {qual : Str} {scope : Scope} {f : Addr} {cd : Value} {A : Around} {outer : List Env} {s s1 : Shared} {H : Hp} {E : XK} {us : List Value} {vs : List V}
    (S : FnScope N ps scope) (hd : A.handled = none) (e0 : Env0 P w K mg base A outer s H) (hl : vs.length = ps.length) (r : Vals vs us)
    (x : InCallC s s.heap.objs.size (bindL (envOfC qual scope s.heap.objs.size f cd).kindOf (ps.zip us) fun _ => none) (cellsFrom (s.heap.objs.size + 1) scope.names []) (bindC (envOfC qual scope s.heap.objs.size f cd).kindOf (ps.zip us) fun _ => none) s1) :
    Inv (cxOf CX P w K mg base N qual scope f cd A outer s H E) [] (start N vs) H s1 := by
  have hpl : ps.length ≤ N.length := by have := congrArg List.length S.pre; rw [List.length_take] at this; omega
  obtain ⟨h1, tk, rfl, hk⟩ := x.done
  have noA : ∀ b : Addr, b ∉ (cxOf CX P w K mg base N qual scope f cd A outer s H E).ex := fun b z => absurd (show b ∈ ([] : List Addr) from z) (by simp)
  refine ⟨⟨e0.mod, S.kind, rfl, rfl, Nat.le_refl _, fun y z c h1 h2 => ?_, fun y hy => ?_, fun y c _ h => ?_, fun _ => hd, Around.frames_deeper e0.frames, .inr ⟨rfl, rfl⟩, fun b z => absurd z (noA b), e0.bs, e0.bsz, fun b _ _ => noA b, fun b z => absurd z (noA b), e0.funs, e0.frf⟩,
    rfl, e0.bare, Un.kept hk, ⟨_, x.toInCall.ns, fun i y v h1 h2 h3 => ?_⟩, fun y c h => ⟨_, x.cell y c h⟩, e0.hok.fresh (Nat.le_refl _), fun y c h => ?_, fun p hp => absurd (show p ∈ ([] : List (Addr × Obj)) from hp) (by simp), e0.hok.kept hk, ?_⟩
  · exact name_of_addr x.apart (PySem.mem_of_lookup h1) (PySem.mem_of_lookup h2)
  · have hy : scope.names.lookup y = some .cell ∨ scope.names.lookup y = some .free := hy
    rcases hy with hy | hy
    · exact cell_has hy
    · exact absurd rfl (S.nofree _ (PySem.mem_of_lookup hy))
  · exact Nat.le_of_lt (x.above y c (PySem.mem_of_lookup h))
  · have hi : i < vs.length := by
      unfold start at h2
      by_cases hi : i < vs.length
      · exact hi
      · rw [List.getElem?_append_right (by simpa using hi)] at h2
        rw [List.getElem?_replicate] at h2
        split at h2 <;> cases h2
    have ha : vs[i]? = some v := by
      unfold start at h2
      rw [List.getElem?_append_left (by simpa using hi), List.getElem?_map] at h2
      cases e : vs[i]? with
      | none => rw [e] at h2; cases h2
      | some a => rw [e] at h2; cases h2; rfl
    obtain ⟨u, hu, rv⟩ := r.get ha
    have hp : ps[i]? = some y := by
      rw [← S.pre, List.getElem?_take_of_lt (by omega)]; exact h1
    have ndP : ps.Nodup := by rw [← S.pre]; exact S.nd.sublist (List.take_sublist _ _)
    refine ⟨u, rv, ?_⟩
    rcases S.par y (List.mem_of_getElem? hp) with k | k
    · exact .inl ⟨k, bindL_get ndP hp hu k⟩
    · obtain ⟨c, e⟩ := cell_has (n := s.heap.objs.size + 1) k
      refine .inr ⟨.inl k, c, e, ?_⟩
      have q := x.cell y c e
      rw [bindC_get ndP hp hu (by show scope.names.lookup y ≠ _; rw [k]; decide)] at q
      exact q
  · exact e0.hok.fresh (Nat.le_of_lt (x.above y c (PySem.mem_of_lookup h)))
  · unfold start
    show _ = N.length
    rw [List.length_append, List.length_map, List.length_replicate]
    omega
theorem fn_of {CX : CXT} {P : Program} {w : World} {K : PySem.W.Frag} {mg : Str → Option Value} {base : Heap} {k : Nat} {f : Addr} {name qual : Str} {params : Arguments} {body : List Stmt} {scope : Scope} {dV kV doc pm cdv ct oc : Value} {an od : Option Addr}
    {osl : Array (Option Value)} {N ps : List Str} {sp : Sp} (lk : K.lookup f = some ⟨oc, od, .func (PySem.W.fnOf name qual params body scope dV kV doc pm an cdv ct), osl⟩) (hcd : PySem.W.codeIn K cdv qual = true) (S : FnScope N ps scope)
    (len : ∀ vs H Q E, sp vs H Q E → vs.length = ps.length)
    (hbody : ∀ (A : Around) (outer : List Env) (s : Shared) (H : Hp) (vs : List V) (Q : VK) (E : XK), Room k (A.deeper (envOfC qual scope s.heap.objs.size f cdv)) → sp vs H Q E →
      ∃ t, PSs (cxOf CX P w K mg base N qual scope f cdv A outer s H E) body t ∧ t { nx := fun _ H' => Q .non H', rt := Q } (start N vs) H) :
    FnOk P w K mg base CX (k + 1) f (PySem.W.fnOf name qual params body scope dV kV doc pm an cdv ct) ps sp := by
  refine ⟨len, fun A outer s H args us vs Q E hr e0 hb r hsp => ?_⟩
  have hl := len _ _ _ _ hsp
  have KX : K.In s.heap := e0.mod.kin.keeps fun b o e => (e0.bs b o e).1
  have lim : s.heap.NoLimit := e0.mod.nolimit.keeps fun b o e => (e0.bs b o e).1
  have hkind : ∀ y ∈ ps.zip us, scope.names.lookup y.1 = some .local ∨ (scope.names.lookup y.1 = some .cell ∧ ((cellsFrom (s.heap.objs.size + 1) scope.names []).lookup y.1).isSome = true) := fun ⟨n, v⟩ hy => by
    rcases S.par n (List.of_mem_zip hy).1 with q | q
    · exact .inl q
    · exact .inr ⟨q, PySem.W.cellsFrom_some _ _ _ (.inl q)⟩
  refine codeAny_call_function hr.depth (KX _ _ lk) rfl S.co S.gen rfl (PySem.W.codeRec_of KX hcd) (hb _ _ _ _ ?_)
  refine wpAny_newFunctionEnv_cells S.kind hkind fun env he s1 x => ?_
  subst he
  refine ⟨lim.keeps x.toInCall.keep, codeAny_func ?_⟩
  obtain ⟨t, ht, hq⟩ := hbody A outer s H vs Q E (hr.deeper _) hsp
  have I : Inv (cxOf CX P w K mg base N qual scope f cdv A outer s H E) [] (start N vs) H s1 := inv_start S hr.hd e0 hl r x
  refine wpAny_mono (ht [] s1 (start N vs) H _ I hq) (fun fl s' hs => ?_) fun e s' hs => hs
  have fin : ∀ {σ' : St} {H' : Hp} {v : V} {u : Value}, Inv (cxOf CX P w K mg base N qual scope f cdv A outer s H E) [] σ' H' s' → RelV v u → Q v H' → CE outer P w H s Q u s' :=
    fun {σ' H' v u} J rv q => ⟨v, H', J.os, J.bare, J.base, J.hok, rv, q⟩
  cases fl with
  | ret u =>
    obtain ⟨v, σ', H', J, rv, q⟩ := hs
    exact fin J rv q
  | next =>
    obtain ⟨σ', H', J, q⟩ := hs
    exact fin (v := V.non) (u := Value.none) J rfl q
  | brk =>
    obtain ⟨_, _, _, q⟩ := hs
    exact False.elim q
  | cont =>
    obtain ⟨_, _, _, q⟩ := hs
    exact False.elim q
end L2
namespace L2
open PySem PySem.Spec PyProof.Rows
section
variable {X : Cx} {x : Str} {p pos : Pos} {e : Expr} {es : List Expr} {t : TA} {id T : String} {r : List V → Hp → VK → Prop}
def tCB (r : List V → Hp → VK → Prop) (t : TA) : TE := fun σ H Q => t σ H fun vs H1 => r vs H1 Q
theorem pe_callB (hc : CallR X (.builtin id) r) (hg : Gl X x) (hm : X.mg x = none) (hv : bootBuiltins x = some (.builtin id)) (ha : PA X (e :: es) t) (hn : x ≠ "__name__" := by decide) (hdb : (x == ("__debug__" : Str)) = false := by decide)
    (he : starEach (e :: es) X.env = (false, eval e X.env) :: starEach es X.env := by rfl) (hpl : (backTo pos (starEach es X.env)).any (·.1) = false := by rfl) : PE X (.Call (.Name x p) (e :: es) [] pos) (tCB r t) := by
  intro pins s σ H Q I h
  refine wpAny_Call_Name_kw (ld_blt I hg hm hv ?_ hn hdb)
  exact PyProof.Rows.callWith_builtin1 (thn (ha pos pins s σ H _ I h) fun us s1 ⟨vs, H1, I1, r1, q1⟩ => hc pins s1 σ H1 vs us Q I1 r1 q1) he hpl
theorem pe_callTy (hc : CallR X (.type T) r) (hg : Gl X x) (hm : X.mg x = none) (hv : bootBuiltins x = some (.type T)) (ha : PA X (e :: es) t) (hn : x ≠ "__name__" := by decide) (hdb : (x == ("__debug__" : Str)) = false := by decide)
    (he : starEach (e :: es) X.env = (false, eval e X.env) :: starEach es X.env := by rfl) (hpl : (backTo pos (starEach es X.env)).any (·.1) = false := by rfl) : PE X (.Call (.Name x p) (e :: es) [] pos) (tCB r t) := by
  intro pins s σ H Q I h
  refine wpAny_Call_Name_kw (ld_blt I hg hm hv ?_ hn hdb)
  exact PyProof.Rows.callWith_type1 (thn (ha pos pins s σ H _ I h) fun us s1 ⟨vs, H1, I1, r1, q1⟩ => hc pins s1 σ H1 vs us Q I1 r1 q1) he hpl
end
end L2
namespace HT
open PySem PyProof.Rows
section
open PySem.SeqAt
open PySem.AutoSeq1 (wpAny_loadPart')
open PySem.MeetsSeq PySem.MeetsSeq2 PySem.MeetsSeq3
end
section
variable {prog : Program} {w : World} {A : Around} {E : Value → Shared → Prop} {s : Shared}
theorem cat_tup {t b : Addr} {vs ws : List Value} {Q : Value → Shared → Prop} (ht : IsTup s.heap t vs.toArray) (hb : IsTup s.heap b ws.toArray) (hv : vs ≠ [])
    (h1 : ws = [] → Q (.ref t) s) (h2 : ws ≠ [] → Q (.ref s.heap.objs.size) { s with heap := s.heap.push { cls := .type "tuple", data := .seq (vs ++ ws).toArray } })
    (hsz : vs.length + ws.length ≤ sizeLine) : wpAny (model prog w) A (binaryOp .Add (.ref t) (.ref b)) Q E s := by
  obtain ⟨⟨cls, dd, data, sl⟩, ho, hc, n, hd⟩ := id ht
  obtain ⟨⟨cls2, dd2, data2, sl2⟩, ho2, hc2, n2, hd2⟩ := id hb
  simp only at hc hd hc2 hd2
  subst hc hd hc2 hd2
  have e : vs.toArray ++ ws.toArray = (vs ++ ws).toArray := by simp
  by_cases hw : ws = []
  · exact concat_meets ⟨_, ho, rfl⟩ ⟨_, ho2, rfl⟩ noFill_tuple_add seq_tuple_add PySem.F.slot_tuple_add PySem.F.entry_tuple_add (PySem.F.args_tuple_add_2 _ _)
      (tuple_addW1 t b vs.toArray ws.toArray n n2 dd dd2 sl sl2 (by simpa using hv) (by simp [hw])) ⟨ho, ho2, h1 hw⟩
  · refine concat_meets ⟨_, ho, rfl⟩ ⟨_, ho2, rfl⟩ noFill_tuple_add seq_tuple_add PySem.F.slot_tuple_add PySem.F.entry_tuple_add (PySem.F.args_tuple_add_2 _ _)
      (tuple_addW2 t b vs.toArray ws.toArray n n2 dd dd2 sl sl2 (by simpa using hv) (by simpa using hw) (by rw [List.size_toArray, List.size_toArray]; exact hsz)) ⟨ho, ho2, ?_⟩
    rw [e]
    exact h2 hw
def sIx (n d : Nat) : Option Int → Nat
  | none => d
  | some v => if v < 0 then (v + (n : Int)).toNat else min v.toNat n
theorem sIx_none (n d : Nat) : sIx n d none = d := rfl
theorem sIx_nat (n d k : Nat) : sIx n d (some (k : Int)) = min k n := by
  show (if (k : Int) < 0 then ((k : Int) + (n : Int)).toNat else min (k : Int).toNat n) = min k n
  rw [if_neg (by omega), Int.toNat_natCast]
theorem sIx_le (n d : Nat) (hd : d ≤ n) (o : Option Int) : sIx n d o ≤ n := by
  cases o with
  | none => exact hd
  | some v =>
    show (if v < 0 then (v + (n : Int)).toNat else min v.toNat n) ≤ n
    by_cases hv : v < 0
    · rw [if_pos hv]; omega
    · rw [if_neg hv]; exact Nat.min_le_right _ _
end
end HT
namespace L2
open PySem PySem.Spec PyProof.Rows
abbrev TO := St → Hp → (Option Int → Hp → Prop) → Prop
def PO (X : Cx) (e : Option Expr) (t : TO) : Prop :=
  ∀ (pins : List (Addr × Obj)) (s : Shared) (σ : St) (H : Hp) (Q : Option Int → Hp → Prop), Inv X pins σ H s → t σ H Q →
    wpAny (model X.prog X.w) X.A (evalPart e X.env) (fun u s' => ∃ o H', Inv X pins σ H' s' ∧ IsPart u o ∧ Q o H') X.xe s
def tNoPart : TO := fun _ H Q => Q none H
def tPart (t : TE) : TO := fun σ H Q => t σ H fun x H1 => ∃ i, x = .int i ∧ Q (some i) H1
theorem intsAre_of {ns : List Int} : ∀ {us : List Value}, Vals (ns.map V.int) us → IntsAre us ns := by
  induction ns with
  | nil => intro us r; rw [List.map_nil] at r; cases r; exact .nil
  | cons n ns ih =>
    intro us r
    rw [List.map_cons] at r
    cases r with
    | cons r1 r2 =>
      obtain ⟨t, e⟩ := r1
      subst e
      exact .cons n t (ih r2)
section
variable {X : Cx} {e : Expr} {te : TE} {lo hi : Option Expr} {tl th : TO} {pos p2 : Pos}
theorem po_none : PO X none tNoPart := by
  intro pins s σ H Q I h
  rw [evalPart_none]
  exact wpAny_pure ⟨none, H, I, .none, h⟩
theorem po_some (h : PE X e te) : PO X (some e) (tPart te) := by
  intro pins s σ H Q I hw
  rw [evalPart_some]
  refine thn (h pins s σ H _ I hw) fun u s1 ⟨x, H1, I1, r1, q1⟩ => ?_
  obtain ⟨i, rfl, q⟩ := q1
  obtain ⟨t, rfl⟩ := r1
  exact ⟨some i, H1, I1, .int i t, q⟩
def SlR (X : Cx) (r : V → Option Int → Option Int → Hp → VK → Prop) : Prop :=
  ∀ (pins : List (Addr × Obj)) (s : Shared) (σ : St) (H : Hp) (x : V) (v vl vu : Value) (lo hi : Option Int) (sl : Addr) (Q : VK), Inv X pins σ H s → RelV x v → s.heap.IsSliceOf sl vl vu .none → IsPart vl lo → IsPart vu hi → r x lo hi H Q →
    ∃ T id, typeLookup (.type T) "__getitem__" = pure (some (.builtin id)) ∧ s.TypeIs v T ∧ wpAny (model X.prog X.w) X.A (getItem v (.ref sl)) (EP X pins σ Q) X.xe s
theorem SlR.or {r r' : V → Option Int → Option Int → Hp → VK → Prop} (h : SlR X r) (h' : SlR X r') : SlR X (fun x lo hi H Q => r x lo hi H Q ∨ r' x lo hi H Q) := by
  intro pins s σ H x v vl vu lo hi sl Q I rx hs pl pu q
  rcases q with q | q
  · exact h pins s σ H x v vl vu lo hi sl Q I rx hs pl pu q
  · exact h' pins s σ H x v vl vu lo hi sl Q I rx hs pl pu q
def tSl (r : V → Option Int → Option Int → Hp → VK → Prop) (te : TE) (tl th : TO) : TE := fun σ H Q => te σ H fun x H1 => tl σ H1 fun l H2 => th σ H2 fun u H3 => r x l u H3 Q
theorem pe_slice {r : V → Option Int → Option Int → Hp → VK → Prop} (hr : SlR X r) (he : PE X e te) (hl : PO X lo tl) (hu : PO X hi th) : PE X (.Subscript e (.Slice lo hi none p2) pos) (tSl r te tl th) := by
  intro pins s σ H Q I h
  refine Subscript_ (thn (he pins s σ H _ I h) fun v s1 ⟨x, H1, I1, r1, q1⟩ => ?_)
  refine wpAny_Slice (thn (hl pins s1 σ H1 _ I1 q1) fun vl s2 ⟨l, H2, I2, pl, q2⟩ => thn (hu pins s2 σ H2 _ I2 q2) fun vu s3 ⟨u, H3, I3, pu, q3⟩ => ?_)
  rw [evalPart_none]
  refine wpAny_pure ?_
  have I4 : Inv X pins σ H3 { s3 with heap := s3.heap.push { cls := .type "slice", data := .fields #[vl, vu, .none] } } := I3.kept (t' := s3.toks) fun b ob q => Heap.get?_push_of_some _ q
  obtain ⟨T, id, hT, ht, hg⟩ := hr pins { s3 with heap := s3.heap.push { cls := .type "slice", data := .fields #[vl, vu, .none] } } σ H3 x v vl vu l u s3.heap.objs.size Q I4 r1 (Heap.IsSliceOf.new ..) pl pu q3
  show wpAny (model X.prog X.w) X.A (subscriptTail e (.Slice lo hi none p2) v (.ref s3.heap.objs.size)) (EP X pins σ Q) X.xe { s3 with heap := s3.heap.push { cls := .type "slice", data := .fields #[vl, vu, .none] } }
  exact tail_any (ops := [.ref s3.heap.objs.size, v]) ht hT hg (by with_unfolding_all rfl)
def cutV (xs : List V) (lo hi : Option Int) : List V := (xs.drop (HT.sIx xs.length 0 lo)).take (HT.sIx xs.length xs.length hi - HT.sIx xs.length 0 lo)
theorem cutV_length (xs : List V) (lo hi : Option Int) : (cutV xs lo hi).length ≤ xs.length := by
  unfold cutV
  rw [List.length_take, List.length_drop]
  omega
def rCatT (K : PySem.W.Frag) : R2 := fun x y H Q => ∃ a b xs ys, x = .ref a ∧ y = .ref b ∧ SqT K H a xs ∧ SqT K H b ys ∧ xs ≠ [] ∧ xs.length + ys.length ≤ sizeLine ∧
  (ys = [] → Q (.ref a) H) ∧ (ys ≠ [] → ∀ p, H p = none → Q (.ref p) (upd H p (.tup (xs ++ ys))))
theorem Vals.nil_iff {xs : List V} {us : List Value} (r : Vals xs us) : us = [] ↔ xs = [] := by
  cases r with
  | nil => simp
  | cons _ _ => simp
theorem op_catT : OpR X (binaryOp .Add) (rCatT X.K) := by
  intro pins s σ H x y v u Q I rx ry h
  obtain ⟨a, b, xs, ys, rfl, rfl, ha, hb, hx, hz, q1, q2⟩ := h
  cases rx
  cases ry
  obtain ⟨its, r1, p1, _⟩ := I.tuple ha
  obtain ⟨its2, r2, p2, _⟩ := I.tuple hb
  refine HT.cat_tup p1 p2 (fun z => hx (r1.nil_iff.mp z)) (fun z => ⟨.ref a, H, I, rfl, q1 (r2.nil_iff.mp z)⟩) (fun z => ?_) (by rw [← r1.length, ← r2.length]; exact hz)
  refine ⟨.ref s.heap.objs.size, _, I.laid (t' := s.toks) (o := .tup (xs ++ ys)) (fun b ob q => Heap.get?_push_of_some _ q) (Nat.le_refl _) ?_, rfl, q2 (fun w => z (r2.nil_iff.mpr w)) _ (I.hok.fresh (Nat.le_refl _))⟩
  exact ⟨by rw [List.length_append]; exact hz, _, r1.append r2, IsTup.new _ _⟩
end
end L2
namespace L2
open PySem PySem.Spec PyProof.Rows
def ixN (n : Nat) (i : Int) : Option Nat := if 0 ≤ i then (if i < n then some i.toNat else none) else if -(n : Int) ≤ i then some (i + n).toNat else none
def atI {α : Type} (xs : List α) (i : Int) : Option α := (ixN xs.length i).bind fun j => xs[j]?
theorem ixN_seq {n : Nat} {i : Int} {j : Nat} (h : ixN n i = some j) : seqIndex? i n = some j ∧ j < n ∧ -(n : Int) ≤ i ∧ i < n := by
  unfold ixN at h
  by_cases h0 : 0 ≤ i
  · rw [if_pos h0] at h
    by_cases h1 : i < n
    · rw [if_pos h1] at h
      have e : i.toNat = j := Option.some.inj h
      exact ⟨by rw [seqIndex_of h0 h1, e], by omega, by omega, h1⟩
    · rw [if_neg h1] at h; cases h
  · rw [if_neg h0] at h
    by_cases h1 : -(n : Int) ≤ i
    · rw [if_pos h1] at h
      have e : (i + n).toNat = j := Option.some.inj h
      exact ⟨by rw [seqIndex_neg (by omega) h1, e], by omega, h1, by omega⟩
    · rw [if_neg h1] at h; cases h
theorem atI_get {α : Type} {xs : List α} {i : Int} {v : α} (h : atI xs i = some v) : ∃ j, seqIndex? i xs.length = some j ∧ xs[j]? = some v ∧ j < xs.length ∧ -(xs.length : Int) ≤ i ∧ i < xs.length := by
  unfold atI at h
  cases e : ixN xs.length i with
  | none => rw [e] at h; cases h
  | some j =>
    rw [e] at h
    obtain ⟨h1, h2, h3, h4⟩ := ixN_seq e
    exact ⟨j, h1, h, h2, h3, h4⟩
theorem atI_nat {α : Type} {xs : List α} {j : Nat} {v : α} (h : xs[j]? = some v) : atI xs (j : Int) = some v := by
  have hj : j < xs.length := (List.getElem?_eq_some_iff.mp h).1
  have e : ixN xs.length (j : Int) = some j := by
    unfold ixN
    rw [if_pos (by omega), if_pos (by omega)]; simp
  unfold atI; rw [e]; exact h
def PlainIx (b : Expr) : Prop := ∀ o i, subscripted b false o i = operate [o, i] (getItem o i)
def IxR (X : Cx) (r : R2) : Prop :=
  ∀ (value slice : Expr) (pins : List (Addr × Obj)) (s : Shared) (σ : St) (H : Hp) (x y : V) (v u : Value) (Q : VK), Inv X pins σ H s → RelV x v → RelV y u → r x y H Q →
    subscripted slice false v u = operate [v, u] (getItem v u) → wpAny (model X.prog X.w) X.A (subscriptTail value slice v u) (EP X pins σ Q) X.xe s
def MtR (X : Cx) (id : String) (r : V → List V → Hp → VK → Prop) : Prop :=
  ∀ (pins : List (Addr × Obj)) (s : Shared) (σ : St) (H : Hp) (x : V) (xs : List V) (v : Value) (us : List Value) (Q : VK), Inv X pins σ H s → RelV x v → Vals xs us → r x xs H Q →
    wpAny (model X.prog X.w) X.A (call (.builtin id) (v :: us)) (EP X pins σ Q) X.xe s
section
variable {X : Cx} {a b : Expr} {ta tb : TE} {pos : Pos}
theorem IxR.or {r r' : R2} (h : IxR X r) (h' : IxR X r') : IxR X (fun x y H Q => r x y H Q ∨ r' x y H Q) := by
  intro value slice pins s σ H x y v u Q I rx ry q hs
  rcases q with q | q
  · exact h value slice pins s σ H x y v u Q I rx ry q hs
  · exact h' value slice pins s σ H x y v u Q I rx ry q hs
theorem MtR.or {id : String} {r r' : V → List V → Hp → VK → Prop} (h : MtR X id r) (h' : MtR X id r') : MtR X id (fun x xs H Q => r x xs H Q ∨ r' x xs H Q) := by
  intro pins s σ H x xs v us Q I rx rs q
  rcases q with q | q
  · exact h pins s σ H x xs v us Q I rx rs q
  · exact h' pins s σ H x xs v us Q I rx rs q
theorem pe_ix {r : R2} (hr : IxR X r) (ha : PE X a ta) (hb : PE X b tb) (hs : PlainIx b) : PE X (.Subscript a b pos) (tOp r ta tb) := by
  intro pins s σ H Q I h
  exact Subscript_ (binT ha hb I h fun v u s2 x y H2 I2 rx ry q => hr a b pins s2 σ H2 x y v u Q I2 rx ry q (hs _ _))
def rIxL (K : PySem.W.Frag) : R2 := fun x y H Q => ∃ p xs i v, x = .ref p ∧ y = .int i ∧ SqL K H p xs ∧ atI xs i = some v ∧ Q v H
def rIxT (K : PySem.W.Frag) : R2 := fun x y H Q => ∃ p xs i v, x = .ref p ∧ y = .int i ∧ SqT K H p xs ∧ atI xs i = some v ∧ Q v H
def rIxS : R2 := fun x y H Q => ∃ z i c, x = .str z ∧ y = .int i ∧ z.length ≤ sizeLine ∧ atI z.cps.toList i = some c ∧ Q (.str ⟨#[c]⟩) H
theorem ix_list : IxR X (rIxL X.K) := by
  intro value slice pins s σ H x y v u Q I rx ry h hs
  obtain ⟨p, xs, i, z, rfl, rfl, hq, he, q⟩ := h
  cases rx
  obtain ⟨t, rfl⟩ := ry
  obtain ⟨its, r, pl, hz⟩ := I.list hq
  obtain ⟨j, h1, h2, h3, h4, h5⟩ := atI_get he
  obtain ⟨w, ew, rw'⟩ := r.get h2
  have hl := r.length
  have hn := line63
  have fin : EP X pins σ Q w s := ⟨z, H, I, rw', q⟩
  by_cases h0 : 0 ≤ i
  · have hj : i.toNat = j := by
      rw [seqIndex_of h0 h5] at h1
      exact Option.some.inj h1
    exact item_listR pl.isList h0 (by omega) (by rw [hj]; simpa using ew) fin hs
  · have hj : (i + (its.toArray.size : Int)).toNat = j := by
      rw [seqIndex_neg (by omega) h4] at h1
      rw [List.size_toArray, ← hl]
      exact Option.some.inj h1
    exact subscriptTail_builtinR (x := w) pl.isList.typeIs slot_list_getitem.lookup
      (wpAny_getItem_list_neg (Q := fun r s' => r = w ∧ EP X pins σ Q r s') pl.isList (by omega) (by rw [List.size_toArray] <;> omega) (by omega) (by rw [hj]; simpa using ew) ⟨rfl, fin⟩) hs
theorem ix_tup : IxR X (rIxT X.K) := by
  intro value slice pins s σ H x y v u Q I rx ry h hs
  obtain ⟨p, xs, i, z, rfl, rfl, hq, he, q⟩ := h
  cases rx
  obtain ⟨t, rfl⟩ := ry
  obtain ⟨its, r, pl, hz⟩ := I.tuple hq
  obtain ⟨j, h1, h2, h3, h4, h5⟩ := atI_get he
  obtain ⟨w, ew, rw'⟩ := r.get h2
  have hl := r.length
  have hn := line63
  have fin : EP X pins σ Q w s := ⟨z, H, I, rw', q⟩
  exact subscriptTail_builtinR (x := w) pl.typeIs slot_tuple_getitem.lookup
    (getItem_tuple (j := j) (Q := fun r s' => r = w ∧ EP X pins σ Q r s') pl (by omega) (by omega) (by rw [List.size_toArray, ← hl]; exact h1) (by simpa using ew) ⟨rfl, fin⟩) hs
theorem ix_str : IxR X rIxS := by
  intro value slice pins s σ H x y v u Q I rx ry h hs
  obtain ⟨z, i, c, rfl, rfl, hz, he, q⟩ := h
  obtain ⟨t, rfl⟩ := rx
  obtain ⟨t', rfl⟩ := ry
  obtain ⟨j, h1, h2, h3, h4, h5⟩ := atI_get he
  have hl : z.cps.toList.length = z.length := by simp [Str.length]
  rw [hl] at h1 h4 h5
  have hn := line63
  exact tail_any (typeIs_str s z t) slot_str_getitem.lookup (getItem_str (c := c) (by
    have e1 : decide (i < -(2 ^ 63 : Int)) = false := decide_eq_false (by omega)
    have e2 : decide (i ≥ 2 ^ 63) = false := decide_eq_false (by omega)
    rw [e1, e2, Bool.or_false]) (by rw [h1]; simpa using h2) ⟨.str ⟨#[c]⟩, H, I.tok _, ⟨_, rfl⟩, q⟩) hs
def rIx (K : PySem.W.Frag) : R2 := fun x y H Q => rIxL K x y H Q ∨ rIxT K x y H Q ∨ rIxS x y H Q
theorem ix_seq : IxR X (rIx X.K) := ix_list.or (ix_tup.or ix_str)
theorem mapSeq_set (its : List Value) (n j : Nat) (u : Value) : Obj.mapSeq (·.setIfInBounds j u) { cls := .type "list", data := .seq its.toArray n } = { cls := .type "list", data := .seq (its.set j u).toArray n } := by
  simp [Obj.mapSeq]
theorem Inv.lst {pins : List (Addr × Obj)} {σ : St} {H : Hp} {s : Shared} {p : Addr} {xs : List V} (I : Inv X pins σ H s) (h : H p = some (.lst xs)) :
    ∃ (its : List Value) (n : Nat), Vals xs its ∧ s.heap.get? p = some { cls := .type "list", data := .seq its.toArray n } ∧ xs.length ≤ sizeLine := by
  obtain ⟨z, its, n, r, e⟩ := I.hok p _ h
  exact ⟨its, n, r, e, z⟩
theorem Inv.lstUpd {pins : List (Addr × Obj)} {σ : St} {H : Hp} {s : Shared} {p : Addr} {xs ys : List V} {its its' : List Value} {n n' : Nat} {f : Obj → Obj} (I : Inv X pins σ H s) (h : H p = some (.lst xs))
    (ho : s.heap.get? p = some { cls := .type "list", data := .seq its.toArray n }) (hf : f { cls := .type "list", data := .seq its.toArray n } = { cls := .type "list", data := .seq its'.toArray n' }) (r : Vals ys its') (hz : ys.length ≤ sizeLine) (t : Nat) :
    Inv X pins σ (upd H p (.lst ys)) { s with heap := s.heap.update p f, toks := t } := by
  have e : (s.heap.update p f).get? p = some { cls := .type "list", data := .seq its'.toArray n' } := by
    rw [Heap.get?_update_self f ho (by rw [hf] <;> rfl), hf]
  refine I.write (x := p) (e := p) (by rw [h]; trivial) (.inl rfl) (fun b u hb q => (Heap.get?_update_other _ _ (Ne.symm hb)).trans q) ⟨_, e⟩ ?_
  exact ⟨hz, its', n', r, e⟩
def rSetL : V → V → V → Hp → (Hp → Prop) → Prop := fun o i v H Q => ∃ p xs k j, o = .ref p ∧ i = .int k ∧ H p = some (.lst xs) ∧ ixN xs.length k = some j ∧ Q (upd H p (.lst (xs.set j v)))
theorem set_list : PSet X rSetL := by
  intro pins s σ H o i v ov iv u Q I ro ri rv h
  obtain ⟨p, xs, k, j, rfl, rfl, hp, hj, q⟩ := h
  cases ro
  obtain ⟨t, rfl⟩ := ri
  obtain ⟨its, n, r, ho, hz⟩ := I.lst hp
  obtain ⟨h1, h2, h3, h4⟩ := ixN_seq hj
  have hl := r.length
  have hn := line63
  have I' : Inv X pins σ (upd H p (.lst (xs.set j v))) { s with heap := s.heap.update p (Obj.mapSeq (·.setIfInBounds j u)) } :=
    I.lstUpd hp ho (mapSeq_set its n j u) (r.set rv j) (by rw [List.length_set]; exact hz) s.toks
  by_cases h0 : 0 ≤ k
  · have hk : k.toNat = j := by
      rw [seqIndex_of h0 h4] at h1
      exact Option.some.inj h1
    exact PySem.W.ki_setAt ho h0 (by omega) (by rw [List.size_toArray, ← hl]; exact h4) (by rw [hk]; exact ⟨_, I', q⟩)
  · have hk : (k + (its.toArray.size : Int)).toNat = j := by
      rw [seqIndex_neg (by omega) h3] at h1
      rw [List.size_toArray, ← hl]
      exact Option.some.inj h1
    exact PySem.W.ki_setBack ho (by omega) (by rw [List.size_toArray, ← hl]; exact h3) (by omega) (by rw [hk]; exact ⟨_, I', q⟩)
theorem slice_bounds (lo hi : Option Int) (n : Nat) : (sliceBounds lo hi none n).1 = ((HT.sIx n 0 lo : Nat) : Int) ∧ (sliceBounds lo hi none n).2.1 = ((HT.sIx n n hi : Nat) : Int) ∧ (sliceBounds lo hi none n).2.2 = 1 := by
  refine ⟨?_, ?_, rfl⟩
  · cases lo with
    | none => simp [sliceBounds, HT.sIx]
    | some i =>
      simp only [sliceBounds, HT.sIx, Option.getD_none, show (1 : Int) > 0 by decide, if_true]
      by_cases h : i < 0
      · simp only [h, if_true] <;> omega
      · simp only [h, if_false] <;> omega
  · cases hi with
    | none => simp [sliceBounds, HT.sIx]
    | some i =>
      simp only [sliceBounds, HT.sIx, Option.getD_none, show (1 : Int) > 0 by decide, if_true]
      by_cases h : i < 0
      · simp only [h, if_true] <;> omega
      · simp only [h, if_false] <;> omega
theorem slicePick_cut (its : List Value) (lo hi : Option Int) : slicePick its.toArray lo hi none = ((its.drop (HT.sIx its.length 0 lo)).take (HT.sIx its.length its.length hi - HT.sIx its.length 0 lo)).toArray := by
  obtain ⟨h1, h2, h3⟩ := slice_bounds lo hi its.toArray.size
  unfold slicePick
  rw [h1, h2, h3]
  simp only [sliceRange_one, pick_run, List.size_toArray] <;> rfl
def rSlL (K : PySem.W.Frag) : V → Option Int → Option Int → Hp → VK → Prop := fun x lo hi H Q => ∃ a xs, x = .ref a ∧ SqL K H a xs ∧ ∀ p, H p = none → Q (.ref p) (upd H p (.lst (cutV xs lo hi)))
theorem sl_list : SlR X (rSlL X.K) := by
  intro pins s σ H x v vl vu lo hi sl Q I rx hs pl pu h
  obtain ⟨a, xs, rfl, hx, q⟩ := h
  cases rx
  obtain ⟨its, r, ht, hz⟩ := I.list hx
  have hlen := r.length
  refine ⟨"list", _, slot_list_getitem.lookup, ht.isList.typeIs, ?_⟩
  refine wpAny_getItem_list_slice ht.isList hs pl pu .none (by simp) ?_ (by rw [List.size_toArray] <;> omega)
  rw [slicePick_cut, ← hlen]
  refine ⟨.ref s.heap.objs.size, _, I.laid (t' := s.toks) (o := .lst (cutV xs lo hi)) (fun b ob q => Heap.get?_push_of_some _ q) (Nat.le_refl _) ?_, rfl, q _ (I.hok.fresh (Nat.le_refl _))⟩
  exact ⟨Nat.le_trans (cutV_length xs lo hi) hz, _, 0, (r.drop (HT.sIx xs.length 0 lo)).take (HT.sIx xs.length xs.length hi - HT.sIx xs.length 0 lo), Heap.get?_push_size _ rfl⟩
def flatV : V → Bool
  | .non => true
  | .bl _ => true
  | .int _ => true
  | .str _ => true
  | _ => false
def eqV : V → V → Bool
  | .non, .non => true
  | .bl a, .bl b => a == b
  | .bl a, .int b => (if a then 1 else 0) == b
  | .int a, .bl b => a == (if b then 1 else 0)
  | .int a, .int b => a == b
  | .str a, .str b => a == b
  | _, _ => false
theorem eqAt_V {A : Around} {s : Shared} {y x : V} {u v : Value} (ry : RelV y u) (rx : RelV x v) (fy : flatV y = true) (fx : flatV x = true) : SeqAt.EqAt A s u v (eqV y x) := by
  cases y with
  | non =>
    cases ry
    cases x with
    | non => cases rx; exact SeqAt.EqAt.same _
    | bl b => cases rx; exact SeqAt.EqAt.none_bool b
    | int b => obtain ⟨t, rfl⟩ := rx; exact SeqAt.EqAt.none_int b t
    | str b => obtain ⟨t, rfl⟩ := rx; exact SeqAt.EqAt.none_str b t
    | _ => exact absurd (show false = true from fx) Bool.false_ne_true
  | bl a =>
    cases ry
    cases x with
    | non => cases rx; exact SeqAt.EqAt.bool_none a
    | bl b => cases rx; exact SeqAt.EqAt.bool_bool a b
    | int b => obtain ⟨t, rfl⟩ := rx; exact SeqAt.EqAt.bool_int a b t
    | str b => obtain ⟨t, rfl⟩ := rx; exact SeqAt.EqAt.bool_str a b t
    | _ => exact absurd (show false = true from fx) Bool.false_ne_true
  | int a =>
    obtain ⟨t', rfl⟩ := ry
    cases x with
    | non => cases rx; exact SeqAt.EqAt.int_none a t'
    | bl b => cases rx; exact SeqAt.EqAt.int_bool a t' b
    | int b => obtain ⟨t, rfl⟩ := rx; exact SeqAt.EqAt.int_int a t' b t
    | str b => obtain ⟨t, rfl⟩ := rx; exact SeqAt.EqAt.int_str a t' b t
    | _ => exact absurd (show false = true from fx) Bool.false_ne_true
  | str a =>
    obtain ⟨t', rfl⟩ := ry
    cases x with
    | non => cases rx; exact SeqAt.EqAt.str_none a t'
    | bl b => cases rx; exact SeqAt.EqAt.str_bool a t' b
    | int b => obtain ⟨t, rfl⟩ := rx; exact SeqAt.EqAt.str_int a t' b t
    | str b => obtain ⟨t, rfl⟩ := rx; exact SeqAt.EqAt.str_str a t' b t
    | _ => exact absurd (show false = true from fx) Bool.false_ne_true
  | _ => exact absurd (show false = true from fy) Bool.false_ne_true
def eqU (x : V) (u : Value) : Bool := match u with
  | .none => eqV .non x
  | .bool b => eqV (.bl b) x
  | .int i _ => eqV (.int i) x
  | .str z _ => eqV (.str z) x
  | _ => false
theorem eqU_of {x y : V} {u : Value} (r : RelV y u) (f : flatV y = true) : eqU x u = eqV y x := by
  cases y with
  | non => cases r; rfl
  | bl b => cases r; rfl
  | int i => obtain ⟨t, rfl⟩ := r; rfl
  | str z => obtain ⟨t, rfl⟩ := r; rfl
  | _ => exact absurd (show false = true from f) Bool.false_ne_true
theorem any_eqU {x : V} : ∀ {xs : List V} {us : List Value}, Vals xs us → xs.all flatV = true → us.any (eqU x) = xs.any fun y => eqV y x
  | _, _, .nil, _ => rfl
  | y :: xs, u :: us, .cons r t, f => by
    rw [List.all_cons, Bool.and_eq_true] at f
    rw [List.any_cons, List.any_cons, eqU_of r f.1, any_eqU t f.2]
theorem mem_eqAt {A : Around} {s : Shared} {x : V} {v : Value} (rx : RelV x v) (fx : flatV x = true) : ∀ {xs : List V} {us : List Value}, Vals xs us → xs.all flatV = true → ∀ u ∈ us, SeqAt.EqAt A s u v (eqU x u)
  | _, _, .nil, _ => fun u hu => by cases hu
  | y :: xs, u :: us, .cons r t, f => fun u' hu => by
    rw [List.all_cons, Bool.and_eq_true] at f
    rcases List.mem_cons.mp hu with rfl | hu
    · rw [eqU_of r f.1]; exact eqAt_V r rx f.1 fx
    · exact mem_eqAt rx fx t f.2 u' hu
def inV (x : V) (xs : List V) : Bool := xs.any fun y => eqV y x
def rIn (K : PySem.W.Frag) (neg : Bool) : R2 := fun x y H Q => ∃ p xs, y = .ref p ∧ (SqL K H p xs ∨ SqT K H p xs) ∧ flatV x = true ∧ xs.all flatV = true ∧ Q (.bl (if neg then !inV x xs else inV x xs)) H
theorem op_in_seq : OpR X (compareOp .In) (rIn X.K false) := by
  intro pins s σ H x y v u Q I rx ry h
  obtain ⟨p, xs, rfl, hq, fx, fs, q⟩ := h
  cases ry
  rcases hq with hq | hq
  · obtain ⟨its, r, pl, hz⟩ := I.list hq
    refine SeqAt.in_listAt (eqU x) pl.isList (fun w hw => mem_eqAt rx fx r fs w (by simpa using hw)) ⟨.bl _, H, I, rfl, ?_⟩
    rw [show its.toArray.any (eqU x) = its.any (eqU x) by simp, any_eqU r fs]
    exact q
  · obtain ⟨its, r, pl, hz⟩ := I.tuple hq
    refine SeqAt.in_tupleAt (eqU x) pl (fun w hw => mem_eqAt rx fx r fs w (by simpa using hw)) ⟨.bl _, H, I, rfl, ?_⟩
    rw [show its.toArray.any (eqU x) = its.any (eqU x) by simp, any_eqU r fs]
    exact q
theorem op_notIn_seq : OpR X (compareOp .NotIn) (rIn X.K true) := by
  intro pins s σ H x y v u Q I rx ry h
  obtain ⟨p, xs, rfl, hq, fx, fs, q⟩ := h
  cases ry
  rcases hq with hq | hq
  · obtain ⟨its, r, pl, hz⟩ := I.list hq
    refine SeqAt.notIn_listAt (eqU x) pl.isList (fun w hw => mem_eqAt rx fx r fs w (by simpa using hw)) ⟨.bl _, H, I, rfl, ?_⟩
    rw [show its.toArray.any (eqU x) = its.any (eqU x) by simp, any_eqU r fs]
    exact q
  · obtain ⟨its, r, pl, hz⟩ := I.tuple hq
    refine SeqAt.notIn_tupleAt (eqU x) pl (fun w hw => mem_eqAt rx fx r fs w (by simpa using hw)) ⟨.bl _, H, I, rfl, ?_⟩
    rw [show its.toArray.any (eqU x) = its.any (eqU x) by simp, any_eqU r fs]
    exact q
theorem op_notIn_str : OpR X (compareOp .NotIn) (fun x y H Q => ∃ i j, x = .str i ∧ y = .str j ∧ Q (.bl (!(!(Builtin.Str.occurrences j i 0 j.length 1).isEmpty))) H) := by
  intro pins s σ H x y v u Q I rx ry h
  obtain ⟨i, j, rfl, rfl, q⟩ := h
  obtain ⟨t, rfl⟩ := rx
  obtain ⟨t', rfl⟩ := ry
  exact notIn_str ⟨.bl _, H, I, rfl, q⟩
theorem CallR.or {f : Value} {r r' : List V → Hp → VK → Prop} (h : CallR X f r) (h' : CallR X f r') : CallR X f (fun xs H Q => r xs H Q ∨ r' xs H Q) := by
  intro pins s σ H xs us Q I rs q
  rcases q with q | q
  · exact h pins s σ H xs us Q I rs q
  · exact h' pins s σ H xs us Q I rs q
theorem call_list_of : CallR X (.type "list") (fun xs H Q => ∃ p ys, xs = [.ref p] ∧ (SqL X.K H p ys ∨ SqT X.K H p ys) ∧ ∀ l, H l = none → Q (.ref l) (upd H l (.lst ys))) := by
  intro pins s σ H xs us Q I r h
  obtain ⟨p, ys, rfl, hq, q⟩ := h
  obtain ⟨u, rfl, rx⟩ := vals1 r
  cases rx
  have fin : ∀ (its : List Value), Vals ys its → ys.length ≤ sizeLine → ∀ (h' : Heap) (c' : Nat), (∀ b o', s.heap.get? b = some o' → h'.get? b = some o') →
      h'.get? s.heap.objs.size = some { cls := .type "list", dict := none, data := .seq its.toArray c', slots := #[] } → EP X pins σ Q (.ref s.heap.objs.size) { s with heap := h' } := fun its r' hz h' c' kp e =>
    ⟨.ref s.heap.objs.size, _, I.laid (t' := s.toks) kp (Nat.le_refl _) (show ObjOk X.prog X.w _ h' _ (.lst ys) from ⟨hz, its, c', r', e⟩), rfl, q _ (I.hok.fresh (Nat.le_refl _))⟩
  rcases hq with hq | hq
  · obtain ⟨its, r', pl, hz⟩ := I.list hq
    have hlen := r'.length
    obtain ⟨o, ho, hc, n, hd⟩ := pl.isList
    exact call_list_seq p (.inl rfl) ho hc hd (fun h' c' kp e => fin its r' hz h' c' kp e) (by simp only [List.size_toArray] <;> omega)
  · obtain ⟨its, r', pl, hz⟩ := I.tuple hq
    have hlen := r'.length
    obtain ⟨o, ho, hc, n, hd⟩ := pl
    exact call_list_seq p (.inr rfl) ho hc hd (fun h' c' kp e => fin its r' hz h' c' kp e) (by simp only [List.size_toArray] <;> omega)
def tyV (K : PySem.W.Frag) (T : String) (x : V) (H : Hp) : Prop := match x with
  | .str _ => T = "str"
  | .int _ => T = "int"
  | .ref p => (T = "list" ∧ ∃ xs, SqL K H p xs) ∨ (T = "tuple" ∧ ∃ o, K.lookup p = some o ∧ o.cls = .type "tuple" ∧ o.dict = none) ∨
      (T = "dict" ∧ ((∃ kvs, H p = some (.dK kvs)) ∨ ∃ kvs, H p = some (.dT kvs))) ∨ (T = "set" ∧ ∃ S n, H p = some (.set S n))
  | _ => False
theorem tyV_is {pins : List (Addr × Obj)} {σ : St} {H : Hp} {s : Shared} {T : String} {x : V} {v : Value} (I : Inv X pins σ H s) (r : RelV x v) (ty : tyV X.K T x H) :
    s.TypeIs v T ∧ ∀ a, v = .ref a → ∃ ob, s.heap.get? a = some ob ∧ ob.dict = none := by
  cases x with
  | str z =>
    obtain ⟨t, rfl⟩ := r
    cases (show T = "str" from ty)
    exact ⟨typeIs_str s z t, fun _ e => nomatch e⟩
  | int i =>
    obtain ⟨t, rfl⟩ := r
    cases (show T = "int" from ty)
    exact ⟨typeIs_int s i t, fun _ e => nomatch e⟩
  | ref p =>
    cases r
    rcases ty with ⟨rfl, xs, hq⟩ | ⟨rfl, o, hk, hc, hd⟩ | ⟨rfl, hk⟩ | ⟨rfl, S, n, hk⟩
    · obtain ⟨its, _, pl, _⟩ := I.list hq
      refine ⟨pl.isList.typeIs, fun a e => ?_⟩
      cases e
      obtain ⟨o, n, e, c, hd, _⟩ := pl
      exact ⟨o, e, hd⟩
    · refine ⟨⟨o, I.kIn p o hk, hc⟩, fun a e => ?_⟩
      cases e
      exact ⟨o, I.kIn _ o hk, hd⟩
    · have z : ∃ o, s.heap.get? p = some o ∧ o.ExactDict := by
        rcases hk with ⟨kvs, hk⟩ | ⟨kvs, hk⟩
        · obtain ⟨_, _, _, _, o, _, _, e, ex, _⟩ := I.hok p _ hk
          exact ⟨o, e, ex⟩
        · obtain ⟨_, _, _, _, o, _, _, e, ex, _⟩ := I.hok p _ hk
          exact ⟨o, e, ex⟩
      obtain ⟨o, e, ex⟩ := z
      refine ⟨⟨o, e, ex.1⟩, fun a e2 => ?_⟩
      cases e2
      exact ⟨o, e, ex.2.1⟩
    · obtain ⟨o, _, _, _, e, ex, _⟩ := I.hok p _ hk
      refine ⟨⟨o, e, ex.1⟩, fun a e2 => ?_⟩
      cases e2
      exact ⟨o, e, ex.2.1⟩
  | _ => exact False.elim ty
def tBM (K : PySem.W.Frag) (T : String) (r : V → List V → Hp → VK → Prop) (to : TE) (t : TA) : TE := fun σ H Q => to σ H fun x H1 => tyV K T x H1 ∧ t σ H1 fun xs H2 => r x xs H2 Q
variable {o e : Expr} {es : List Expr} {to : TE} {t : TA} {name : Str} {apos cpos : Pos} {T id : String} {r : V → List V → Hp → VK → Prop}
theorem pe_bm (pa : PlainAttrs T) (slot : Slot T name id) (hty : typeOf (.builtin id) = pure (.type "method_descriptor")) (hm : MtR X id r) (ho : PE X o to) (ha : PA X (e :: es) t)
    (hbase : attributeBase o name X.env (eval o X.env) = eval o X.env := by rfl)
    (hfew : ((backTo cpos (starEach (e :: es) X.env)).all (fun x => !x.1) && (backToKw cpos (keywordEach [] X.env)).all (fun x => x.1.isSome)
      && decide ((e :: es).length + ([] : List Keyword).length + (if ([] : List Keyword).isEmpty then 0 else 1) < 30)) = true := by rfl)
    (hline : (apos.endLine == cpos.line) = true := by rfl) (hs : starEach (e :: es) X.env = (false, eval e X.env) :: starEach es X.env := by rfl) (hplain : (backTo cpos (starEach es X.env)).any (·.1) = false := by rfl) :
    PE X (.Call (.Attribute o name apos) (e :: es) [] cpos) (tBM X.K T r to t) := by
  intro pins s σ H Q I h
  refine wpAny_Call_method_late hbase hfew hline rfl (thn (ho pins s σ H _ I h) fun v s1 ⟨x, H1, I1, r1, ty, q1⟩ => ?_)
  obtain ⟨h1, h2⟩ := tyV_is I1 r1 ty
  refine ⟨T, id, pa, slot, hty, h1, h2, ?_⟩
  have hA := ha cpos pins s1 σ H1 _ I1 q1
  rw [hs] at hA ⊢
  refine Calls.callWith_builtin (by show (false || (backTo cpos (starEach es X.env)).any (·.1)) = false; rw [hplain] <;> rfl) (Calls.evalArgs_plain ?_)
  exact thn hA fun us s2 ⟨vs, H2, I2, r2, q2⟩ => hm pins s2 σ H2 x vs v us Q I2 r1 r2 q2
end
end L2
namespace L2
open PySem PySem.Spec PyProof.Rows
def MtM (X : Cx) (id : String) (r : V → List V → Hp → VK → Prop) : Prop :=
  ∀ (pins : List (Addr × Obj)) (s : Shared) (σ : St) (H : Hp) (x : V) (xs : List V) (v : Value) (us : List Value) (Q : VK), Inv X pins σ H s → RelV x v → Vals xs us → r x xs H Q →
    wpAny (model X.prog X.w) X.A (call (.builtin id) (v :: us)) (EP X pins σ Q) X.xe s
theorem Vals.one : ∀ {x : V} {us : List Value}, Vals [x] us → ∃ u, us = [u] ∧ RelV x u
  | _, _, .cons r .nil => ⟨_, rfl, r⟩
theorem Vals.two : ∀ {x y : V} {us : List Value}, Vals [x, y] us → ∃ u v, us = [u, v] ∧ RelV x u ∧ RelV y v
  | _, _, _, .cons r (.cons q .nil) => ⟨_, _, rfl, r, q⟩
theorem Vals.zero : ∀ {us : List Value}, Vals [] us → us = []
  | _, .nil => rfl
theorem Vals.dropLast {xs : List V} {us : List Value} (h : Vals xs us) : Vals xs.dropLast us.dropLast := by
  induction h with
  | nil => exact .nil
  | cons r t ih =>
    cases t with
    | nil => exact .nil
    | cons q t' => exact .cons r ih
theorem Vals.reverse {xs : List V} {us : List Value} (h : Vals xs us) : Vals xs.reverse us.reverse := by
  induction h with
  | nil => exact .nil
  | cons r t ih => rw [List.reverse_cons, List.reverse_cons]; exact Vals.append ih (.cons r .nil)
theorem Vals.rep {xs : List V} {us : List Value} (h : Vals xs us) : ∀ k : Nat, Vals (List.replicate k xs).flatten (List.replicate k us).flatten
  | 0 => .nil
  | k + 1 => by
    rw [List.replicate_succ, List.replicate_succ, List.flatten_cons, List.flatten_cons]
    exact Vals.append h (Vals.rep h k)
theorem foldl_rep (its : List Value) : ∀ (k : Nat) (acc : List Value),
    List.foldl (fun x1 x2 => x1 ++ x2) acc.toArray (List.replicate k its.toArray) = (acc ++ (List.replicate k its).flatten).toArray
  | 0, acc => by simp
  | k + 1, acc => by
    have e : acc.toArray ++ its.toArray = (acc ++ its).toArray := by simp
    have e2 : (acc ++ its) ++ (List.replicate k its).flatten = acc ++ (List.replicate (k + 1) its).flatten := by
      rw [List.replicate_succ, List.flatten_cons, List.append_assoc]
    rw [← e2, ← foldl_rep its k (acc ++ its), ← e, List.replicate_succ, List.foldl_cons]
section
variable {X : Cx} {pins : List (Addr × Obj)} {σ : St} {H : Hp} {s : Shared} {l b : Addr} {xs ys zs : List V}
theorem Inv.lset {its its' : List Value} {n : Nat} {f : Array Value → Array Value} {t' : Nat} (I : Inv X pins σ H s) (hH : H l = some (.lst xs))
    (e : s.heap.get? l = some { cls := .type "list", data := .seq its.toArray n }) (hf : f its.toArray = its'.toArray) (hv : Vals ys its') (hz : ys.length ≤ sizeLine) :
    Inv X pins σ (upd H l (.lst ys)) { s with heap := s.heap.update l (Obj.mapSeq f), toks := t' } := by
  have q := PySem.IsL.update e f
  rw [hf] at q
  refine I.write (x := l) (e := l) (by rw [hH]; exact trivial) (.inl rfl) (fun b' u hb hu => (Heap.get?_update_other s.heap (Obj.mapSeq f) (Ne.symm hb)).trans hu) ⟨_, q⟩ ?_
  exact ⟨hz, its', _, hv, q⟩
theorem Inv.lnew {its : List Value} {t' : Nat} (I : Inv X pins σ H s) (hv : Vals ys its) (hz : ys.length ≤ sizeLine) :
    Inv X pins σ (upd H s.heap.objs.size (.lst ys)) { s with heap := s.heap.push { cls := .type "list", data := .seq its.toArray }, toks := t' } :=
  I.laid (fun _ _ q => Heap.get?_push_of_some _ q) (Nat.le_refl _) ⟨hz, its, 0, hv, Heap.get?_push_size _ rfl⟩
theorem Inv.fresh (I : Inv X pins σ H s) : H s.heap.objs.size = none := I.hok.fresh (Nat.le_refl _)
theorem Inv.lstM (I : Inv X pins σ H s) (hH : H l = some (.lst xs)) : xs.length ≤ sizeLine ∧ ∃ (its : List Value) (n : Nat), Vals xs its ∧ xs.length = its.length ∧ s.heap.get? l = some { cls := .type "list", data := .seq its.toArray n } := by
  obtain ⟨z, its, n, r, e⟩ := I.hok l _ hH
  exact ⟨z, its, n, r, r.length, e⟩
theorem notLongL {n : Nat} (h : n ≤ sizeLine) : Builtin.List.listTooLong n = false := by
  unfold Builtin.List.listTooLong
  exact decide_eq_false (by omega)
end
section
variable {X : Cx}
def rAppend : V → List V → Hp → VK → Prop := fun x vs H Q => ∃ l xs y, x = .ref l ∧ vs = [y] ∧ H l = some (.lst xs) ∧ xs.length < sizeLine ∧ Q .non (upd H l (.lst (xs ++ [y])))
theorem mt_append : MtM X "list.append" rAppend := by
  intro pins s σ H x vs v us Q I rx rv h
  obtain ⟨l, xs, y, rfl, rfl, hH, hz, q⟩ := h
  cases rx
  obtain ⟨u, rfl, ru⟩ := rv.one
  obtain ⟨z, its, n, r, hl, e⟩ := I.lstM hH
  refine call_meets F.slot_list_append ⟨_, e, rfl⟩ F.entry_list_append (F.args_list_append_2 _ _) (PySem.list_append l its.toArray n u (by rw [List.size_toArray]; omega)) ⟨e, ?_⟩
  refine ⟨.non, _, I.lset (its' := its ++ [u]) hH e (by simp) (r.append (.cons ru .nil)) ?_, rfl, q⟩
  rw [List.length_append, List.length_singleton]
  omega
def rCat : R2 := fun x y H Q => ∃ l b xs zs, x = .ref l ∧ y = .ref b ∧ H l = some (.lst xs) ∧ H b = some (.lst zs) ∧ xs.length + zs.length ≤ sizeLine ∧ ∀ p, H p = none → Q (.ref p) (upd H p (.lst (xs ++ zs)))
theorem op_cat : OpR X (binaryOp .Add) rCat := by
  intro pins s σ H x y v u Q I rx ry h
  obtain ⟨l, b, xs, zs, rfl, rfl, hH, hB, hz, q⟩ := h
  cases rx
  cases ry
  obtain ⟨z, its, n, r, hl, e⟩ := I.lstM hH
  obtain ⟨z2, its2, n2, r2, hl2, e2⟩ := I.lstM hB
  refine PySem.P.add_list e e2 ?_ (by rw [List.size_toArray, List.size_toArray]; omega)
  have ea : its.toArray ++ its2.toArray = (its ++ its2).toArray := by simp
  rw [ea]
  exact ⟨.ref _, _, I.lnew (t' := s.toks) (r.append r2) (by rw [List.length_append]; omega), rfl, q _ I.fresh⟩
def rRep : R2 := fun x y H Q => ∃ l k xs, x = .ref l ∧ y = .int k ∧ H l = some (.lst xs) ∧ -(2 ^ 63) ≤ k ∧ k < 2 ^ 63 ∧ xs.length * k.toNat ≤ sizeLine ∧
  ∀ p, H p = none → Q (.ref p) (upd H p (.lst (List.replicate k.toNat xs).flatten))
theorem len_rep {α : Type} (xs : List α) (k : Nat) : (List.replicate k xs).flatten.length = k * xs.length := by
  induction k with
  | zero => simp
  | succ k ih => rw [List.replicate_succ, List.flatten_cons, List.length_append, ih, Nat.succ_mul, Nat.add_comm]
theorem op_rep : OpR X (binaryOp .Mult) rRep := by
  intro pins s σ H x y v u Q I rx ry h
  obtain ⟨l, k, xs, rfl, rfl, hH, h1, h2, hz, q⟩ := h
  cases rx
  obtain ⟨t, rfl⟩ := ry
  obtain ⟨z, its, n, r, hl, e⟩ := I.lstM hH
  have hlen : its.toArray.size * k.toNat ≤ sizeLine := by rw [List.size_toArray, ← hl]; exact hz
  have hcap : ¬ its.toArray.size * k.toNat > (2 ^ 63 - 1) / 8 := by
    have : (sizeLine : Nat) ≤ (2 ^ 63 - 1) / 8 := by decide
    omega
  have hfit : ¬ (!Builtin.List.listFitsIndex k) = true := by
    rw [fitsIndex_both h1 h2]
    exact Bool.false_ne_true
  have hlong : ¬ Builtin.List.listTooLong (its.toArray.size * k.toNat) = true := by
    rw [notLongL hlen]
    exact Bool.false_ne_true
  have hnew : List.foldl (fun x1 x2 => x1 ++ x2) #[] (List.replicate (if its.toArray.isEmpty = true then 0 else k.toNat) its.toArray) = (List.replicate k.toNat its).flatten.toArray := by
    have f0 : ∀ m : Nat, List.foldl (fun x1 x2 => x1 ++ x2) #[] (List.replicate m its.toArray) = (List.replicate m its).flatten.toArray := fun m => by
      have := foldl_rep its m []
      rw [List.nil_append] at this
      exact this
    rw [f0]
    cases its with
    | nil => simp
    | cons a r' => rw [if_neg (by simp)]
  refine wpAny_binaryOp_repeat_ref (T := "list") (U := "int") (by decide) ⟨_, e, rfl⟩ (fun s' => typeIs_int s' k t) noFill_list_mul F.fills_int_mul F.slot_int_rmul repeat_list F.slot_int_index.lookup
    (call_meets F.slot_int_rmul (typeIs_int s k t) F.entry_int_rmul (F.args_int_rmul_2 _ _) (int___rmul___int_list k t l its.toArray n)
      ⟨e, rfl, ⟨_, e, rfl⟩, call_meets F.slot_list_mul ⟨_, e, rfl⟩ F.entry_list_mul (F.args_list_mul_2 _ _) (AutoListH.list___mul___list_int_3 l its.toArray n k t hfit hcap hlong) ⟨e, ?_⟩⟩)
  rw [hnew]
  exact ⟨.ref _, _, I.lnew (t' := s.toks) (r.rep k.toNat) (by rw [len_rep, Nat.mul_comm]; exact hz), rfl, q _ I.fresh⟩
end
section
variable {prog : Program} {w : World} {A : Around} {E : Value → Shared → Prop} {s : Shared}
end
section
variable {X : Cx}
end
end L2
namespace Att
open PySem PySem.W PySem.Calls PyProof.Rows
theorem ints_of_wellAll {P : Params} {h : Heap} : ∀ (ns : List Int) (vs : List Value), WellAll P h vs (ns.map WData.int) → IntsAre vs ns := by
  intro ns
  induction ns with
  | nil =>
    intro vs w
    rw [List.map_nil] at w
    cases w
    exact .nil
  | cons n ns ih =>
    intro vs w
    rw [List.map_cons] at w
    cases w with
    | cons a b =>
      cases a
      exact .cons _ _ (ih _ b)
theorem script_of {l : OpenLaw} {n : Nat} (hn : l.most = some n) {P : Params} {h : Heap} {args : List WData} {vals : List Value}
    (hpre : l.row.toRowW.claim.pre args = true) (hwl : WellAll P h vals args) :
    ∃ a vs ns, vals = [Value.ref a] ∧ args = [WData.list (ns.map WData.int)] ∧ h.get? a = some { cls := .type "list", data := .seq vs.toArray } ∧ IntsAre vs ns ∧ ns.length ≤ n := by
  have hsh : WShape.hasAll [] args [.list .int] = true := (pre_splitW hpre).1
  have hc : l.pre.holds [] { args := args } = true := (pre_splitW hpre).2
  obtain ⟨d, r, rfl, h1, h2⟩ := hasAllW_cons hsh
  obtain rfl := hasAllW_nil h2
  obtain ⟨xs, rfl, h3⟩ := hasW_list h1
  obtain ⟨ns, rfl⟩ := items_int h3
  have hlen : ns.length ≤ n := by
    unfold OpenLaw.pre at hc
    have h4 : (WTm.not (.lt (.lit (.int (n : Int))) (.len (.arg 0)))).holds [] { args := [.list (ns.map .int)] } = true := by
      have h4 := (holds_andW hc).1
      rw [hn] at h4
      exact h4
    have h5 := condW_of h4 (w_not (w_lt w_lit (w_len_list (w_arg rfl))))
    rw [List.length_map] at h5
    refine Nat.le_of_not_lt fun q => ?_
    have q' : (n : Int) < ((ns.length : Nat) : Int) := by omega
    first
      | (rw [decide_eq_true q'] at h5; exact absurd h5 (by decide))
      | (simp at h5; omega)
  cases hwl with
  | cons w1 w2 =>
    cases w2
    cases w1 with
    | list ho hall => exact ⟨_, _, ns, rfl, rfl, ho, ints_of_wellAll ns _ hall, hlen⟩
theorem post_true (l : OpenLaw) (args : List WData) : l.row.toRowW.claim.post args (.bool true) args = true :=
  postW_of (r := l.row.toRowW) (X := (true == true))
    (show WShape.has [] (.bool true) .bool = true by first | rfl | decide | simp [WShape.has, WShape.arms, WShape.armsAll])
    (show (WTm.eq .res (.lit (.bool true))).value [] { args := args, res := some (.bool true), after := args } = some (.bool (true == true)) from w_eq_bool (w_res rfl) w_lit) rfl
theorem attach_call {l : OpenLaw} {n : Nat} {q : Program} {loose : List Str} {XP : (Str → Option Value) → Heap → Prop} {YP : World → Heap → Prop} {d : DefRec}
    (hn : l.most = some n) (hdf : d.params.defaults = [])
    (call : ∀ (w : World) (s₀ s₁ : Shared) (mg mb : Str → Option Value) (fa : Addr) (o : Obj) (pm cd doc : Value) (a : Addr) (vs : List Value) (ns : List Int),
      Ground q loose [] XP w s₀ mg mb s₁.heap → YP w s₁.heap →
      s₁.heap.get? fa = some o → o.data = .func (docDef d.name d.params d.body d.scope pm cd doc) → s₁.heap.CodeRec cd d.name → mg d.name = some (.ref fa) →
      s₁.heap.get? a = some { cls := .type "list", data := .seq vs.toArray } → IntsAre vs ns → ns.length ≤ n → s₁.gens = #[] →
      codeAny (model l.prog w) callerA (.call (.ref fa) ⟨[.ref a], []⟩) (fun r s' => r = .ok (.ret (.bool true)) ∧ OldK s₁.heap s'.heap ∧ s'.os = s₁.os ∧ AllBare s'.gens) s₁) :
    WalkO q loose XP YP l.row.toRowW d [] (fun f vs => PySem.call f vs) := by
  intro w s₀ s₁ mg mb G Y fa o pm cd doc dV kV ho hd hcd hD hmg hg args vals as hpre hlay hrd hwl hlo
  obtain rfl : dV = .none := Dflts.none hD hdf
  obtain rfl : kV = .none := Dflts.noKw hD
  obtain ⟨a, vs, ns, rfl, rfl, hobj, hints, hlen⟩ := script_of hn hpre hwl
  refine enter_call (codeAny_mono (call w s₀ s₁ mg mb fa o pm cd doc a vs ns G Y ho (fd_plain hd) hcd hmg hobj hints hlen hg) fun r s' hq => ?_)
  obtain ⟨rfl, h2, h3, h4⟩ := hq
  exact ⟨.inl ⟨.bool true, .bool true, [], rfl, fun _ => rfl, .bool true, post_true l _, fun _ => ⟨List.Pairwise.nil, fun _ hm => (nomatch hm)⟩⟩, h2, h3, h4⟩
section
variable {prog : Program} {w : World} {A : Around} {E : Value → Shared → Prop} {s : Shared} {K : Frag}
def ledger (h : Heap) (L d : Addr) : List (Addr × Obj) := (List.range h.objs.size).filterMap fun a => if a = L ∨ a = d then none else (h.get? a).map fun o => (a, o)
end
end Att
namespace L2
open PySem PySem.Spec PyProof.Rows
theorem vals_ints : ∀ {vs : List Value} {ns : List Int}, IntsAre vs ns → Vals (ns.map V.int) vs
  | _, _, .nil => .nil
  | _, _, .cons n t h => .cons ⟨t, rfl⟩ (vals_ints h)
def Only (H : Hp) : Prop := ∀ b, H b = none ∨ ∃ o xs, H b = some (.frz o (.lst xs))
theorem law_call {P : Program} {w : World} {K : PySem.W.Frag} {mg mb : Str → Option Value} {CX : CXT} {k : Nat} {fa a : Addr} {fd : FuncData} {x : Str} {sp : Sp} {s₁ : Shared} {vs : List Value} {ns : List Int}
    (KX : K.In s₁.heap) (hns : s₁.heap.Ns mainGlobals mg) (hb : s₁.heap.Ns builtinsNs mb) (hbb : ∀ x : Str, x ≠ "__name__" → mb x = bootBuiltins x) (hlim : s₁.heap.NoLimit) (hg : s₁.gens = #[])
    (ha : s₁.heap.get? a = some { cls := .type "list", data := .seq vs.toArray }) (hi : IntsAre vs ns) (hl : ns.length ≤ sizeLine) (hr : Room k callerA)
    (F : ∀ base : Heap, K.In base → base.Ns mainGlobals mg → FnOk P w K mg base CX k fa fd [x] sp) (hbind : ∀ (s : Shared) (u : Value), BindsTo s fd ⟨[u], []⟩ [(x, u)])
    (hsp : ∀ H : Hp, Only H → SqL K H a (ns.map V.int) → sp [.ref a] H (fun v _ => v = .bl true) fun _ _ _ => False)
    (hCX : ∀ H e s', CX [] H s₁ (fun _ _ _ => False) e s' → False) :
    codeAny (model P w) callerA (.call (.ref fa) ⟨[.ref a], []⟩) (fun r s' => r = .ok (.ret (.bool true)) ∧ OldK s₁.heap s'.heap ∧ s'.os = s₁.os ∧ AllBare s'.gens) s₁ := by
  have rv := vals_ints hi
  have lenV := hi.length
  have core : ∀ H : Hp, Only H → SqL K H a (ns.map V.int) → HOk P w H s₁.heap → (∀ b, H b ≠ none → b = a) → (H a ≠ none → K.lookup a = none) →
      codeAny (model P w) callerA (.call (.ref fa) ⟨[.ref a], []⟩) (fun r s' => r = .ok (.ret (.bool true)) ∧ OldK s₁.heap s'.heap ∧ s'.os = s₁.os ∧ AllBare s'.gens) s₁ := by
    intro H hO hS hok hA hK
    have base_of : ∀ {b : Addr} {o : Obj}, s₁.heap.get? b = some o → H b = none → (hidT s₁.heap H).get? b = some o := fun e n => hidT_get e n
    have noA : ∀ {b : Addr} {o : Obj} {es : Array DictEntry} {ep : Nat}, s₁.heap.get? b = some o → o.data = .dict es ep → H b = none := fun {b o es ep} e d => by
      cases q : H b with
      | none => rfl
      | some u =>
        have e' : b = a := hA b (by rw [q]; simp)
        subst e'
        rw [ha] at e; cases e
        have d' : Data.seq vs.toArray _ = Data.dict es ep := d
        cases d'
    have nsK : ∀ {b : Addr} {m : Str → Option Value}, s₁.heap.Ns b m → (hidT s₁.heap H).Ns b m := fun {b m} ⟨o, es, ep, e, d, r⟩ => ⟨o, es, ep, base_of e (noA e d), d, r⟩
    have hKb : K.In (hidT s₁.heap H) := fun b o e => base_of (KX b o e) (by
      cases q : H b with
      | none => rfl
      | some u =>
        have e' : b = a := hA b (by rw [q]; simp)
        subst e'
        rw [hK (by rw [q]; simp)] at e; cases e)
    have hM : Mod K mg (hidT s₁.heap H) := ⟨hKb, nsK hns, ⟨mb, nsK hb, hbb⟩, let ⟨mc, h1, h2⟩ := hlim; ⟨mc, nsK h1, h2⟩⟩
    have e0 : Env0 P w K mg (hidT s₁.heap H) callerA [] s₁ H := ⟨rfl, hM, fun b o e => of_hidT e, Nat.le_of_eq (hidT_size _ _), trivial, fun b hb => absurd (show b ∈ ([] : List Addr) from hb) (by simp), hok, .of_eq hg⟩
    refine codeAny_mono ((F _ hKb (nsK hns)).run callerA [] s₁ H ⟨[.ref a], []⟩ [.ref a] [.ref a] _ _ hr e0 (hbind s₁ (.ref a)) (.cons rfl .nil) (hsp H hO hS)) fun r s' h => ?_
    cases r with
    | error e => exact (hCX H e s' h).elim
    | ok fl =>
      cases fl with
      | next => exact False.elim h
      | brk => exact False.elim h
      | cont => exact False.elim h
      | ret u =>
        obtain ⟨v, H', os, bare, un, hok', r', q⟩ := h
        have q' : v = .bl true := q
        subst q'
        obtain rfl : u = Value.bool true := r'
        refine ⟨rfl, OldK.of_keep fun b o e => ?_, os, bare⟩
        cases q : H b with
        | none => exact un.keep b o e q (by intro z; exact absurd (show b ∈ ([] : List Addr) from z) (by simp)) (by simp)
        | some u =>
          rcases hO b with z | ⟨ob, xs, z⟩
          · rw [q] at z; cases z
          · have z2 := un.frzs b ob _ z
            obtain ⟨e1, _⟩ := hok b _ z
            obtain ⟨e2, _⟩ := hok' b _ z2
            rw [e] at e1; cases e1
            exact e2
  cases hk : K.lookup a with
  | some o =>
    have e := KX a o hk
    rw [ha] at e
    cases e
    refine core (fun _ => none) (fun _ => .inl rfl) (.inr ⟨_, vs.toArray, _, hk, rfl, rfl, rfl, by rw [List.size_toArray, lenV]; exact hl, by simpa using rv⟩) (fun b u z => by have z' : (none : Option HO) = some u := z; cases z') (fun b z => absurd rfl z) fun z => absurd rfl z
  | none =>
    refine core (fun b => if b = a then some (.frz { cls := .type "list", data := .seq vs.toArray } (.lst (ns.map V.int))) else none) (fun b => ?_) (.inl (.inr ⟨{ cls := .type "list", data := .seq vs.toArray }, if_pos rfl⟩)) (fun b u z => ?_) (fun b z => ?_) fun _ => hk
    · by_cases hb : b = a
      · exact .inr ⟨_, _, if_pos hb⟩
      · exact .inl (if_neg hb)
    · by_cases hb : b = a
      · have z' := (if_pos hb).symm.trans z
        cases z'
        subst hb
        exact ⟨ha, by rw [List.length_map]; exact hl, vs, _, rv, ha⟩
      · have z' := (if_neg hb).symm.trans z
        cases z'
    · by_cases hb : b = a
      · exact hb
      · exact absurd (if_neg hb) z
end L2
namespace L2
open PySem PySem.Spec PyProof.Rows
abbrev KOf {K : PySem.W.Frag} {h : Heap} (_ : K.In h) : PySem.W.Frag := K
theorem walk_of {l : PySem.W.OpenLaw} {n k : Nat} {q : Program} {loose : List Str} {XP : (Str → Option Value) → Heap → Prop} {YP : World → Heap → Prop} {d : DefRec} {K : Params → PySem.W.Frag} {CX : World → CXT} {sp : World → Sp} {x : Str}
    (hn : l.most = some n) (hn2 : n ≤ sizeLine) (hdf : d.params.defaults = []) (hr : Room k callerA)
    (hY : ∀ (w : World) (h : Heap), YP w h → (K w.params).In h)
    (F : ∀ (w : World) (mg : Str → Option Value) (fa : Addr) (h : Heap), (K w.params).In h → h.Ns mainGlobals mg → mg d.name = some (.ref fa) →
      ∃ fd : FuncData, (∀ (s : Shared) (u : Value), BindsTo s fd ⟨[u], []⟩ [(x, u)]) ∧
        ∀ base : Heap, (K w.params).In base → base.Ns mainGlobals mg → FnOk l.prog w (K w.params) mg base (CX w) k fa fd [x] (sp w))
    (hsp : ∀ (w : World) (H : Hp) (a : Addr) (ns : List Int), ns.length ≤ n → Only H → SqL (K w.params) H a (ns.map V.int) → sp w [.ref a] H (fun v _ => v = .bl true) fun _ _ _ => False)
    (hCX : ∀ (w : World) (H : Hp) (s : Shared) (e : Value) (s' : Shared), CX w [] H s (fun _ _ _ => False) e s' → False) :
    PySem.W.WalkO q loose XP YP l.row.toRowW d [] (fun f vs => PySem.call f vs) := by
  refine Att.attach_call hn hdf fun w s₀ s₁ mg mb fa o pm cd doc a vs ns G Y ho hd hcd hmg hobj hints hlen hg => ?_
  have KX := hY w _ Y
  obtain ⟨fd, hb, hF⟩ := F w mg fa _ KX G.T.g hmg
  exact law_call KX G.T.g G.T.b G.T.builtins G.T.nolimit hg hobj hints (Nat.le_trans hlen hn2) hr hF hb (fun H hO hS => hsp w H a ns hlen hO hS) fun H e s' => hCX w H s₁ e s'
end L2
namespace L2
open PySem PySem.Spec PyProof.Rows
def defArgs (s : Stmt) : Arguments := match s with
  | .FunctionDef _ a _ _ _ _ _ _ _ _ => a
  | _ => { posonlyargs := [], args := [], vararg := none, kwonlyargs := [], kw_defaults := [], kwarg := none, defaults := [] }
def defBody (s : Stmt) : List Stmt := match s with
  | .FunctionDef _ _ b _ _ _ _ _ _ _ => b
  | _ => []
def defScope (s : Stmt) : Scope := match s with
  | .FunctionDef _ _ _ _ _ _ sc _ _ _ => sc
  | _ => { kind := .function, names := [], isGenerator := false, isCoroutine := false }
abbrev CX0 : CXT := fun _ _ _ _ _ _ => False
abbrev E0 : XK := fun _ _ _ => False
structure Fun (K : PySem.W.Frag) (x qual : Str) (st : Stmt) (f : Addr) (fd : FuncData) : Prop where
  ex : ∃ (oc : Value) (od : Option Addr) (kV doc pm : Value) (an : Option Addr) (cdv ct : Value) (osl : Array (Option Value)),
    fd = PySem.W.fnOf x qual (defArgs st) (defBody st) (defScope st) .none kV doc pm an cdv ct ∧ K.lookup f = some ⟨oc, od, .func fd, osl⟩ ∧ PySem.W.codeIn K cdv qual = true
  kp : PySem.W.keepIn K (.ref f) = true
section
variable {P : Program} {w : World} {K : PySem.W.Frag} {mg : Str → Option Value} {base : Heap}
theorem Fun.ok {x qual : Str} {st : Stmt} {f : Addr} {fd : FuncData} {N ps : List Str} {k : Nat} {sp : Sp} (F : Fun K x qual st f fd) (S : FnScope N ps (defScope st)) (len : ∀ vs H Q E, sp vs H Q E → vs.length = ps.length)
    (hbody : ∀ (cdv : Value) (A : Around) (outer : List Env) (s : Shared) (H : Hp) (vs : List V) (Q : VK) (E : XK), Room k (A.deeper (envOfC qual (defScope st) s.heap.objs.size f cdv)) → sp vs H Q E →
      ∃ t, PSs (cxOf CX0 P w K mg base N qual (defScope st) f cdv A outer s H E).nox (defBody st) t ∧ t { nx := fun _ H' => Q .non H', rt := Q } (start N vs) H) : FnOk P w K mg base CX0 (k + 1) f fd ps sp := by
  obtain ⟨oc, od, kV, doc, pm, an, cdv, ct, osl, rfl, lk, hcd⟩ := F.ex
  refine fn_of lk hcd S len fun A outer s H vs Q E hr hsp => ?_
  obtain ⟨t, h, q⟩ := hbody cdv A outer s H vs Q E hr hsp
  exact ⟨t, h.nox, q⟩
theorem Fun.binds {x qual : Str} {st : Stmt} {f : Addr} {fd : FuncData} {ps : List Str} (F : Fun K x qual st f fd)
    (h : ∀ (kV doc pm : Value) (an : Option Addr) (cdv ct : Value) (us : List Value), us.length = ps.length → bindArgs (PySem.W.fnOf x qual (defArgs st) (defBody st) (defScope st) .none kV doc pm an cdv ct) ⟨us, []⟩ = pure (ps.zip us)) : Binds K fd ps [] := by
  obtain ⟨oc, od, kV, doc, pm, an, cdv, ct, osl, rfl, lk, hcd⟩ := F.ex
  exact .all (h kV doc pm an cdv ct)
theorem fun_mk {x qual : Str} {st : Stmt} {f : Addr} {oc : Value} {od an : Option Addr} {osl : Array (Option Value)} {kV doc pm cdv ct : Value} (l : K.lookup f = some ⟨oc, od, .func (PySem.W.fnOf x qual (defArgs st) (defBody st) (defScope st) .none kV doc pm an cdv ct), osl⟩)
    (c : PySem.W.codeIn K cdv qual = true) (k : PySem.W.keepIn K (.ref f) = true) : Fun K x qual st f (PySem.W.fnOf x qual (defArgs st) (defBody st) (defScope st) .none kV doc pm an cdv ct) := ⟨⟨oc, od, kV, doc, pm, an, cdv, ct, osl, rfl, l, c⟩, k⟩
end
theorem hu_of {A : Around} {k : Nat} (hr : Room k A) : A.units + 1 < cLine := Nat.lt_of_le_of_lt (Nat.add_le_add_left (by decide : 1 ≤ 64) _) hr.units
section
variable {X : Cx}
theorem pv (i : Nat) {x : Str} {pos : Pos} (hN : X.N[i]? = some x := by rfl) (hv : Vis X.env.scope x := by first | exact Or.inl rfl | exact Or.inr (Or.inl rfl) | exact Or.inr (Or.inr rfl)) (hd : (x == ("__debug__" : Str)) = false := by decide)
    (hcd : (x == ("__classdict__" : Str)) = false := by decide) : PE X (.Name x pos) (tVar i) := pe_var hN hv hd hcd
end
theorem iteF {A B : Prop} (h : B) : if false = true then A else B := by
  rw [if_neg Bool.false_ne_true]
  exact h
theorem iteT {A B : Prop} (h : A) : if true = true then A else B := by
  rw [if_pos rfl]
  exact h
theorem ite2 {c A B : Prop} [Decidable c] (h1 : c → A) (h2 : ¬ c → B) : if c then A else B := by
  by_cases h : c
  · rw [if_pos h]
    exact h1 h
  · rw [if_neg h]
    exact h2 h
def Same (H H' : Hp) : Prop := ∀ b o, H b = some o → H' b = some o
theorem Same.refl (H : Hp) : Same H H := fun _ _ h => h
theorem Same.trans {H H1 H2 : Hp} (a : Same H H1) (b : Same H1 H2) : Same H H2 := fun c o h => b c o (a c o h)
theorem Same.free {H H' : Hp} (e : Same H H') {l : Addr} (h : H' l = Option.none) : H l = Option.none := by
  cases q : H l with
  | none => rfl
  | some o =>
    rw [e l o q] at h
    cases h
theorem Same.seq {K : PySem.W.Frag} {H H' : Hp} {a : Addr} {xs : List V} (e : Same H H') (h : SqL K H a xs) : SqL K H' a xs := by
  rcases h with (h | ⟨o, h⟩) | h
  · exact .inl (.inl (e _ _ h))
  · exact .inl (.inr ⟨o, e _ _ h⟩)
  · exact .inr h
end L2
namespace XT
open PySem PySem.W PyProof.Rows PySem.Calls
section
variable {prog : Program} {w : World} {A : Around} {E : Value → Shared → Prop} {h : Heap} {g : Array GenState} {d : Drawn} {t : Nat} {os : OsState} {a : Addr} {o : Obj} {K : Frag} {C : Addr}
theorem lookup_K {M : Model} {n : Str} {y : Option Value} {Q : Option Value → Shared → Prop} (X : K.In h) (e : findIn K (.ref C) n = some y) (hq : Q y ⟨h, g, d, t, os⟩) : wpAny M A (typeLookup (.ref C) n) Q E ⟨h, g, d, t, os⟩ :=
  (looks_findIn (M := M) X e).here hq
theorem sub_K {M : Model} {b : Value} {y : Bool} {Q : Bool → Shared → Prop} (X : K.In h) (e : mroIn K C b = some y) (hq : Q y ⟨h, g, d, t, os⟩) : wpAny M A (isSubtype (.ref C) b) Q E ⟨h, g, d, t, os⟩ :=
  (looks_mroIn (M := M) X e).here hq
structure ExcK (K : Frag) (C : Addr) : Prop where
  ga : findIn K (.ref C) "__getattribute__" = some (some (.builtin "BaseException.__getattribute__"))
  gt : findIn K (.ref C) "__getattr__" = some none
  cl : findIn K (.ref C) "__class__" = some (some (.builtin "object.__class__"))
  ob : mroIn K C (.type "object") = some true
  be : mroIn K C (.type "BaseException") = some true
  cs : (clsIn K C).isSome = true
theorem cls_get (X : K.In h) (Z : ExcK K C) (hx : h.get? a = some o) (hc : o.cls = .ref C) {R : Result → Shared → Prop} (hq : R (.ok (.ret (.ref C))) ⟨h, g, d, t, os⟩) :
    codeAny (model prog w) A (.call (.builtin "getset_descriptor.__get__") ⟨[.builtin "object.__class__", .ref a, .ref C], []⟩) R ⟨h, g, d, t, os⟩ := by
  have hT5 : (⟨h, g, d, t, os⟩ : Shared).TypeIs (.builtin "object.__class__") "getset_descriptor" := F.typeOf_object_class
  refine codeAny_call_builtin F.slot_gs_get.plain F.entry_gs_get (F.slot_gs_get.check _ _ _ _ _ _ _ _ hT5 (F.args_gs_get _ _ _) ?_)
  have hob : mroIn K C (.type (".".intercalate ("object.__class__".cutAt '.').dropLast)) = some true := by rw [F.owner_object_class]; exact Z.ob
  repeat (any_goals (first | assumption | (with_reducible refine wpAny_loadPart_at hx ?_; rw [hc]) | with_reducible refine sub_K X hob ?_ | wp_step))
  refine ⟨Code.quiet_builtin _ (by decide +kernel), codeAny_builtin F.entry_object_class ?_⟩
  unfold Builtin.«object.__class__» shownTypeOf
  repeat (any_goals (first | assumption | (with_reducible refine wpAny_loadPart_at hx ?_; rw [hc]) | wp_step))
theorem cls_entry {tk : Tok} {Q : Fin → Shared → Prop} (X : K.In h) (Z : ExcK K C) (hx : h.get? a = some o) (hc : o.cls = .ref C) (hq : Q (.done (.ret (.ref C))) ⟨h, g, d, t, os⟩) :
    wpAny (model prog w) A (Builtin.«object.__getattribute__» ⟨[.ref a, .str "__class__" tk], []⟩) Q E ⟨h, g, d, t, os⟩ := by
  have hT5 : (⟨h, g, d, t, os⟩ : Shared).TypeIs (.builtin "object.__class__") "getset_descriptor" := F.typeOf_object_class
  have f5 := F.typeOf_object_class
  have f6 := F.slot_gs_get.lookup
  have f7 := F.slot_gs_set.lookup
  repeat (any_goals (first | assumption | (with_reducible refine wpAny_loadPart_at hx ?_; rw [hc]) | with_reducible refine lookup_K X Z.cl ?_ | wp_step))
  refine cls_get X Z hx hc ?_
  repeat (any_goals (first | assumption | wp_step))
theorem cls_check {M : Model} {nameV : Value} {Q : Unit → Shared → Prop} (X : K.In h) (Z : ExcK K C) (hx : h.get? a = some o) (hc : o.cls = .ref C) (hq : Q () ⟨h, g, d, t, os⟩) :
    wpAny M A (checkBuiltinCall "BaseException.__getattribute__" ⟨[.ref a, nameV], []⟩) Q E ⟨h, g, d, t, os⟩ := by
  have hk : builtinKind "BaseException.__getattribute__" = some .slot := by decide +kernel
  have hsplit : splitId "BaseException.__getattribute__" = some ("BaseException", "__getattribute__") := by decide +kernel
  have ha := F.args_bexc_ga (.ref a) nameV
  have hbe := Z.be
  simp only [checkBuiltinCall, hk, hsplit]
  refine wpAny_bind ?_
  · unfold isInstance
    repeat (first | (with_reducible refine wpAny_loadPart_at hx ?_; rw [hc]) | with_reducible refine sub_K X hbe ?_ | wp_step)
    exact hq
theorem cls_call {tk : Tok} {R : Result → Shared → Prop} (X : K.In h) (Z : ExcK K C) (hx : h.get? a = some o) (hc : o.cls = .ref C) (hq : R (.ok (.ret (.ref C))) ⟨h, g, d, t, os⟩) :
    codeAny (model prog w) A (.call (.builtin "BaseException.__getattribute__") ⟨[.ref a, .str "__class__" tk], []⟩) R ⟨h, g, d, t, os⟩ :=
  codeAny_call_builtin PySem.F.attr_ValueError.ga.plain F.entry_bexc_ga (cls_check X Z hx hc (cls_entry X Z hx hc hq))
theorem cls_by {tk : Tok} {fill expr : Bool} {Q : Value → Shared → Prop} (X : K.In h) (Z : ExcK K C) (hx : h.get? a = some o) (hc : o.cls = .ref C) (hq : Q (.ref C) ⟨h, g, d, t, os⟩) :
    wpAny (model prog w) A (getAttrBy (.ref a) (.str "__class__" tk) fill expr) Q E ⟨h, g, d, t, os⟩ := by
  have f3 := PySem.F.attr_ValueError.ga.bind (.ref a)
  have hx0 : (expr && onTheHeap (Value.builtin "BaseException.__getattribute__")) = false := by cases expr <;> rfl
  have hx2 : (Value.builtin "BaseException.__getattribute__" == Value.builtin "object.__getattribute__") = false := by decide +kernel
  have hx1 : (onTheHeap (Value.ref C) && Value.builtin "BaseException.__getattribute__" == Value.builtin "object.__getattribute__") = false := by rw [hx2]; rfl
  repeat (any_goals (first | assumption | (with_reducible refine wpAny_loadPart_at hx ?_; rw [hc]) | with_reducible refine lookup_K X Z.ga ?_ | with_reducible refine lookup_K X Z.gt ?_ | wp_step))
  refine cls_call X Z hx hc ?_
  repeat (any_goals (first | assumption | wp_step))
theorem cls_attr {Q : Option Value → Shared → Prop} (X : K.In h) (Z : ExcK K C) (hx : h.get? a = some o) (hc : o.cls = .ref C) (hq : Q (some (.ref C)) ⟨h, g, d, t + 1, os⟩) : wpAny (model prog w) A (getAttr? (.ref a) "__class__") Q E ⟨h, g, d, t, os⟩ := by
  unfold getAttr? getAttrBy?
  repeat (any_goals (first | assumption | with_reducible apply cls_by X Z hx hc | wp_step))
end
def ExcAt (a C : Addr) (h : Heap) : Prop := ∃ o, h.get? a = some o ∧ o.cls = .ref C
theorem kitx_exc {K : Frag} {a C : Addr} (Z : ExcK K C) : KitX K (.ref a) (.ref C) (ExcAt a C) where
  ty := fun _ _ _ ⟨o, h1, h2⟩ => h2 ▸ (Looks.ld h1).andThen .now
  it := fun _ _ X _ => by
    have z0 := Z.cs
    unfold clsIn at z0
    split at z0
    · rename_i c' d' cd' sl' ho
      intro A' Q' E' s' k q
      unfold isType loadHead
      exact wpAny_bind (wpAny_loadPart (k _ _ (X _ _ ho)) (wpAny_pure q))
    · cases z0
  ne := fun h tp dd its n sl X htp => by
    refine Bool.eq_false_iff.mpr fun q => ?_
    have e : C = tp := Value.ref.inj (beq_iff_eq.mp q)
    subst e
    have z0 := Z.cs
    unfold clsIn at z0
    split at z0
    · rename_i c' d' cd' sl' ho
      have z := (X _ _ ho).symm.trans htp
      cases z
    · cases z0
  ca := fun {_ _ _ _ _ s} X ⟨o, h1, h2⟩ k => by
    obtain ⟨hh, g, d, t, os⟩ := s
    exact cls_attr X Z h1 h2 k
end XT
set_option maxHeartbeats 4000000
namespace L2
open PySem PySem.Spec PyProof.Rows
theorem ObjOk.there {P : Program} {w : World} {H : Hp} {h : Heap} {a : Addr} {o : HO} (x : ObjOk P w H h a o) : ∃ u, h.get? a = some u := by
  cases o with
  | lst xs => obtain ⟨_, _, _, _, e⟩ := x; exact ⟨_, e⟩
  | tup xs => obtain ⟨_, _, _, p⟩ := x; obtain ⟨u, e, _⟩ := p; exact ⟨u, e⟩
  | dK kvs => obtain ⟨_, _, _, _, o, _, _, e, _⟩ := x; exact ⟨_, e⟩
  | dT kvs => obtain ⟨_, _, _, _, o, _, _, e, _⟩ := x; exact ⟨_, e⟩
  | set S n => obtain ⟨o, _, _, _, e, _⟩ := x; exact ⟨_, e⟩
  | ins C dx fs => obtain ⟨_, _, _, e, _⟩ := x; exact ⟨_, e⟩
  | own y => exact x
  | xd fs => obtain ⟨_, ⟨_, _, _, e, _⟩, _⟩ := x; exact ⟨_, e⟩
  | rng lo hi => obtain ⟨_, _, _, e⟩ := x; exact ⟨_, e⟩
  | frz ob u => obtain ⟨e, _⟩ := x; exact ⟨_, e⟩
  | tbl ps => exact ⟨_, (show h.get? a = some _ from x)⟩
  | met f y => exact ⟨_, (show h.get? a = some _ from x)⟩
  | ext φ => obtain ⟨_, e, _⟩ := x; exact e
theorem HOk.trkd {P : Program} {w : World} {H : Hp} {h h' : Heap} (x : HOk P w H h) (k : ∀ b u o, H b = some o → h.get? b = some u → h'.get? b = some u) : HOk P w H h' := fun a o e =>
  (x a o e).stay (fun b u hb q => by
    rcases hb with rfl | hb
    · exact k b u o e q
    · exact k b u _ hb q) (fun _ q => q) fun _ _ q => q
theorem HOk.gone {P : Program} {w : World} {H : Hp} {h : Heap} {a : Addr} (x : HOk P w H h) (e : h.get? a = none) : H a = none := by
  cases q : H a with
  | none => rfl
  | some u => obtain ⟨v, hv⟩ := (x a u q).there; rw [e] at hv; cases hv
structure Fly (P : Program) (w : World) (outer : List Env) (H : Hp) (s : Shared) (a : Addr) (C : Value) (H' : Hp) (s' : Shared) : Prop where
  os : s'.os = s.os
  bare : AllBare s'.gens
  un : Un (frs outer) [] H H' s.heap s'.heap
  hok : HOk P w H' s'.heap
  new : s.heap.get? a = none
  ex : ∃ B a0, Heap.FlyingW B outer a C a0 s'.heap ∧ (∀ b o, s.heap.get? b = some o → H b = none → b ∉ frs outer → B.get? b = some o) ∧ (∀ b o, H' b = some o → ∃ u, B.get? b = some u) ∧
    (∀ b o, s.heap.get? b = some o → b ∉ frs outer → ∃ u, B.get? b = some u)
def CX1 (P : Program) (w : World) : CXT := fun outer H s E e s' => ∃ a C H', e = .ref a ∧ Fly P w outer H s a C H' s' ∧ E C none H'
theorem cx1_none {P : Program} {w : World} {outer : List Env} {H : Hp} {s : Shared} {e : Value} {s' : Shared} (h : CX1 P w outer H s (fun _ _ _ => False) e s') : False := by
  obtain ⟨_, _, _, _, _, z⟩ := h; exact z
theorem pass1 {P : Program} {w : World} {X : Cx} : Passes (CX1 P w) X E0 := fun _ _ _ _ _ _ _ h => (cx1_none h).elim
theorem Fly.gone {P : Program} {w : World} {outer : List Env} {H H' : Hp} {s s' : Shared} {a : Addr} {C : Value} (x : Fly P w outer H s a C H' s') : H' a = none := by
  obtain ⟨B, a0, hf, k1, k2, _⟩ := x.ex
  cases q : H' a with
  | none => rfl
  | some u => obtain ⟨v, hv⟩ := k2 a u q; rw [hf.2.1] at hv; cases hv
section
variable {P : Program} {w : World} {K : PySem.W.Frag} {mg : Str → Option Value} {base : Heap} {N : List Str} {qual : Str} {scope : Scope} {f : Addr} {cd : Value} {A : Around} {outer : List Env} {s₀ : Shared} {H₀ : Hp} {E : XK}
theorem frs_own {b : Addr} : b ∈ frs (cxOf (CX1 P w) P w K mg base N qual scope f cd A outer s₀ H₀ E).stack ↔ b = s₀.heap.objs.size ∨ b ∈ frs outer := by
  show b ∈ List.filterMap _ (envOfC qual scope s₀.heap.objs.size f cd :: outer) ↔ _
  rw [List.filterMap_cons_some (show (envOfC qual scope s₀.heap.objs.size f cd).frame = some s₀.heap.objs.size from rfl), List.mem_cons]
  rfl
theorem passes1 : Passes (CX1 P w) (cxOf (CX1 P w) P w K mg base N qual scope f cd A outer s₀ H₀ E) E := by
  intro pins σ H s e s' I h
  obtain ⟨a, C, H', rfl, x, hE⟩ := h
  obtain ⟨B, a0, hf, k1, k2, k3⟩ := x.ex
  show wpAny _ _ (leaving _ _) _ _ _
  refine wpAny_leaves_onW I.ok.frames rfl hf fun h' hf' hs => ?_
  have ne0 : ∀ b o, s₀.heap.get? b = some o → b ∉ frs outer → b ∉ frs (cxOf (CX1 P w) P w K mg base N qual scope f cd A outer s₀ H₀ E).stack := fun b o e hb z => by
    rcases frs_own.mp z with z | z
    · exact absurd (Heap.lt_size e) (by rw [z]; exact Nat.lt_irrefl _)
    · exact hb z
  have nox : ∀ b : Addr, b ∉ (cxOf (CX1 P w) P w K mg base N qual scope f cd A outer s₀ H₀ E).ex := fun b z => absurd (show b ∈ ([] : List Addr) from z) (by simp)
  have keepB : ∀ b o, s₀.heap.get? b = some o → H₀ b = none → b ∉ frs outer → B.get? b = some o := fun b o e n hb =>
    k1 b o (I.base.keep b o e n hb (nox b)) (I.base.free b o e n (nox b)) (ne0 b o e hb)
  have slotB : ∀ b o, s₀.heap.get? b = some o → H₀ b = none → b ∈ frs outer → ∃ sl, h'.get? b = some { o with slots := sl } := fun b o e n hb => by
    obtain ⟨sl, e1⟩ := I.base.slot b o e n hb (nox b)
    obtain ⟨sl2, e2⟩ := x.un.slot b _ e1 (I.base.free b o e n (nox b)) (frs_own.mpr (.inr hb)) (by simp)
    obtain ⟨_, o3, e3, d3⟩ := hf.2.2.1.mem (frs_own.mpr (.inr hb))
    rw [e2] at e3; cases e3
    obtain ⟨sl4, e4⟩ := hs b _ e2 d3
    exact ⟨sl4, e4⟩
  have thereB : ∀ b o, s₀.heap.get? b = some o → b ∉ frs outer → ∃ u, B.get? b = some u := fun b o e hb => by
    obtain ⟨o1, e1⟩ := I.base.there b o e (nox b)
    exact k3 b o1 e1 (ne0 b o e hb)
  refine ⟨a, C, H', rfl, ⟨x.os.trans I.os, x.bare, ⟨fun b o e n hb _ => hf'.1 b o (keepB b o e n hb), fun b o e n hb _ => slotB b o e n hb, fun b o e n _ => ?_, fun b o e _ => ?_, fun b xs e => x.un.tups b xs (I.base.tups b xs e),
    fun b o u e => x.un.frzs b o u (I.base.frzs b o u e), fun b ps e => ?_⟩, x.hok.trkd fun b u o e q => ?_, ?_, B, a0, hf', keepB, k2, thereB⟩, hE⟩
  · obtain ⟨o1, e1⟩ := I.base.there b o e (nox b)
    exact x.un.free b o1 e1 (I.base.free b o e n (nox b)) (by simp)
  · by_cases hb : b ∈ frs outer
    · obtain ⟨sl, e1⟩ := slotB b o e (I.ok.frf b hb) hb
      exact ⟨_, e1⟩
    · obtain ⟨u, e1⟩ := thereB b o e hb
      exact ⟨u, hf'.1 b u e1⟩
  · obtain ⟨m1, e1⟩ := I.base.tbls b ps e
    obtain ⟨m2, e2⟩ := x.un.tbls b _ e1
    exact ⟨m1 ++ m2, by rw [e2, Array.append_assoc]⟩
  · obtain ⟨u', e'⟩ := k2 b o e
    have := hf.1 b u' e'
    rw [q] at this; cases this
    exact hf'.1 b u e'
  · cases q : s₀.heap.get? a with
    | none => rfl
    | some o =>
      obtain ⟨o1, e1⟩ := I.base.there a o q (nox a)
      rw [x.new] at e1; cases e1
def Raises (X : Cx) (E : XK) : Prop := ∀ (pins : List (Addr × Obj)) (σ : St) (H : Hp) (s : Shared) (e : Addr) (C : Value) (args : List Value) (h' : Heap), Inv X pins σ H s → Heap.MadeExcOf s.heap h' e C args → E C none H → X.xe (.ref e) { s with heap := h' }
theorem raises1 : Raises (cxOf (CX1 P w) P w K mg base N qual scope f cd A outer s₀ H₀ E) E := by
  intro pins σ H s e C args h1 I hm hE
  have F := I.stack
  have hin : ∀ env ∈ (cxOf (CX1 P w) P w K mg base N qual scope f cd A outer s₀ H₀ E).stack, ∀ b, env.frame = some b → b ∈ frs (cxOf (CX1 P w) P w K mg base N qual scope f cd A outer s₀ H₀ E).stack := fun env he b hb => List.mem_filterMap.mpr ⟨env, he, hb⟩
  show wpAny _ _ (leaving _ _) _ _ _
  refine wpAny_leaves_madeW (base := PySem.W.hideAll s.heap (frs (cxOf (CX1 P w) P w K mg base N qual scope f cd A outer s₀ H₀ E).stack)) (h := s.heap) I.ok.frames rfl (fun b o q => PySem.W.of_hideAll _ q) (PySem.W.funFrames_hide F hin) hm fun h' t hf' _ _ hs => ?_
  have ne0 : ∀ b o, s₀.heap.get? b = some o → b ∉ frs outer → b ∉ frs (cxOf (CX1 P w) P w K mg base N qual scope f cd A outer s₀ H₀ E).stack := fun b o e hb z => by
    rcases frs_own.mp z with z | z
    · exact absurd (Heap.lt_size e) (by rw [z]; exact Nat.lt_irrefl _)
    · exact hb z
  have nox : ∀ b : Addr, b ∉ (cxOf (CX1 P w) P w K mg base N qual scope f cd A outer s₀ H₀ E).ex := fun b z => absurd (show b ∈ ([] : List Addr) from z) (by simp)
  have keepB : ∀ b o, s₀.heap.get? b = some o → H₀ b = none → b ∉ frs outer → (PySem.W.hideAll s.heap (frs (cxOf (CX1 P w) P w K mg base N qual scope f cd A outer s₀ H₀ E).stack)).get? b = some o := fun b o e n hb =>
    PySem.W.hideAll_get _ (I.base.keep b o e n hb (nox b)) (ne0 b o e hb)
  have slotB : ∀ b o, s₀.heap.get? b = some o → H₀ b = none → b ∈ frs outer → ∃ sl, h'.get? b = some { o with slots := sl } := fun b o e n hb => by
    obtain ⟨sl, e1⟩ := I.base.slot b o e n hb (nox b)
    obtain ⟨_, o3, e3, d3⟩ := F.mem (frs_own.mpr (.inr hb))
    rw [e1] at e3; cases e3
    obtain ⟨sl4, e4⟩ := hs b _ (hm.keeps b _ e1) d3
    exact ⟨sl4, e4⟩
  have thereB : ∀ b o, s₀.heap.get? b = some o → b ∉ frs outer → ∃ u, (PySem.W.hideAll s.heap (frs (cxOf (CX1 P w) P w K mg base N qual scope f cd A outer s₀ H₀ E).stack)).get? b = some u := fun b o e hb => by
    obtain ⟨o1, e1⟩ := I.base.there b o e (nox b)
    exact ⟨o1, PySem.W.hideAll_get _ e1 (ne0 b o e hb)⟩
  have trk : ∀ b o u, H b = some o → s.heap.get? b = some u → (PySem.W.hideAll s.heap (frs (cxOf (CX1 P w) P w K mg base N qual scope f cd A outer s₀ H₀ E).stack)).get? b = some u := fun b o u e q =>
    PySem.W.hideAll_get _ q fun z => by rw [I.stkFree b z] at e; cases e
  refine ⟨e, C, H, rfl, ⟨I.os, I.bare, ⟨fun b o e n hb _ => hf'.1 b o (keepB b o e n hb), fun b o e n hb _ => slotB b o e n hb, fun b o e n _ => I.base.free b o e n (nox b), fun b o e _ => ?_, I.base.tups, I.base.frzs, I.base.tbls⟩,
    I.hok.trkd fun b u o e q => hf'.1 b u (trk b o u e q), ?_, _, _, hf', keepB, fun b o q => ?_, thereB⟩, hE⟩
  · by_cases hb : b ∈ frs outer
    · obtain ⟨sl, e1⟩ := slotB b o e (I.ok.frf b hb) hb
      exact ⟨_, e1⟩
    · obtain ⟨u, e1⟩ := thereB b o e hb
      exact ⟨u, hf'.1 b u e1⟩
  · cases q : s₀.heap.get? e with
    | none => rfl
    | some o =>
      obtain ⟨o1, e1⟩ := I.base.there e o q (nox e)
      rw [hm.new] at e1; cases e1
  · obtain ⟨u, hu⟩ := (I.hok b o q).there
    exact ⟨u, trk b o u q hu⟩
end
def tRaise (C : Addr) (E : XK) (t : TA) : TS := fun _ σ H => t σ H fun vs H1 => vs.length ≤ sizeLine ∧ E (.ref C) none H1
theorem exc_obj {K : PySem.W.Frag} {h : Heap} {C : Addr} {bmB : List Value} {newId : String} (X : K.In h) (q : PySem.W.excIn K C bmB newId = true) :
    ∃ bm N nm qn bs hdct sn sub ab col dd k0 k1 k2 k3 k5 mN, h.get? C = some (excClassObj nm qn C N bs bm hdct sn sub ab col dd k0 k1 k2 k3 k5 newId) ∧ h.Ns N mN ∧ mN "__init__" = none ∧ OwnTail h bmB bm := by
  unfold PySem.W.excIn at q
  split at q
  · rename_i dd cd sl ho
    split at q
    · rename_i C' bm k0 k1 k2 k3 n k5 hm hs
      simp only [Bool.and_eq_true, beq_iff_eq, Bool.not_eq_true'] at q
      obtain ⟨⟨⟨⟨⟨rfl, rfl⟩, hdel⟩, ht⟩, hok⟩, hni⟩ := q
      obtain ⟨nm, bs, mro, ns, qn, hd, sn, sub, ab, col, del⟩ := cd
      dsimp only at hm hdel hok hni
      subst hm hdel
      have hsl : sl = #[k0, k1, k2, k3, some (.builtin n), k5] := by
        obtain ⟨l⟩ := sl
        simp only at hs
        rw [hs]
      subst hsl
      exact ⟨bm, ns, nm, qn, bs, hd, sn, sub, ab, col, dd, k0, k1, k2, k3, k5, _, X _ _ ho, .of_isNs (PySem.W.isNs_of_in X hok), PySem.W.nsMap_none_of_in X hok hni, PySem.W.tail_of_in X ht⟩
    · cases q
  · cases q
section
variable {X : Cx} {C : Addr} {x : Str} {e : Expr} {es : List Expr} {t : TA} {np cpos pos : Pos} {E : XK} {bmB : List Value} {B newId initId : String}
theorem ps_raise (hr : Raises X E) (hA : X.calm = true) (hg : Gl X x) (hm : X.mg x = some (.ref C)) (hq : PySem.W.excIn X.K C bmB newId = true) (FB : ExcBaseFacts B newId initId bmB) (ha : PA X (e :: es) t)
    (hdb : (x == ("__debug__" : Str)) = false := by decide) (he : starEach (e :: es) X.env = (false, eval e X.env) :: starEach es X.env := by rfl) (hpl : (backTo cpos (starEach es X.env)).any (·.1) = false := by rfl) :
    PS X (.Raise (some (.Call (.Name x np) (e :: es) [] cpos)) none pos) (tRaise C E t) := by
  intro pins s σ H D I h
  obtain ⟨bm, N, nm, qn, bs, hdct, sn, sub, ab, col, dd, k0, k1, k2, k3, k5, mN, hC, hN, hni, T⟩ := exc_obj I.ok.mod.kin hq
  refine wpAny_Raise_call_subT (C := C) (nm := nm) (q := qn) (N := N) (bs := bs) (bm := bm) (hdct := hdct) (sn := sn) (sub := sub) (ab := ab) (col := col) (dd := dd) (k0 := k0) (k1 := k1) (k2 := k2) (k3 := k3) (k5 := k5)
    FB (mN := mN) (T.hasType FB.hasBase) (I.ok.hd hA) (by rw [he]; show (false || (backTo cpos (starEach es X.env)).any (·.1)) = false; rw [hpl]; rfl) hni (ld_glob I hg hm ⟨rfl, ?_⟩ hdb)
  have ha' := ha cpos pins s σ H _ I h
  rw [he] at ha' ⊢
  refine Calls.evalArgs_plain (thn ha' fun us s1 ⟨vs, H1, I1, r, z, hE⟩ => ⟨rfl, by rw [← r.length]; exact z, I1.bk _ _ hC, hN.keeps I1.bk, T.keeps I1.bk, fun h' e' hm' => ?_⟩)
  exact hr pins σ H1 s1 e' (.ref C) us h' I1 hm' hE
end
def Cx.tryX (X : Cx) (pins : List (Addr × Obj)) (xe : Value → Shared → Prop) : Cx := { X with pn := X.pn ++ pins, xe := xe }
def Cx.handX (X : Cx) (pins : List (Addr × Obj)) (e : Value) : Cx := { X with A := X.A.mark (some e), calm := false, pn := X.pn ++ pins, xe := fun _ _ => False }
theorem Cx.Ok.tryX {X : Cx} (ok : X.Ok) (pins : List (Addr × Obj)) (xe : Value → Shared → Prop) : (X.tryX pins xe).Ok :=
  ⟨ok.mod, ok.kind, ok.glob, ok.blt, ok.above, ok.inj, ok.has, ok.cab, ok.hd, ok.frames, ok.stk, ok.exf, ok.bs, ok.bsz, ok.noex, ok.exfs, ok.funs, ok.frf⟩
theorem Cx.Ok.handX {X : Cx} (ok : X.Ok) (pins : List (Addr × Obj)) (e : Value) : (X.handX pins e).Ok :=
  ⟨ok.mod, ok.kind, ok.glob, ok.blt, ok.above, ok.inj, ok.has, ok.cab, fun z => Bool.noConfusion (show false = true from z), ok.frames, ok.stk, ok.exf, ok.bs, ok.bsz, ok.noex, ok.exfs, ok.funs, ok.frf⟩
section
variable {X : Cx} {pins pins' : List (Addr × Obj)} {σ : St} {H H' : Hp} {s : Shared} {xe : Value → Shared → Prop} {ev : Value}
theorem Inv.tryX (I : Inv X pins σ H s) (xe : Value → Shared → Prop) : Inv (X.tryX pins xe) [] σ H s :=
  ⟨I.ok.tryX pins xe, I.os, I.bare, I.base, I.loc, I.cell, I.free, I.freeC, fun p hp => I.pin p (by rw [List.append_nil] at hp; exact hp), I.hok, I.len⟩
theorem Inv.untry (ok : X.Ok) (I : Inv (X.tryX pins xe) pins' σ H s) : Inv X pins σ H s :=
  ⟨ok, I.os, I.bare, I.base, I.loc, I.cell, I.free, I.freeC, fun p hp => I.pin p (List.mem_append_left _ hp), I.hok, I.len⟩
theorem Inv.handX (I : Inv X pins σ H s) (ev : Value) : Inv (X.handX pins ev) [] σ H s :=
  ⟨I.ok.handX pins ev, I.os, I.bare, I.base, I.loc, I.cell, I.free, I.freeC, fun p hp => I.pin p (by rw [List.append_nil] at hp; exact hp), I.hok, I.len⟩
theorem Inv.unhand (ok : X.Ok) (I : Inv (X.handX pins ev) pins' σ H s) : Inv X pins σ H s :=
  ⟨ok, I.os, I.bare, I.base, I.loc, I.cell, I.free, I.freeC, fun p hp => I.pin p (List.mem_append_left _ hp), I.hok, I.len⟩
theorem SP.untry {D : Ends} {f : Flow} {s' : Shared} (ok : X.Ok) (h : SP (X.tryX pins xe) pins' D f s') : SP X pins D f s' := by
  cases f with
  | next => obtain ⟨σ', H', I, q⟩ := h; exact ⟨σ', H', I.untry ok, q⟩
  | brk => obtain ⟨σ', H', I, q⟩ := h; exact ⟨σ', H', I.untry ok, q⟩
  | cont => obtain ⟨σ', H', I, q⟩ := h; exact ⟨σ', H', I.untry ok, q⟩
  | ret u => obtain ⟨v, σ', H', I, r, q⟩ := h; exact ⟨v, σ', H', I.untry ok, r, q⟩
theorem Inv.adopt {a : Addr} {o : HO} (J : Inv X pins σ H s) (na : H a = none) (h0 : X.s₀.heap.get? a = none) (hl : X.env.locals ≠ a) (hc : ∀ x c, X.env.cells.lookup x = some c → c ≠ a) (hp : ∀ p ∈ X.pn ++ pins, p.1 ≠ a)
    (new : ObjOk X.prog X.w (upd H a o) s.heap a o) : Inv X pins σ (upd H a o) s := by
  have ne : ∀ b u, H b = some u → b ≠ a := fun b u e z => by rw [z, na] at e; cases e
  refine ⟨J.ok, J.os, J.bare, ⟨J.base.keep, J.base.slot, fun b ob e n hx => ?_, J.base.there, fun b xs e => ?_, fun b ob u e => ?_, fun b ps e => ?_⟩, J.loc, J.cell, ?_, fun x c e => ?_, fun p hq => ?_, fun b u e => ?_, J.len⟩
  · have z : b ≠ a := fun z => by rw [z, h0] at e; cases e
    rw [upd_ne z]; exact J.base.free b ob e n hx
  · have q := J.base.tups b xs e
    rw [upd_ne (ne b _ q)]; exact q
  · have q := J.base.frzs b ob u e
    rw [upd_ne (ne b _ q)]; exact q
  · obtain ⟨m, q⟩ := J.base.tbls b ps e
    exact ⟨m, by rw [upd_ne (ne b _ q)]; exact q⟩
  · rw [upd_ne hl]; exact J.free
  · rw [upd_ne (hc x c e)]; exact J.freeC x c e
  · obtain ⟨e1, e2, e3⟩ := J.pin p hq
    exact ⟨e1, by rw [upd_ne (hp p hq)]; exact e2, e3⟩
  · by_cases z : b = a
    · subst z; rw [upd_same] at e; cases e; exact new
    · rw [upd_ne z] at e
      exact (J.hok b u e).stay (fun c v _ q => q) (fun c q => by rw [upd_ne (ne c _ q)]; exact q) fun c xs q => by rw [upd_ne (ne c _ q)]; exact q
theorem name_gone {M : Model} {A : Around} {E : Value → Shared → Prop} {i : Nat} {n : Str} {pos : Pos} {Q : Unit → Shared → Prop} (I : Inv X pins σ H s) (hN : X.N.Nodup) (hi : X.N[i]? = some n) (hk : X.env.kindOf n = some .local)
    (h : ∀ s', Inv X pins (σ.set i none) H s' → Q () s') : wpAny M A (do bindName X.env n .none; unbindBehindTheSuite X.env n pos) Q E s := by
  obtain ⟨m, hn, hl⟩ := id I.loc
  have hcls : (X.env.scope.kind == .class || (X.env.scope.kind == .module && X.env.locals != X.env.globals)) = false := by rw [I.ok.kind]; rfl
  have hiσ : i < σ.length := by rw [I.len]; exact (List.getElem?_eq_some_iff.mp hi).1
  obtain ⟨oL, _, _, hoL, _⟩ := id hn
  refine wpAny_nameGoes_keeps hk hn hcls fun h' v hn' hs => ?_
  have low : ∀ b o, X.s₀.heap.get? b = some o → b ≠ X.env.locals := fun b o e => Nat.ne_of_lt (Nat.lt_of_lt_of_le (Heap.lt_size e) I.ok.above)
  refine h _ ⟨I.ok, I.os, I.bare, ⟨fun b o e n hb hx => (hs.2 b (low b o e)).trans (I.base.keep b o e n hb hx), fun b o e n hb hx => ?_, I.base.free, fun b o e hx => ?_, I.base.tups, I.base.frzs, I.base.tbls⟩, ⟨_, hn', fun j y v' e1 e2 e3 => ?_⟩, fun y c e => ?_, I.free, I.freeC, fun p hp => ?_,
    I.hok.trkd fun b u o e q => (hs.2 b fun z => by rw [z, I.free] at e; cases e).trans q, by simpa using I.len⟩
  · obtain ⟨sl, e1⟩ := I.base.slot b o e n hb hx
    exact ⟨sl, (hs.2 b (low b o e)).trans e1⟩
  · obtain ⟨o', e1⟩ := I.base.there b o e hx
    exact ⟨o', (hs.2 b (low b o e)).trans e1⟩
  · by_cases hj : j = i
    · subst hj
      rw [List.getElem?_set_self hiσ] at e2
      cases e2
    · rw [List.getElem?_set_ne (Ne.symm hj)] at e2
      obtain ⟨u', r', q⟩ := hl j y v' e1 e2 e3
      refine ⟨u', r', ?_⟩
      rcases q with ⟨k, e⟩ | ⟨k, c, e, z⟩
      · refine .inl ⟨k, ?_⟩
        have : y ≠ n := fun e => hj (nodup_ix hN e1 (e ▸ hi))
        simp [this, e]
      · exact .inr ⟨k, c, e, z.sameBut hs (I.cne y c e)⟩
  · obtain ⟨w', z⟩ := I.cell y c e
    exact ⟨w', z.sameBut hs (I.cne y c e)⟩
  · obtain ⟨e, n, ne, nf, d⟩ := I.pin p hp
    exact ⟨(hs.2 p.1 ne).trans e, n, ne, nf, d⟩
end
theorem Fly.move {P : Program} {w : World} {outer : List Env} {H H' : Hp} {s s' : Shared} {a : Addr} {C : Value} {B : Heap} {a0 : Value} {h' : Heap} (un : Un (frs outer) [] H H' s.heap s'.heap) (hok : HOk P w H' s'.heap)
    (hf : Heap.FlyingW B outer a C a0 s'.heap) (k1 : ∀ b o, s.heap.get? b = some o → H b = none → b ∉ frs outer → B.get? b = some o) (k2 : ∀ b o, H' b = some o → ∃ u, B.get? b = some u)
    (k3 : ∀ b o, s.heap.get? b = some o → b ∉ frs outer → ∃ u, B.get? b = some u) (hb : B.StaysIn h') (hs : s'.heap.UpToSlots h') : Un (frs outer) [] H H' s.heap h' ∧ HOk P w H' h' := by
  refine ⟨⟨fun b o e n hb' _ => hb b o (k1 b o e n hb'), fun b o e n hb' _ => ?_, un.free, fun b o e _ => ?_, un.tups, un.frzs, un.tbls⟩, hok.trkd fun b u o e q => ?_⟩
  · obtain ⟨sl, e1⟩ := un.slot b o e n hb' (by simp)
    obtain ⟨_, o3, e3, d3⟩ := hf.2.2.1.mem hb'
    rw [e1] at e3; cases e3
    obtain ⟨sl4, e4⟩ := hs b _ e1 d3
    exact ⟨sl4, e4⟩
  · by_cases hb' : b ∈ frs outer
    · obtain ⟨o1, e1⟩ := un.there b o e (by simp)
      obtain ⟨_, o3, e3, d3⟩ := hf.2.2.1.mem hb'
      rw [e1] at e3; cases e3
      obtain ⟨sl, e4⟩ := hs b _ e1 d3
      exact ⟨_, e4⟩
    · obtain ⟨u, e1⟩ := k3 b o e hb'
      exact ⟨u, hb b u e1⟩
  · obtain ⟨u', e'⟩ := k2 b o e
    have := hf.1 b u' e'
    rw [q] at this; cases this
    exact hb b u e'
abbrev XS := Value → St → Hp → Prop
def PassX (P : Program) (w : World) (X : Cx) (Φ : XS) : Prop := ∀ (pins : List (Addr × Obj)) (σ : St) (H : Hp) (s : Shared) (e : Value) (s' : Shared), Inv X pins σ H s → CX1 P w X.stack H s (fun c _ H' => Φ c σ H') e s' → X.xe e s'
def tCallX (sp : Sp) (dvs : List V) (Φ : XS) (t : TA) : TE := fun σ H Q => t σ H fun vs H1 => sp (vs ++ dvs) H1 Q fun c _ H' => Φ c σ H'
section
variable {X : Cx} {P : Program} {w : World} {k : Nat} {f : Addr} {fd : FuncData} {ps : List Str} {sp : Sp} {dvs : List V} {ds : List Value} {Φ : XS} {x : Str} {p pos : Pos} {e : Expr} {es : List Expr} {t : TA}
theorem pe_callX (F : FnOk X.prog X.w X.K X.mg X.base (CX1 P w) k f fd ps sp) (hr : Room k X.A) (hg : Gl X x) (hm : X.mg x = some (.ref f)) (hk : PySem.W.keepIn X.K (.ref f) = true) (hb : Binds X.K fd ps ds) (hd : Vals dvs ds) (hx : PassX P w X Φ)
    (ha : PA X (e :: es) t) (hdb : (x == ("__debug__" : Str)) = false := by decide) (he : starEach (e :: es) X.env = (false, eval e X.env) :: starEach es X.env := by rfl) (hpl : (backTo pos (starEach es X.env)).any (·.1) = false := by rfl) :
    PE X (.Call (.Name x p) (e :: es) [] pos) (tCallX sp dvs Φ t) := by
  intro pins s σ H Q I h
  refine wpAny_Call_Name_kw (ld_glob I hg hm ?_ hdb)
  refine PySem.W.callWith_K (h₀ := X.base) I.ok.mod.kin hk (thn (ha pos pins s σ H _ I h) fun us s1 ⟨vs, H1, I1, r, q⟩ => ⟨I1.kIn, ?_⟩) he hpl
  have r2 : Vals (vs ++ dvs) (us ++ ds) := r.append hd
  have hl : (us ++ ds).length = ps.length := by rw [← r2.length]; exact F.len _ _ _ _ q
  refine wpAny_call (codeAny_mono (F.run X.A X.stack s1 H1 ⟨us, []⟩ (us ++ ds) (vs ++ dvs) Q _ hr I1.env0 (hb s1 us I1.kIn hl) r2 q) fun r s' hq => ?_)
  cases r with
  | error e => exact hx pins σ H1 s1 e s' I1 hq
  | ok fl =>
    cases fl with
    | ret u => exact I1.after hq
    | next => exact False.elim hq
    | brk => exact False.elim hq
    | cont => exact False.elim hq
end
def excO (a C : Addr) : HO := .ext (XT.ExcAt a C)
def Ends.hand (D : Ends) (i : Nat) : Ends := { nx := fun σ H => D.nx (σ.set i none) H, rt := D.rt, bk := fun σ H => D.bk (σ.set i none) H, ct := fun σ H => D.ct (σ.set i none) H }
abbrev Pins := List (Addr × Obj)
section
variable {X : Cx} {C : Addr} {i : Nat} {n x : Str} {body : List Stmt} {b₀ : Stmt} {suite : List Stmt} {np hpos pos : Pos} {tb : Pins → (Value → Shared → Prop) → XS → TS} {th : Pins → Value → TS} {bmB : List Value} {newId : String}
end
end L2
set_option maxHeartbeats 4000000
namespace L2
open PySem PySem.Spec PyProof.Rows
section
variable {X : Cx}
theorem bits_of {x : Int} {m : Nat} (h : x.natAbs < 2 ^ m) : Builtin.Int.intBits x ≤ m := PySem.intBits_le_iff.mpr h
def CMulL (i j : Int) : Prop := i.natAbs < 2 ^ 100000 ∧ j.natAbs < 2 ^ 100000
theorem log2_lt_of {n m : Nat} (hm : 0 < m) (h : n < 2 ^ m) : n.log2 < m := by
  rcases Nat.eq_zero_or_pos n with h0 | hp
  · rw [h0]; exact hm
  · exact (Nat.log2_lt (Nat.ne_of_gt hp)).mpr h
def CDivL (_ j : Int) : Prop := j ≠ 0 ∧ j.natAbs < 2 ^ 8999
theorem op_fdivL : OpR X (binaryOp .FloorDiv) (rI CDivL fun i j => .int (i.fdiv j)) := opI fun _ _ _ _ _ _ _ hc q => floordiv_int hc.1 q (.inl (PyProof.noPylong_of_log2 (Nat.lt_trans (log2_lt_of (by decide) hc.2) (by decide))))
def rIsi (K : PySem.W.Frag) : List V → Hp → VK → Prop := fun xs H Q => ∃ x t T b, xs = [x, .ty T] ∧ TyOf K H x t ∧ PySem.W.kitOne K t (.type T) = some b ∧ Q (.bl b) H
theorem call_isi : CallR X (.builtin "isinstance") (rIsi X.K) := by
  intro pins s σ H vs us Q I r h
  obtain ⟨x, t, T, b, rfl, ty, e, q⟩ := h
  obtain ⟨u, c, rfl, rx, rc⟩ := vals2 r
  cases (show c = Value.type T from rc)
  exact isinst_ok I rx ty e fun tk => ⟨.bl b, H, I.tok tk, rfl, q⟩
theorem kit_same (K : PySem.W.Frag) (t : Value) : PySem.W.kitOne K t t = some true := by unfold PySem.W.kitOne; simp
def rIsiE (K : PySem.W.Frag) : List V → Hp → VK → Prop := fun xs H Q => ∃ a C c b, xs = [.ref a, c] ∧ H a = some (excO a C) ∧ XT.ExcK K C ∧
  ((∃ D, c = .ref D ∧ PySem.W.kitOne K (.ref C) (.ref D) = some b) ∨ (∃ T, c = .ty T ∧ PySem.W.kitOne K (.ref C) (.type T) = some b) ∨
    (∃ (p : Addr) (Ds : List Addr), c = .ref p ∧ H p = some (.tup (Ds.map V.ref)) ∧ PySem.W.kitAny K (.ref C) (Ds.map Value.ref) = some b)) ∧ Q (.bl b) H
theorem vals_refs : ∀ {Ds : List Addr} {us : List Value}, Vals (Ds.map V.ref) us → us = Ds.map Value.ref
  | [], _, .nil => rfl
  | _ :: _, _, .cons r t => by
    cases (show _ = Value.ref _ from r)
    rw [vals_refs t]; rfl
theorem call_isiE : CallR X (.builtin "isinstance") (rIsiE X.K) := by
  intro pins s σ H vs us Q I r h
  obtain ⟨a, C, c, b, rfl, ha, Z, h, q⟩ := h
  obtain ⟨u, cv, rfl, rx, rc⟩ := vals2 r
  cases (show u = Value.ref a from rx)
  have hx : XT.ExcAt a C s.heap := (I.hok a _ ha).1
  rcases h with ⟨D, rfl, e⟩ | ⟨T, rfl, e⟩ | ⟨p, Ds, rfl, hp, e⟩
  · cases (show cv = Value.ref D from rc)
    exact PySem.W.kia_one (XT.kitx_exc Z) I.kIn hx e (fun z => nomatch z) fun tk => ⟨.bl b, H, I.tok tk, rfl, q⟩
  · cases (show cv = Value.type T from rc)
    exact PySem.W.kia_one (XT.kitx_exc Z) I.kIn hx e (fun z => nomatch z) fun tk => ⟨.bl b, H, I.tok tk, rfl, q⟩
  · cases (show cv = Value.ref p from rc)
    obtain ⟨_, its, rv, ot, h1, h2, n, h3⟩ := I.hok p _ hp
    obtain ⟨c0, dd, dat, sl⟩ := ot
    cases (show c0 = _ from h2)
    cases (show dat = _ from h3)
    rw [vals_refs rv] at h1
    exact PySem.W.kia_tup (XT.kitx_exc Z) I.kIn hx h1 e (fun z => nomatch z) fun tk => ⟨.bl b, H, I.tok tk, rfl, q⟩
def eqVs : List V → List V → Bool
  | [], [] => true
  | x :: xs, y :: ys => eqV x y && eqVs xs ys
  | _, _ => false
theorem eqVs_len : ∀ {xs ys : List V}, xs.length ≠ ys.length → eqVs xs ys = false
  | [], [], h => absurd rfl h
  | [], _ :: _, _ => rfl
  | _ :: _, [], _ => rfl
  | x :: xs, y :: ys, h => by
    unfold eqVs
    rw [eqVs_len (fun z => h (by simp [z]))]; simp
theorem eqVs_all : ∀ {xs ys : List V}, xs.length = ys.length → (List.range xs.length).all (fun j => eqV (xs.getD j .non) (ys.getD j .non)) = eqVs xs ys
  | [], [], _ => rfl
  | [], _ :: _, h => by simp at h
  | _ :: _, [], h => by simp at h
  | x :: xs, y :: ys, h => by
    have ih := eqVs_all (xs := xs) (ys := ys) (by simpa using h)
    rw [List.length_cons, List.range_succ_eq_map, List.all_cons, List.all_map]
    unfold eqVs
    rw [← ih]
    rfl
theorem eqVs_refl : ∀ {xs : List V}, xs.all flatV = true → eqVs xs xs = true
  | [], _ => rfl
  | x :: xs, h => by
    rw [List.all_cons, Bool.and_eq_true] at h
    unfold eqVs
    rw [eqVs_refl h.2, Bool.and_true]
    cases x <;> first | rfl | (simp [eqV]; done) | exact absurd (show false = true from h.1) Bool.false_ne_true
theorem eqAt_items {A : Around} {s : Shared} {xs ys : List V} {us ws : List Value} (r : Vals xs us) (q : Vals ys ws) (fx : xs.all flatV = true) (fy : ys.all flatV = true) (j : Nat) (h1 : j < us.toArray.size) (h2 : j < ws.toArray.size) :
    SeqAt.EqAt A s us.toArray[j] ws.toArray[j] (eqV (xs.getD j .non) (ys.getD j .non)) := by
  have l1 := r.length
  have l2 := q.length
  have h1' : j < xs.length := by simpa [l1] using h1
  have h2' : j < ys.length := by simpa [l2] using h2
  obtain ⟨u, hu, ru⟩ := r.get (i := j) (x := xs[j]) (List.getElem?_eq_getElem h1')
  obtain ⟨v, hv, rv⟩ := q.get (i := j) (x := ys[j]) (List.getElem?_eq_getElem h2')
  have e1 : us.toArray[j] = u := by
    have := List.getElem?_eq_some_iff.mp hu
    obtain ⟨_, z⟩ := this; simpa using z
  have e2 : ws.toArray[j] = v := by
    have := List.getElem?_eq_some_iff.mp hv
    obtain ⟨_, z⟩ := this; simpa using z
  rw [e1, e2, List.getD_eq_getElem?_getD, List.getD_eq_getElem?_getD, List.getElem?_eq_getElem h1', List.getElem?_eq_getElem h2']
  exact eqAt_V ru rv (List.all_eq_true.mp fx _ (List.getElem_mem h1')) (List.all_eq_true.mp fy _ (List.getElem_mem h2'))
def rEqL (K : PySem.W.Frag) : R2 := fun x y H Q => ∃ a b xs ys, x = .ref a ∧ y = .ref b ∧ SqL K H a xs ∧ SqL K H b ys ∧ xs.all flatV = true ∧ ys.all flatV = true ∧ Q (.bl (eqVs xs ys)) H
theorem op_eqL (hu : X.A.units < cLine) : OpR X (compareOp .Eq) (rEqL X.K) := by
  intro pins s σ H x y v u Q I rx ry h
  obtain ⟨a, b, xs, ys, rfl, rfl, ha, hb, fx, fy, q⟩ := h
  cases (show v = Value.ref a from rx)
  cases (show u = Value.ref b from ry)
  obtain ⟨its, rv, p, _⟩ := I.list ha
  obtain ⟨its2, rv2, p2, _⟩ := I.list hb
  have l1 := rv.length
  have l2 := rv2.length
  by_cases hz : xs.length = ys.length
  · refine SeqAt.eq_listAt (e := fun j => eqV (xs.getD j .non) (ys.getD j .non)) p.isList p2.isList (by simp [← l1, ← l2, hz]) hu (fun j h1 h2 => eqAt_items rv rv2 fx fy j h1 h2) ?_
    have e : (List.range its.toArray.size).all (fun j => eqV (xs.getD j .non) (ys.getD j .non)) = eqVs xs ys := by
      rw [← eqVs_all hz]; simp [← l1]
    rw [e]
    exact ⟨.bl _, H, I, rfl, q⟩
  · rw [eqVs_len hz] at q
    exact SeqAt.eq_list_lengthsAt p.isList p2.isList (by simp [← l1, ← l2, hz]) hu ⟨.bl _, H, I, rfl, q⟩
variable {tg : Expr}
end
section
variable {P : Program} {w : World} {K : PySem.W.Frag} {mg : Str → Option Value} {base : Heap}
theorem Fun.okx {x qual : Str} {st : Stmt} {f : Addr} {fd : FuncData} {N ps : List Str} {k : Nat} {sp : Sp} (F : Fun K x qual st f fd) (S : FnScope N ps (defScope st)) (len : ∀ vs H Q E, sp vs H Q E → vs.length = ps.length)
    (hbody : ∀ (cdv : Value) (A : Around) (outer : List Env) (s : Shared) (H : Hp) (vs : List V) (Q : VK) (E : XK), Room k (A.deeper (envOfC qual (defScope st) s.heap.objs.size f cdv)) → sp vs H Q E →
      ∃ t, PSs (cxOf (CX1 P w) P w K mg base N qual (defScope st) f cdv A outer s H E) (defBody st) t ∧ t { nx := fun _ H' => Q .non H', rt := Q } (start N vs) H) : FnOk P w K mg base (CX1 P w) (k + 1) f fd ps sp := by
  obtain ⟨oc, od, kV, doc, pm, an, cdv, ct, osl, rfl, lk, hcd⟩ := F.ex
  refine fn_of lk hcd S len fun A outer s H vs Q E hr hsp => ?_
  exact hbody cdv A outer s H vs Q E hr hsp
theorem Fun.okn {x qual : Str} {st : Stmt} {f : Addr} {fd : FuncData} {N ps : List Str} {k : Nat} {sp : Sp} (F : Fun K x qual st f fd) (S : FnScope N ps (defScope st)) (len : ∀ vs H Q E, sp vs H Q E → vs.length = ps.length)
    (hbody : ∀ (cdv : Value) (A : Around) (outer : List Env) (s : Shared) (H : Hp) (vs : List V) (Q : VK) (E : XK), Room k (A.deeper (envOfC qual (defScope st) s.heap.objs.size f cdv)) → sp vs H Q E →
      ∃ t, PSs (cxOf (CX1 P w) P w K mg base N qual (defScope st) f cdv A outer s H E).nox (defBody st) t ∧ t { nx := fun _ H' => Q .non H', rt := Q } (start N vs) H) : FnOk P w K mg base (CX1 P w) (k + 1) f fd ps sp := by
  obtain ⟨oc, od, kV, doc, pm, an, cdv, ct, osl, rfl, lk, hcd⟩ := F.ex
  refine fn_of lk hcd S len fun A outer s H vs Q E hr hsp => ?_
  obtain ⟨t, h, q⟩ := hbody cdv A outer s H vs Q E hr hsp
  exact ⟨t, h.nox, q⟩
end
end L2
set_option maxHeartbeats 4000000
namespace L2
open PySem PySem.Spec PyProof.Rows
section
variable {X : Cx}
def oLt := (op_lt (X := X)).or op_lt_str
def isiAny := (call_isi (X := X)).or call_isiE
def ixAny := ix_seq (X := X)
theorem mt_app : MtR X "list.append" rAppend := mt_append (X := X)
end
theorem cls_of_mro {K : PySem.W.Frag} {C : Addr} {b : Value} {r : Bool} (h : PySem.W.mroIn K C b = some r) : (PySem.W.clsIn K C).isSome = true := by
  unfold PySem.W.mroIn at h
  cases q : PySem.W.clsIn K C with
  | none => rw [q] at h; cases h
  | some c => rfl
end L2
set_option maxHeartbeats 4000000
namespace L2
open PySem PySem.Spec PyProof.Rows
section
variable {X : Cx}
def cutL (xs : List Nat) (lo hi : Option Int) : List Nat := (xs.drop (HT.sIx xs.length 0 lo)).take (HT.sIx xs.length xs.length hi - HT.sIx xs.length 0 lo)
def cutS (z : Str) (lo hi : Option Int) : Str := ⟨(cutL z.cps.toList lo hi).toArray⟩
theorem slice_cutS (z : Str) (lo hi : Option Int) : Txt.slice z lo hi = cutS z lo hi := by
  obtain ⟨h1, h2, _⟩ := slice_bounds lo hi z.length
  have e : Builtin.Str.strSliceIndices lo hi 1 z.length = sliceRange (sliceBounds lo hi none z.length).1 (sliceBounds lo hi none z.length).2.1 1 := rfl
  have hl : z.cps.toList.length = z.length := by rw [Array.length_toList]; rfl
  rw [h1, h2, sliceRange_one] at e
  have hb := HT.sIx_le z.length z.length (Nat.le_refl _) hi
  unfold Txt.slice cutS cutL
  rw [e, pick_run, hl]
  split
  · rename_i q
    rw [List.length_map, List.length_range] at q
    have q' : HT.sIx z.length z.length hi - HT.sIx z.length 0 lo = z.length := by simpa using q
    obtain ⟨cps⟩ := z
    have hz : (⟨cps⟩ : Str).length = cps.size := rfl
    have : (cps.toList.drop (HT.sIx (Str.length ⟨cps⟩) 0 lo)).take (HT.sIx (Str.length ⟨cps⟩) (Str.length ⟨cps⟩) hi - HT.sIx (Str.length ⟨cps⟩) 0 lo) = cps.toList := by
      rw [q', hz]
      rcases Nat.eq_zero_or_pos cps.size with z0 | zp
      · have : cps.toList = [] := List.eq_nil_of_length_eq_zero (by simpa using z0)
        rw [this]; simp
      · have : HT.sIx cps.size 0 lo = 0 := by rw [hz] at q' hb; omega
        rw [this, List.drop_zero, List.take_of_length_le (by rw [Array.length_toList]; exact Nat.le_refl _)]
    show (⟨cps⟩ : Str) = ⟨((cps.toList.drop (HT.sIx (Str.length ⟨cps⟩) 0 lo)).take (HT.sIx (Str.length ⟨cps⟩) (Str.length ⟨cps⟩) hi - HT.sIx (Str.length ⟨cps⟩) 0 lo)).toArray⟩
    rw [this]
  · rfl
def rSlS : V → Option Int → Option Int → Hp → VK → Prop := fun x lo hi H Q => ∃ z : Str, x = .str z ∧ z.length ≤ sizeLine ∧ Q (.str (cutS z lo hi)) H
theorem sl_str : SlR X rSlS := by
  intro pins s σ H x v vl vu lo hi sl Q I rx hs pl pu h
  obtain ⟨z, rfl, hz, q⟩ := h
  obtain ⟨t, rfl⟩ := rx
  refine ⟨"str", _, F.slot_str_getitem.lookup, typeIs_str _ _ _, ?_⟩
  rw [← slice_cutS] at q
  have fin : ∀ (t' : Tok) (k : Nat), EP X pins σ Q (.str (Txt.slice z lo hi) t') { s with toks := k } := fun t' k => ⟨.str _, H, I.tok k, ⟨t', rfl⟩, q⟩
  have hl := Nat.le_trans (Txt.slice_le z lo hi) hz
  cases pl with
  | none =>
    cases pu with
    | none => exact wpAny_getItem_str_slice (l := none) (u := none) (st := none) hs rfl (post_val_or_str ⟨hl, fin⟩)
    | int j tj => exact wpAny_getItem_str_slice (l := none) (u := some (j, tj)) (st := none) hs rfl (post_val_or_str ⟨hl, fin⟩)
  | int i ti =>
    cases pu with
    | none => exact wpAny_getItem_str_slice (l := some (i, ti)) (u := none) (st := none) hs rfl (post_val_or_str ⟨hl, fin⟩)
    | int j tj => exact wpAny_getItem_str_slice (l := some (i, ti)) (u := some (j, tj)) (st := none) hs rfl (post_val_or_str ⟨hl, fin⟩)
def slAny := (sl_list (X := X)).or sl_str
def Its (z : Str) : It := ⟨fun i _ => i < z.length, fun i H x H' => H' = H ∧ ∃ c, z.cps.toList[i]? = some c ∧ x = .str ⟨#[c]⟩, fun i _ => z.length ≤ i⟩
theorem turn_str {P : Program} {w : World} {K : PySem.W.Frag} {nm : Str} {np : Pos} {ty : String} (it : Addr) (z : Str) (t : Tok)
    (hi : ∀ (A : Around) (s : Shared) (i c : Nat) (Q : Option Value → Shared → Prop) (E : Value → Shared → Prop), s.heap.IsStrIter it ty z t i → z.cps[i]? = some c →
      (∀ h', h'.IsStrIter it ty z t (i + 1) → Heap.SameBut it s.heap h' → Q (some (.str ⟨#[c]⟩ s.toks)) { s with heap := h', toks := s.toks + 1 }) → wpAny (model P w) A (pyNext (.ref it)) Q E s)
    (he : ∀ (A : Around) (s : Shared) (i : Nat) (Q : Option Value → Shared → Prop) (E : Value → Shared → Prop), A.handled = none → s.heap.IsStrIter it ty z t i → z.cps[i]? = none →
      (∀ h', Heap.ExtBut it s.heap h' → Q none { s with heap := h' }) → wpAny (model P w) A (pyNext (.ref it)) Q E s)
    (hse : ∀ (A : Around) (s : Shared) (i : Nat) (Q : Value → Shared → Prop) (E : Value → Shared → Prop), s.heap.IsStrIter it ty z t i → Q (.ref it) s → wpAny (model P w) A (pyIter (.ref it)) Q E s) :
    Turn P w K (.Name nm np) (Its z) [it] it (fun i h => h.IsStrIter it ty z t i) where
  mem := by simp
  obj := fun i h st b hb => by
    have e : b = it := by simpa using hb
    subst e
    obtain ⟨o, ho, _, hd⟩ := st
    exact ⟨o, ho, fun v q => by rw [hd] at q; cases q⟩
  keep := fun i h h' st k => by
    obtain ⟨o, ho, r⟩ := st
    exact ⟨o, k it (by simp) o ho, r⟩
  item := by
    intro X hP hw hK hc i pins s σ H E I hf st hg
    subst hP hw hK
    obtain ⟨f0, f1, f2, f3, f4, f5⟩ := hf it (by simp)
    have hg' : i < z.cps.size := hg
    refine hi X.A s i z.cps[i] _ E st (by simp [hg']) fun h' st' sb => ?_
    have I1 : Inv X pins σ H { s with heap := h', toks := s.toks + 1 } := I.turned (fun b o hb e => (sb.2 b hb).trans e) f0 f1 f3 f4 f5
    exact ⟨_, rfl, wpAny_pure ⟨.str ⟨#[z.cps[i]]⟩, H, I1, ⟨_, rfl⟩, ⟨rfl, z.cps[i], by rw [Array.getElem?_toList]; simp [hg'], rfl⟩, st', fun b hb => (hf b hb).1⟩⟩
  done := by
    intro X hP hw hK hc i pins s σ H E I hf st hg
    subst hP hw hK
    obtain ⟨f0, f1, f2, f3, f4, f5⟩ := hf it (by simp)
    have hg' : z.cps.size ≤ i := hg
    exact he X.A s i _ E (I.ok.hd hc) st (by simp [hg']) fun h' eb => ⟨rfl, I.turned (t' := s.toks) (fun b o hb e => eb b o hb e) f0 f1 f3 f4 f5⟩
  self := fun A i s Q E st h => hse A s i Q E st h
theorem PI.or {tg iter : Expr} {te : TE} {f g : V → Hp → (It → Hp → Prop) → Prop} (h : PI X tg iter (fun σ H R => te σ H fun x H1 => f x H1 R)) (h' : PI X tg iter (fun σ H R => te σ H fun x H1 => g x H1 R)) (he : PE X iter te)
    (hf : ∀ pins s σ H x v R, Inv X pins σ H s → RelV x v → f x H R → wpAny (model X.prog X.w) X.A (pyIter v) (PIE X pins σ tg R) X.xe s)
    (hg : ∀ pins s σ H x v R, Inv X pins σ H s → RelV x v → g x H R → wpAny (model X.prog X.w) X.A (pyIter v) (PIE X pins σ tg R) X.xe s) :
    PI X tg iter (fun σ H R => te σ H fun x H1 => f x H1 R ∨ g x H1 R) := by
  intro pins s σ H R I hq
  refine thn (he pins s σ H _ I hq) fun v s1 ⟨x, H1, I1, r1, q1⟩ => ?_
  rcases q1 with q1 | q1
  · exact hf pins s1 σ H1 x v R I1 r1 q1
  · exact hg pins s1 σ H1 x v R I1 r1 q1
def repS (z : Str) (n : Int) : Str := ⟨(List.replicate n.toNat z.cps.toList).flatten.toArray⟩
theorem foldl_cps (a : Array Nat) : ∀ (k : Nat) (acc : Array Nat), (List.replicate k a).foldl (· ++ ·) acc = acc ++ ((List.replicate k a.toList).flatten).toArray
  | 0, acc => by simp
  | k + 1, acc => by
    rw [List.replicate_succ, List.foldl_cons, foldl_cps a k, List.replicate_succ, List.flatten_cons]
    apply Array.ext'
    simp [List.append_assoc]
theorem mul_repS {z : Str} {n : Int} : Txt.mul z n = repS z n := by
  unfold Txt.mul repS
  by_cases h : n < 1
  · rw [if_pos h, show n.toNat = 0 by omega]; rfl
  rw [if_neg h]
  split
  · rename_i q
    obtain ⟨cps⟩ := z
    rw [Bool.or_eq_true] at q
    rcases q with q | q
    · have : n = 1 := by simpa using q
      subst this
      show (⟨cps⟩ : Str) = ⟨([cps.toList].flatten).toArray⟩
      simp
    · have : (⟨cps⟩ : Str).length = 0 := by simpa using q
      have : cps.size = 0 := this
      have e : cps.toList = [] := List.eq_nil_of_length_eq_zero (by simpa using this)
      have e2 : (List.replicate n.toNat cps.toList).flatten = [] := by rw [e]; simp
      show (⟨cps⟩ : Str) = ⟨((List.replicate n.toNat cps.toList).flatten).toArray⟩
      rw [e2, ← e]
  · rw [foldl_cps]; simp
theorem op_mul_str : OpR X (binaryOp .Mult) (fun x y H Q => ∃ z n, x = .str z ∧ y = .int n ∧ 0 ≤ n ∧ n ≤ 4000 ∧ z.length ≤ 4000 ∧ Q (.str (repS z n)) H) := by
  intro pins s σ H x y v u Q I rx ry h
  obtain ⟨z, n, rfl, rfl, h0, h1, hz, q⟩ := h
  obtain ⟨t, rfl⟩ := rx
  obtain ⟨t', rfl⟩ := ry
  rw [← mul_repS] at q
  have hs : sizeLine = 16777216 := sizeLine_eq
  have hm : z.length * n.toNat ≤ 4000 * 4000 := Nat.mul_le_mul hz (by omega)
  refine SB.mul ⟨by rw [decide_eq_false (by omega), decide_eq_false (by omega)]; rfl, fun h _ hh => ?_, fun _ _ => ?_⟩ fun t' k => ⟨.str _, H, I.tok k, ⟨t', rfl⟩, q⟩
  · have hn : 0 < n := by
      rcases Int.lt_or_eq_of_le h0 with z | z
      · exact z
      · subst z; trivial
    have : (z.length : Int) ≤ (2 ^ 63 - 1) / n := Int.le_ediv_of_mul_le hn (Int.le_trans (Int.mul_le_mul (Int.ofNat_le.mpr hz) h1 h0 (by omega)) (by decide))
    omega
  · unfold Builtin.Str.tooLong
    rw [hs]
    exact decide_eq_false (by omega)
theorem op_le_str : OpR X (compareOp .LtE) (fun x y H Q => ∃ i j, x = .str i ∧ y = .str j ∧ Q (.bl (!decide (j.cps.toList < i.cps.toList))) H) := by
  intro pins s σ H x y v u Q I rx ry h
  obtain ⟨i, j, rfl, rfl, q⟩ := h
  obtain ⟨t, rfl⟩ := rx
  obtain ⟨t', rfl⟩ := ry
  exact P.le_str ⟨.bl _, H, I, rfl, q⟩
end
end L2
set_option maxHeartbeats 4000000
namespace L2
open PySem PySem.Spec PyProof.Rows
theorem closure_go {env : Env} : ∀ (names : List (Str × NameKind)) (acc : List (Str × Addr)), (∀ p ∈ names, p.2 = .free → ∃ c, env.cells.lookup p.1 = some c) → (∀ x c, acc.lookup x = some c → env.cells.lookup x = some c) →
    ∃ cl, (forIn names acc fun (x : Str × NameKind) (r : List (Str × Addr)) => if (x.2 == NameKind.free) = true then (cellOf env x.1 >>= fun c => (pure (ForInStep.yield ((x.1, c) :: r)) : Sem _)) else (pure (ForInStep.yield r) : Sem _)) = pure cl ∧
      (∀ x c, cl.lookup x = some c → env.cells.lookup x = some c) ∧ (∀ x c, acc.lookup x = some c → ∃ c', cl.lookup x = some c') ∧ ∀ x, (x, NameKind.free) ∈ names → ∃ c, cl.lookup x = some c
  | [], acc, _, h2 => ⟨acc, rfl, h2, fun x c e => ⟨c, e⟩, fun _ z => nomatch z⟩
  | (n, k) :: r, acc, h1, h2 => by
    rw [List.forIn_cons]
    by_cases hk : k = .free
    · subst hk
      obtain ⟨c, hc⟩ := h1 (n, .free) List.mem_cons_self rfl
      have e : cellOf env n = pure c := by unfold cellOf; rw [hc]
      have sub : ∀ x c', ((n, c) :: acc).lookup x = some c' → env.cells.lookup x = some c' := fun x c' q => by
        rw [List.lookup_cons] at q
        cases hx : x == n with
        | true => rw [hx] at q; cases q; rw [eq_of_beq hx]; exact hc
        | false => rw [hx] at q; exact h2 x c' q
      obtain ⟨cl, q1, q2, q3, q4⟩ := closure_go r ((n, c) :: acc) (fun p hp => h1 p (List.mem_cons_of_mem _ hp)) sub
      refine ⟨cl, ?_, q2, fun x c' e' => ?_, fun x hx => ?_⟩
      · show ((if (NameKind.free == NameKind.free) = true then (cellOf env n >>= fun c => pure (ForInStep.yield ((n, c) :: acc))) else pure (ForInStep.yield acc)) >>= _) = _
        rw [if_pos (show (NameKind.free == NameKind.free) = true by decide), e, pure_bind, pure_bind]; exact q1
      · cases hx : x == n with
        | true => exact q3 x c (by rw [List.lookup_cons, hx])
        | false => exact q3 x c' (by rw [List.lookup_cons, hx]; exact e')
      · rcases List.mem_cons.mp hx with z | z
        · cases z; exact q3 n c (by rw [List.lookup_cons, beq_self_eq_true])
        · exact q4 x z
    · have hb : (k == NameKind.free) = false := by simpa using hk
      obtain ⟨cl, q1, q2, q3, q4⟩ := closure_go r acc (fun p hp => h1 p (List.mem_cons_of_mem _ hp)) h2
      refine ⟨cl, ?_, q2, q3, fun x hx => ?_⟩
      · show ((if (k == NameKind.free) = true then _ else pure (ForInStep.yield acc)) >>= _) = _
        rw [if_neg (by rw [hb]; exact Bool.false_ne_true), pure_bind]; exact q1
      · rcases List.mem_cons.mp hx with z | z
        · cases z; exact absurd rfl hk
        · exact q4 x z
theorem closure_of {env : Env} {scope : Scope} (h : ∀ p ∈ scope.names, p.2 = .free → ∃ c, env.cells.lookup p.1 = some c) :
    ∃ cl, closureFor scope env = pure cl ∧ (∀ x c, cl.lookup x = some c → env.cells.lookup x = some c) ∧ ∀ x, (x, NameKind.free) ∈ scope.names → ∃ c, cl.lookup x = some c := by
  obtain ⟨cl, q1, q2, _, q4⟩ := closure_go scope.names [] h (fun _ _ z => nomatch z)
  refine ⟨cl, ?_, q2, q4⟩
  unfold closureFor
  dsimp only
  rw [q1]
  rfl
theorem lookup_mem' : ∀ {l : List (Str × NameKind)} {x : Str} {k : NameKind}, l.lookup x = some k → (x, k) ∈ l
  | (n, k') :: r, x, k, h => by
    rw [List.lookup_cons] at h
    cases hx : x == n with
    | true => rw [hx] at h; cases h; rw [eq_of_beq hx]; exact List.mem_cons_self
    | false => rw [hx] at h; exact List.mem_cons_of_mem _ (lookup_mem' h)
theorem relabel_cell {scope : Scope} {env : Env} {x : Str} (hc : ∀ p ∈ scope.names, p.2 ≠ .cell) (h : (relabel scope env).names.lookup x = some .cell ∨ (relabel scope env).names.lookup x = some .free) : (x, NameKind.free) ∈ scope.names := by
  have : ∃ k, (x, k) ∈ (relabel scope env).names ∧ (k = .cell ∨ k = .free) := by
    rcases h with h | h
    · exact ⟨_, lookup_mem' h, .inl rfl⟩
    · exact ⟨_, lookup_mem' h, .inr rfl⟩
  obtain ⟨k, hm, hk⟩ := this
  obtain ⟨⟨n, k0⟩, hp, e⟩ := List.mem_map.mp hm
  dsimp only at e
  split at e
  · rename_i q
    cases e
    have : k0 = .free := by
      rw [Bool.and_eq_true, Bool.and_eq_true] at q
      exact eq_of_beq q.1.1
    rw [this] at hp; exact hp
  · cases e
    rcases hk with rfl | rfl
    · exact absurd rfl (hc _ hp)
    · exact hp
theorem relabel_free {env : Env} : ∀ {names : List (Str × NameKind)} {x : Str}, names.lookup x = some .free →
    (names.map fun (n, k) => if (k == NameKind.free && env.scope.kind == .function && env.kindOf n == some .cell) then (n, NameKind.cell) else (n, k)).lookup x ≠ some .local
  | [], _, h => nomatch h
  | (n, k) :: r, x, h => by
    rw [List.map_cons]
    rw [List.lookup_cons] at h
    dsimp only
    cases hx : x == n with
    | true =>
      rw [hx] at h
      cases h
      split
      · rw [List.lookup_cons, hx]; intro z; cases z
      · rw [List.lookup_cons, hx]; intro z; cases z
    | false =>
      rw [hx] at h
      split
      · rw [List.lookup_cons, hx]; exact relabel_free h
      · rw [List.lookup_cons, hx]; exact relabel_free h
structure CP where
  cl : List (Str × Addr)
  C : Addr
  s : Shared
  H : Hp
  fp : List Addr
def Cx.compC (X : Cx) (N : List Str) (scope : Scope) (c : CP) : Cx :=
  { X with N := N, s₀ := c.s, H₀ := c.H, env := compEnvC scope c.cl c.C X.env, outer := X.stack, ex := c.fp, fn := fun _ => false, pn := [], xe := fun _ _ => False }
abbrev Cx.comp (X : Cx) (N : List Str) (scope : Scope) (cl : List (Str × Addr)) (C : Addr) (s : Shared) (H : Hp) (fp : List Addr) : Cx := X.compC N scope ⟨cl, C, s, H, fp⟩
section
variable {X : Cx} {pins : List (Addr × Obj)} {σ : St} {H : Hp} {s : Shared} {N : List Str} {scope : Scope} {cl : List (Str × Addr)} {C : Addr} {fp : List Addr}
theorem Inv.compOk (I : Inv X pins σ H s) (hf : ∀ b ∈ fp, FpOk X pins H b) (hlt : ∀ b ∈ fp, b < s.heap.objs.size) (hC : s.heap.objs.size ≤ C) (hkind : scope.kind = .function) (hcell : ∀ p ∈ scope.names, p.2 ≠ .cell)
    (h1 : ∀ x c, cl.lookup x = some c → X.env.cells.lookup x = some c) (h2 : ∀ x, (x, NameKind.free) ∈ scope.names → ∃ c, cl.lookup x = some c) : (X.comp N scope cl C s H fp).Ok where
  mod := I.ok.mod
  kind := hkind
  glob := I.ok.glob
  blt := I.ok.blt
  above := hC
  inj := fun x y c e1 e2 => I.ok.inj x y c (h1 x c e1) (h1 y c e2)
  has := fun x h => h2 x (relabel_cell hcell h)
  cab := fun _ _ z => nomatch z
  hd := I.ok.hd
  frames := I.ok.frames
  stk := .inl rfl
  exf := fun b hb => ⟨fun z => Nat.lt_irrefl _ (Nat.lt_of_lt_of_le (hlt b hb) (by rw [z]; exact hC)), fun x c e => (hf b hb).2.2.2.2.1 x c (h1 x c e)⟩
  bs := I.bs
  bsz := Nat.le_trans I.ok.bsz I.sz
  noex := fun b o e hb => by
    rcases (hf b hb).2.2.2.1 with z | z
    · exact I.ok.noex b o e z
    · exact absurd (Nat.lt_of_lt_of_le (Heap.lt_size e) (Nat.le_trans I.ok.bsz z)) (Nat.lt_irrefl _)
  exfs := fun b hb z => by
    rcases List.mem_cons.mp (I.stkSub b z) with e | e
    · exact (hf b hb).2.1 e
    · exact (hf b hb).2.2.1 e
  funs := I.stack
  frf := I.stkFree
end
def compSt (cap : List (Option Nat)) (σ : St) : St := cap.map fun o => match o with
  | none => none
  | some j => (σ[j]?).join
def PIfs (X : Cx) (ifs : List Expr) (t : TT) : Prop := ∀ (pins : List (Addr × Obj)) (s : Shared) (σ : St) (H : Hp) (Q : Bool → Hp → Prop), Inv X pins σ H s → t σ H Q →
  wpAny (model X.prog X.w) X.A (forIn ifs true fun (c : Expr) (r : Bool) => if r = true then (PySem.isTrue c X.env (eval c X.env) >>= fun ok => (pure (ForInStep.yield ok) : Sem _)) else (pure (ForInStep.yield r) : Sem _)) (TP X pins σ Q) X.xe s
def tTrue : TT := fun _ H Q => Q true H
theorem pf_nil {X : Cx} : PIfs X [] tTrue := fun pins s σ H Q I h => wpAny_tests_nil ⟨H, I, h⟩
theorem pf_one {X : Cx} {c : Expr} {t : TT} (h : PT X c t) : PIfs X [c] t := fun pins s σ H Q I hq => wpAny_tests_one (h pins s σ H Q I hq)
theorem comp_loop {prog : Program} {w : World} {A : Around} {R : Result → Shared → Prop} {s : Shared} {elt tg iter : Expr} {ifs : List Expr} {scope : Scope} {pos : Pos} {it acc : Value} {env : Env} (J : Nat → Shared → Prop)
    (turn : ∀ n s, J n s → wpAny (model prog w) A (pyNext it) (fun r s₁ => match r with
      | none => R (.ok .next) s₁
      | some v => wpAny (model prog w) A (letOwnedTupleGo tg it v) (fun _ s₂ => wpAny (model prog w) A (assign tg env v) (fun _ s₃ =>
          wpAny (model prog w) A (forIn ifs true fun (c : Expr) (r : Bool) => if r = true then (PySem.isTrue c env (eval c env) >>= fun ok => (pure (ForInStep.yield ok) : Sem _)) else (pure (ForInStep.yield r) : Sem _)) (fun ok s₄ =>
            if ok = true then wpAny (model prog w) A (eval elt env) (fun x s₅ => wpAny (model prog w) A (call (.builtin "list.append") [acc, x]) (fun _ s₆ => ∃ m, m < n ∧ J m s₆) (fun _ _ => False) s₅) (fun _ _ => False) s₄
            else ∃ m, m < n ∧ J m s₄) (fun _ _ => False) s₃) (fun _ _ => False) s₂) (fun _ _ => False) s₁) (fun _ _ => False) s)
    (n : Nat) (h : J n s) : codeAny (model prog w) A (.compLoop (.ListComp elt [⟨tg, iter, ifs, 0⟩] scope pos) 0 it acc env) R s := by
  have off : ∀ {α : Type} {t : Sem α} {Q : α → Shared → Prop} {E : Value → Shared → Prop} {s : Shared}, wpAny (model prog w) A t Q (fun _ _ => False) s → wpAny (model prog w) A t Q E s := fun h => wpAny_mono h (fun _ _ q => q) fun _ _ z => z.elim
  refine codeAny_loop rfl J (fun n s hJ => ?_) n h
  show wpAny _ A ((compTurn (.ListComp elt [⟨tg, iter, ifs, 0⟩] scope pos) 0 it acc env).onRaise (fun x => do noteFrame x env; theTreesLotGoes x)) _ _ s
  refine wpAny_noted ?_
  rw [compTurn_list]
  refine wpAny_bind (wpAny_standAt (wpAny_bind (off (thn (turn n s hJ) fun r s₁ h₁ => ?_))))
  cases r with
  | none => exact wpAny_pure h₁
  | some v =>
    refine wpAny_bind (off (thn h₁ fun _ s₂ h₂ => wpAny_bind (off (thn h₂ fun _ s₃ h₃ => wpAny_bind (off (thn h₃ fun ok s₄ h₄ => ?_))))))
    cases ok with
    | false => exact wpAny_pure ⟨rfl, h₄⟩
    | true => exact wpAny_bind (wpAny_bind (off (thn h₄ fun x s₅ h₅ => wpAny_bind (off (thn h₅ fun _ s₆ h₆ => wpAny_pure (wpAny_pure ⟨rfl, h₆⟩))))))
def LCgo (J : It) (g : TG) (tt : TT) (te : TE) (D : Addr) (σ : St) (H : Hp) (Q : VK) : Prop := ∃ W : Nat → Nat → St → Hp → Prop, (∃ m, W 0 m σ H) ∧ ∀ i m σc Hc, W i m σc Hc →
  (J.stop i Hc ∧ Q (.ref D) Hc) ∨ (J.go i Hc ∧ ∃ N : St → Hp → Prop, (∀ σ' H', N σ' H' → ∃ m', m' < m ∧ W (i + 1) m' σ' H') ∧ ∀ x H', J.yld i Hc x H' → g x σc H' fun σ2 H2 => tt σ2 H2 fun b H3 =>
    if b = true then te σ2 H3 fun v H4 => ∃ ys, H4 D = some (.lst ys) ∧ ys.length < sizeLine ∧ N σ2 (upd H4 D (.lst (ys ++ [v]))) else N σ2 H3)
def tLC (cap : List (Option Nat)) (wi : TI) (g : CP → TG) (tt : CP → TT) (te : CP → TE) : TE := fun σ H Q => wi σ H fun J H1 => ∀ D, H1 D = none → ∀ c : CP, LCgo J (g c) (tt c) (te c) D (compSt cap σ) (upd H1 D (.lst [])) Q
section
variable {X : Cx} {N : List Str} {scope : Scope} {tg elt iter : Expr} {ifs : List Expr} {pos : Pos} {wi : TI} {g : CP → TG} {tt : CP → TT} {te : CP → TE} {cap : List (Option Nat)}
structure CompParts (X : Cx) (N : List Str) (scope : Scope) (tg : Expr) (ifs : List Expr) (elt : Expr) (g : CP → TG) (tt : CP → TT) (te : CP → TE) : Prop where
  tg : ∀ c, PG (X.compC N scope c) tg (g c)
  ifs : ∀ c, PIfs (X.compC N scope c) ifs (tt c)
  elt : ∀ c, PE (X.compC N scope c) elt (te c)
def CapOk (X : Cx) (N : List Str) (scope : Scope) (cap : List (Option Nat)) : Prop := cap.length = N.length ∧ ∀ (i : Nat) (x : Str) (j : Nat), N[i]? = some x → cap[i]? = some (some j) → X.N[j]? = some x ∧ X.env.kindOf x = some .cell ∧ scope.names.lookup x = some .free
theorem comp_block (hc : X.calm = true) (hkind : scope.kind = .function) (hcell : ∀ p ∈ scope.names, p.2 ≠ .cell) (hcap : CapOk X N scope cap) (B : CompParts X N scope tg ifs elt g tt te) {cl : List (Str × Addr)}
    (h1 : ∀ x c, cl.lookup x = some c → X.env.cells.lookup x = some c) (h2 : ∀ x, (x, NameKind.free) ∈ scope.names → ∃ c, cl.lookup x = some c) (hfk : X.env.scope.kind = .function)
    {pins : List (Addr × Obj)} {σ : St} {H : Hp} {s : Shared} {it : Addr} {fp : List Addr} {tn : Nat → Heap → Prop} {J : It} {Q : VK} {E : Value → Shared → Prop} {RR : Value → Addr → Result → Shared → Prop}
    (I : Inv X pins σ H s) (T : Turn X.prog X.w X.K tg J fp it tn) (st : tn 0 s.heap) (f : ∀ b ∈ fp, FpOk X pins H b)
    (h : ∀ D, H D = none → ∀ c : CP, LCgo J (g c) (tt c) (te c) D (compSt cap σ) (upd H D (.lst [])) Q)
    (hR : ∀ D C H' s' m, Inv X pins σ H' s' → Q (.ref D) H' → s'.heap.Ns C m → s.heap.objs.size ≤ C → H' C = none → RR (.ref D) C (.ok .next) s') :
    wpAny (model X.prog X.w) X.A (newList []) (fun acc s₃ => wpAny (model X.prog X.w) X.A (newFunctionEnv scope X.env.globals cl [] X.env.qual none .none (some X.env)) (fun cenv s₄ =>
      codeAny (model X.prog X.w) X.A (.compStart (.ListComp elt [⟨tg, iter, ifs, 0⟩] scope pos) 0 (.ref it) acc { cenv with scope := relabel scope X.env }) (RR acc cenv.locals) s₄) E s₃) E s := by
  have hlt : ∀ b ∈ fp, b < s.heap.objs.size := fun b hb => by obtain ⟨o, e, _⟩ := T.obj _ _ st b hb; exact Heap.lt_size e
  refine wpAny_newObj_type (wpAny_newFunctionEnv hcell (by intro y hy; simp at hy) (fun h₁ hns₁ hsb₁ => ?_) hkind)
  dsimp only at hns₁ hsb₁ ⊢
  generalize hD : s.heap.push { cls := .type "list", dict := none, data := .seq ([] : List Value).toArray } = G at hns₁ hsb₁ ⊢
  have hC : G.objs.size = s.heap.objs.size + 1 := by rw [← hD, Heap.size_push]
  have hCle : s.heap.objs.size ≤ G.objs.size := by rw [hC]; exact Nat.le_succ _
  have hDC : s.heap.objs.size ≠ G.objs.size := by rw [hC]; exact Nat.ne_of_lt (Nat.lt_succ_self _)
  have old : ∀ b o, s.heap.get? b = some o → h₁.get? b = some o := fun b o e =>
    hsb₁.extBut b o (by have := Heap.lt_size e; rw [hC]; exact Nat.ne_of_lt (Nat.lt_succ_of_lt this)) (Heap.get?_push_of_some _ (hD ▸ Heap.get?_push_of_some _ e))
  have hacc : h₁.get? s.heap.objs.size = some { cls := .type "list", dict := none, data := .seq ([] : List Value).toArray } := hsb₁.extBut _ _ hDC (Heap.get?_push_of_some _ (hD ▸ Heap.get?_push_size _ rfl))
  have hDn : H s.heap.objs.size = none := I.hok.fresh (Nat.le_refl _)
  have hCn : H G.objs.size = none := I.hok.fresh hCle
  obtain ⟨W, ⟨m0, w0⟩, turn⟩ := h s.heap.objs.size hDn ⟨cl, G.objs.size, s, H, fp⟩
  have ok := I.compOk (N := N) (C := G.objs.size) f hlt hCle hkind hcell h1 h2
  have tup' : ∀ b xs, H b = some (.tup xs) → upd H s.heap.objs.size (.lst []) b = some (.tup xs) := fun b xs e => by rw [upd_ne (ne_of_none e hDn)]; exact e
  have hok1 : HOk X.prog X.w (upd H s.heap.objs.size (.lst [])) h₁ := I.hok.laid old (Nat.le_refl _) ⟨Nat.zero_le _, [], _, .nil, hacc⟩
  have I1 : Inv (X.comp N scope cl G.objs.size s H fp) [] (compSt cap σ) (upd H s.heap.objs.size (.lst [])) { s with heap := h₁, toks := s.toks + ([] : List (Str × Value)).length } := by
    refine ⟨ok, rfl, I.bare, Un.laid old (Nat.le_refl _) hDn, ⟨_, hns₁, fun i x v e1 e2 e3 => ?_⟩, fun x c e => ?_, ?_, fun x c e => ?_, (fun p hp => absurd (show p ∈ ([] : List (Addr × Obj)) from hp) (by simp)), hok1, ?_⟩
    · unfold compSt at e2
      rw [List.getElem?_map] at e2
      cases hj : cap[i]? with
      | none => rw [hj] at e2; cases e2
      | some o =>
        cases o with
        | none => rw [hj] at e2; cases e2
        | some j =>
          rw [hj] at e2
          have e2' : (σ[j]?).join = some v := Option.some.inj e2
          have e4 : σ[j]? = some (some v) := by
            cases q : σ[j]? with
            | none => rw [q] at e2'; cases e2'
            | some y => rw [q] at e2'; exact congrArg some e2'
          obtain ⟨c1, c2, c3⟩ := hcap.2 i x j e1 hj
          obtain ⟨m, hn, hl⟩ := I.loc
          obtain ⟨u, r, l⟩ := hl j x v c1 e4 (.inr (.inl c2))
          refine ⟨u, r, ?_⟩
          rcases l with ⟨k, _⟩ | ⟨_, c, hc', z⟩
          · rw [c2] at k; cases k
          · have fm : (x, NameKind.free) ∈ scope.names := lookup_mem' c3
            obtain ⟨c', hc2⟩ := h2 x fm
            have : c' = c := by have := h1 x c' hc2; rw [hc'] at this; exact (Option.some.inj this).symm
            subst this
            obtain ⟨oc, hoc, hd⟩ := z
            refine .inr ⟨?_, c', hc2, ⟨oc, old _ _ hoc, hd⟩⟩
            rcases e3 with q | q | q
            · exact absurd q (relabel_free c3)
            · exact .inl q
            · exact .inr q
    · obtain ⟨v, oc, hoc, hd⟩ := I.cell x c (h1 x c e)
      exact ⟨v, oc, old _ _ hoc, hd⟩
    · rw [show (X.comp N scope cl G.objs.size s H fp).env.locals = G.objs.size from rfl, upd_ne (Ne.symm hDC)]; exact hCn
    · have z := I.freeC x c (h1 x c e)
      obtain ⟨v, oc, hoc, hd⟩ := I.cell x c (h1 x c e)
      rw [upd_ne (Nat.ne_of_lt (Heap.lt_size hoc))]; exact z
    · unfold compSt; rw [List.length_map]; exact hcap.1
  have fok : ∀ {H' : Hp}, (∀ b ∈ fp, H' b = none) → ∀ b ∈ fp, FpOk (X.comp N scope cl G.objs.size s H fp) [] H' b := fun hn b hb =>
    ⟨hn b hb, (ok.exf b hb).1, ok.exfs b hb, .inl hb, (ok.exf b hb).2, (fun p hp => absurd (show p ∈ ([] : List (Addr × Obj)) from hp) (by simp))⟩
  have st1 : tn 0 h₁ := T.keep _ _ _ st fun b _ o e => old b o e
  have fr1 : ∀ b ∈ fp, upd H s.heap.objs.size (.lst []) b = none := fun b hb => by rw [upd_ne (Nat.ne_of_lt (hlt b hb))]; exact (f b hb).1
  have loop : ∀ s₃ : Shared, s₃ = { s with heap := h₁, toks := s.toks + ([] : List (Str × Value)).length } →
      codeAny (model X.prog X.w) X.A (.compLoop (.ListComp elt [⟨tg, iter, ifs, 0⟩] scope pos) 0 (.ref it) (.ref s.heap.objs.size) (compEnvC scope cl G.objs.size X.env)) (RR (.ref s.heap.objs.size) G.objs.size) s₃ := by
    rintro s₃ rfl
    refine comp_loop (fun n s' => ∃ i σ' H', Inv (X.comp N scope cl G.objs.size s H fp) [] σ' H' s' ∧ tn i s'.heap ∧ (∀ b ∈ fp, H' b = none) ∧ W i n σ' H') ?_ m0 ⟨0, _, _, I1, st1, fr1, w0⟩
    rintro n s3 ⟨i, σ3, H3, I3, st3, fr3, w3⟩
    rcases turn i n σ3 H3 w3 with ⟨stop, q⟩ | ⟨go, N', hN, step⟩
    · refine thn (T.done (X.comp N scope cl G.objs.size s H fp) rfl rfl rfl hc i [] s3 σ3 H3 _ I3 (fok fr3) st3 stop) fun r s4 ⟨hr, I4⟩ => ?_
      subst hr
      obtain ⟨m, hn, _⟩ := I4.loc
      refine hR _ _ H3 s4 m (I.call' (ch := fp) I4.os I4.base I4.hok I4.bare fun b hb => ?_) q hn hCle I4.free
      obtain ⟨_, z1, _, z3, z4, z5⟩ := f b hb
      exact ⟨z3, z1, z4, z5⟩
    · refine thn (T.item (X.comp N scope cl G.objs.size s H fp) rfl rfl rfl hc i [] s3 σ3 H3 _ I3 (fok fr3) st3 go) fun r s4 ⟨u, hr, h4⟩ => ?_
      subst hr
      refine thn h4 fun _ s5 ⟨x, H5, I5, r5, y5, st5, fr5⟩ => ?_
      have I5' := I5.pinned (fok fr5) (T.obj _ _ st5)
      refine thn (B.tg ⟨cl, G.objs.size, s, H, fp⟩ _ s5 σ3 H5 x u _ I5' r5 (step x H5 y5)) fun _ s6 ⟨σ6, H6, I6, q6⟩ => ?_
      refine thn (B.ifs ⟨cl, G.objs.size, s, H, fp⟩ _ s6 σ6 H6 _ I6 q6) fun ok7 s7 ⟨H7, I7, q7⟩ => ?_
      have again : ∀ {s8 : Shared} {H8 : Hp}, Inv (X.comp N scope cl G.objs.size s H fp) ([] ++ pinsAt fp s5.heap) σ6 H8 s8 → N' σ6 H8 → ∃ m, m < n ∧ ∃ i σ' H', Inv (X.comp N scope cl G.objs.size s H fp) [] σ' H' s8 ∧ tn i s8.heap ∧ (∀ b ∈ fp, H' b = none) ∧ W i m σ' H' := fun {s8 H8} I8 n8 => by
        obtain ⟨m', hm, w8⟩ := hN σ6 H8 n8
        have pn : ∀ b o, b ∈ fp → s5.heap.get? b = some o → s8.heap.get? b = some o ∧ H8 b = none := fun b o hb e =>
          let z := I8.pin (b, o) (List.mem_append_right _ (List.mem_append_right _ (mem_pinsAt hb e))); ⟨z.1, z.2.1⟩
        refine ⟨m', hm, i + 1, σ6, H8, I8.unpinned, T.keep _ _ _ st5 fun b hb o e => (pn b o hb e).1, fun b hb => ?_, w8⟩
        obtain ⟨o, e, d⟩ := T.obj _ _ st5 b hb
        exact (pn b o hb e).2
      cases ok7 with
      | false => rw [if_neg Bool.false_ne_true] at q7 ⊢; exact again I7 q7
      | true =>
        rw [if_pos rfl] at q7 ⊢
        refine thn (B.elt ⟨cl, G.objs.size, s, H, fp⟩ _ s7 σ6 H7 _ I7 q7) fun v s8 ⟨y, H8, I8, r8, ys, hy, hs, n8⟩ => ?_
        refine thn (mt_append (X := X.comp N scope cl G.objs.size s H fp) _ s8 σ6 H8 (.ref s.heap.objs.size) [y] (.ref s.heap.objs.size) [v] (fun z H9 => z = .non ∧ H9 = upd H8 s.heap.objs.size (.lst (ys ++ [y]))) I8 rfl (.cons r8 .nil) ⟨_, ys, y, rfl, rfl, hy, hs, rfl, rfl⟩) fun _ s9 ⟨z, H9, I9, _, _, e9⟩ => ?_
        subst e9
        exact again I9 n8
  exact codeAny_compStart_list (loop _ rfl) (T.self _ 0 _ _ _ st1 (loop _ rfl))
end
end L2
set_option maxHeartbeats 4000000
namespace L2
open PySem PySem.Spec PyProof.Rows
section
variable {X : Cx} {N : List Str} {scope : Scope} {tg elt iter : Expr} {ifs : List Expr} {pos : Pos} {wi : TI} {g : CP → TG} {tt : CP → TT} {te : CP → TE} {cap : List (Option Nat)}
structure CompSc (X : Cx) (N : List Str) (scope : Scope) (cap : List (Option Nat)) : Prop where
  kind : scope.kind = .function
  cell : ∀ p ∈ scope.names, p.2 ≠ .cell
  names : ∀ p ∈ scope.names, p.2 = .local → scope.names.lookup p.1 = some .local
  free : ∀ p ∈ scope.names, p.2 = .free → X.env.kindOf p.1 = some .cell ∨ X.env.kindOf p.1 = some .free
  cap : CapOk X N scope cap
def compScB (XN : List Str) (xsc : Scope) (N : List Str) (scope : Scope) (cap : List (Option Nat)) : Bool :=
  scope.kind == .function && scope.names.all (fun p => p.2 != .cell) && scope.names.all (fun p => p.2 != .local || scope.names.lookup p.1 == some .local) &&
  scope.names.all (fun p => p.2 != .free || (xsc.names.lookup p.1 == some .cell || xsc.names.lookup p.1 == some .free)) && cap.length == N.length &&
  (List.range N.length).all fun i => match N[i]?, cap[i]? with
    | some x, some (some j) => XN[j]? == some x && xsc.names.lookup x == some .cell && scope.names.lookup x == some .free
    | _, _ => true
theorem compSc_of (h : compScB X.N X.env.scope N scope cap = true) : CompSc X N scope cap := by
  unfold compScB at h
  simp only [Bool.and_eq_true] at h
  obtain ⟨⟨⟨⟨⟨h1, h2⟩, h3⟩, h4⟩, h5⟩, h6⟩ := h
  refine ⟨eq_of_beq h1, fun p hp z => ?_, fun p hp z => ?_, fun p hp z => ?_, eq_of_beq h5, fun i x j e1 e2 => ?_⟩
  · have := List.all_eq_true.mp h2 p hp
    rw [z] at this; cases this
  · have := List.all_eq_true.mp h3 p hp
    rw [z] at this
    simpa using this
  · have := List.all_eq_true.mp h4 p hp
    rw [z] at this
    have e : (NameKind.free != NameKind.free) = false := by decide
    rw [e, Bool.false_or, Bool.or_eq_true] at this
    rcases this with q | q
    · exact .inl (eq_of_beq q)
    · exact .inr (eq_of_beq q)
  · have hi : i < N.length := (List.getElem?_eq_some_iff.mp e1).1
    have := List.all_eq_true.mp h6 i (List.mem_range.mpr hi)
    rw [e1, e2] at this
    simp only [Bool.and_eq_true] at this
    exact ⟨eq_of_beq this.1.1, eq_of_beq this.1.2, eq_of_beq this.2⟩
theorem CompSc.clo {pins : List (Addr × Obj)} {σ : St} {H : Hp} {s : Shared} (S : CompSc X N scope cap) (I : Inv X pins σ H s) :
    ∃ cl, closureFor scope X.env = pure cl ∧ (∀ x c, cl.lookup x = some c → X.env.cells.lookup x = some c) ∧ ∀ x, (x, NameKind.free) ∈ scope.names → ∃ c, cl.lookup x = some c :=
  closure_of fun p hp z => I.ok.has p.1 (S.free p hp z)
theorem Inv.letGo {pins : List (Addr × Obj)} {σ : St} {H H2 : Hp} {s s2 : Shared} {C : Addr} {h' : Heap} (I2 : Inv X pins σ H2 s2) (I : Inv X pins σ H s) (hC : s2.heap.objs.size ≤ C) (hn : H C = none) (hs : Heap.SameBut C s.heap h') : Inv X pins σ H { s with heap := h' } := by
  obtain ⟨f0, f1, f2, f3, f4, f5⟩ := I2.fpOk (H' := H) hC hn
  exact I.turned (t' := s.toks) (fun b o hb e => hs.extBut b o hb e) f0 f1 f3 f4 f5
theorem pe_lc (S : CompSc X N scope cap) (hc : X.calm = true) (hi : PI X tg iter wi) (B : CompParts X N scope tg ifs elt g tt te) (hs : ∀ x, foldedSetIterable iter X.env x = pure x := by intro _; rfl) :
    PE X (.ListComp elt [⟨tg, iter, ifs, 0⟩] scope pos) (tLC cap wi g tt te) := by
  intro pins s σ H Q I h
  obtain ⟨cl, hcl, h1, h2⟩ := S.clo I
  rw [eval_ListComp]
  refine wpAny_comprehension_free (use := none) rfl hs hcl S.kind S.names (thn (hi pins s σ H _ I h) fun v s1 q1 => thn q1 fun itv s2 ⟨it, fp, tn, J, H2, e, I2, T, st, f, q⟩ => ?_)
  subst e
  refine comp_block (RR := fun acc C => compPost (model X.prog X.w) X.A X.xe none (EP X pins σ Q) acc C) hc S.kind S.cell S.cap B h1 h2 I2.ok.kind I2 T st f q fun D C H' s' m I' q' hn hC hCn => ?_
  exact ⟨m, hn, fun h' hs' => ⟨.ref D, H', I2.letGo I' hC hCn hs', rfl, q'⟩⟩
theorem ps_setLC {i : Nat} {y : Str} {py spos : Pos} (hN : X.N.Nodup) (hi : X.N[i]? = some y) (hy : X.env.kindOf y = some .local) (S : CompSc X N scope cap) (hc : X.calm = true) (hit : PI X tg iter wi) (B : CompParts X N scope tg ifs elt g tt te)
    (hsw : swapsWith (.ListComp elt [⟨tg, iter, ifs, 0⟩] scope pos) (some (.Name y py)) spos.line X.env = pure true) (hs : ∀ x, foldedSetIterable iter X.env x = pure x := by intro _; rfl) :
    PS X (.Assign [.Name y py] (.ListComp elt [⟨tg, iter, ifs, 0⟩] scope pos) spos) (fun D σ H => tLC cap wi g tt te σ H fun v H1 => D.nx (σ.set i (some v)) H1) := by
  intro pins s σ H D I h
  obtain ⟨cl, hcl, h1, h2⟩ := S.clo I
  rw [exec_Assign_Name_used _ _ _ _ hsw]
  refine wpAny_bind (wpAny_standAt (wpAny_bind ?_))
  show wpAny _ X.A (do let _ ← comprehension (.ListComp elt [⟨tg, iter, ifs, 0⟩] scope pos) scope X.env _ (newList []) false (eval iter X.env) (some (assign (.Name y py) X.env))) _ _ s
  refine wpAny_bind (thn (wpAny_comprehension_free (use := some (assign (.Name y py) X.env)) (Q := fun _ s' => SP X pins D .next s') rfl hs hcl S.kind S.names (thn (hit pins s σ H _ I h) fun v s1 q1 => thn q1 fun itv s2 ⟨it, fp, tn, J, H2, e, I2, T, st, f, q⟩ => ?_))
    fun _ s' hq => wpAny_pure (wpAny_pure hq))
  subst e
  refine comp_block (Q := fun v H1 => D.nx (σ.set i (some v)) H1) (RR := fun acc C => compPost (model X.prog X.w) X.A X.xe (some (assign (.Name y py) X.env)) (fun _ s' => SP X pins D .next s') acc C) hc S.kind S.cell S.cap B h1 h2 I2.ok.kind I2 T st f q fun A C H' s' m I' q' hn hC hCn => ?_
  show wpAny _ X.A (assign (.Name y py) X.env (.ref A)) _ _ _
  refine wpAny_assign_Name (store_ok2 (v := .ref A) I' hN hi (.inl hy) rfl (fun s'' I'' ⟨a, sb, ha⟩ => ?_) (.inr hy))
  obtain ⟨f0, f1, f2, f3, f4, f5⟩ := I2.fpOk (H' := H') hC hCn
  have hCa : C ≠ a := by
    rcases ha with e | e
    · rw [e]; exact f1
    · exact Ne.symm (f4 y a e)
  refine ⟨m, hn.sameBut sb hCa, fun h' hs' => ⟨_, H', ?_, q'⟩⟩
  exact I''.turned (t' := s''.toks) (fun b o hb e => hs'.extBut b o hb e) f0 f1 f3 f4 f5
end
structure Walk (J : It) (xs : List V) (Ok : Hp → Prop) : Prop where
  go : ∀ i H, i < xs.length → Ok H → J.go i H
  stop : ∀ i H, xs.length ≤ i → Ok H → J.stop i H
  yld : ∀ i H x H', i < xs.length → Ok H → J.yld i H x H' → H' = H ∧ xs[i]? = some x
theorem walk_list {K : PySem.W.Frag} {a : Addr} {xs : List V} : Walk (Itl K a) xs (fun H => SqL K H a xs) where
  go := fun i H h q => ⟨xs, xs[i], q, by simp [h]⟩
  stop := fun i H h q => ⟨xs, q, h⟩
  yld := fun i H x H' _ q y => ⟨y.1, y.2 xs q⟩
def chr1 (c : Nat) : V := .str ⟨#[c]⟩
theorem walk_str {z : Str} : Walk (Its z) (z.cps.toList.map chr1) (fun _ => True) where
  go := fun i H h _ => by
    rw [List.length_map, Array.length_toList] at h
    exact h
  stop := fun i H h _ => by
    rw [List.length_map, Array.length_toList] at h
    exact h
  yld := fun i H x H' _ _ y => by
    obtain ⟨e, c, hc, rfl⟩ := y
    exact ⟨e, by rw [List.getElem?_map, hc]; rfl⟩
def upto (lo : Int) (n : Nat) : List V := (List.range n).map fun (k : Nat) => V.int (lo + k)
theorem walk_range {lo : Int} {n : Nat} : Walk (Itr lo n) (upto lo n) (fun _ => True) where
  go := fun i H h _ => by
    unfold upto at h; rw [List.length_map, List.length_range] at h
    exact h
  stop := fun i H h _ => by
    unfold upto at h; rw [List.length_map, List.length_range] at h
    exact h
  yld := fun i H x H' h _ y => by
    unfold upto at h; rw [List.length_map, List.length_range] at h
    obtain ⟨e, hx⟩ := y
    subst hx
    refine ⟨e, ?_⟩
    unfold upto
    rw [List.getElem?_map, List.getElem?_range h]
    rfl
theorem for_walk {J : It} {xs : List V} {Ok : Hp → Prop} (Wk : Walk J xs Ok) {g : TG} {tb : TS} {D : Ends} {σ : St} {H : Hp} (Pv : Nat → St → Hp → Prop) (h0 : Pv 0 σ H) (hl : ∀ i σ H, i ≤ xs.length → Pv i σ H → Ok H)
    (hs : ∀ i x σ H, xs[i]? = some x → Pv i σ H → g x σ H fun σ2 H2 => tb { D with nx := Pv (i + 1), ct := Pv (i + 1), bk := D.nx } σ2 H2) (hd : ∀ σ H, Pv xs.length σ H → D.nx σ H) :
    ∃ W : Nat → Nat → St → Hp → Prop, (∃ m, W 0 m σ H) ∧ ∀ i m σ H, W i m σ H →
      (J.stop i H ∧ D.nx σ H) ∨ (J.go i H ∧ ∃ N : St → Hp → Prop, (∀ σ' H', N σ' H' → ∃ m', m' < m ∧ W (i + 1) m' σ' H') ∧ ∀ x H', J.yld i H x H' → g x σ H' fun σ2 H2 => tb { D with nx := N, ct := N, bk := D.nx } σ2 H2) := by
  refine ⟨fun i m σ H => m = xs.length - i ∧ i ≤ xs.length ∧ Pv i σ H, ⟨xs.length, by simp, Nat.zero_le _, h0⟩, ?_⟩
  rintro i m σ H ⟨rfl, hi, p⟩
  have q := hl i σ H hi p
  by_cases hlt : i < xs.length
  · refine .inr ⟨Wk.go i H hlt q, Pv (i + 1), fun σ' H' p' => ⟨xs.length - (i + 1), by omega, rfl, hlt, p'⟩, fun x H' y => ?_⟩
    obtain ⟨e, y'⟩ := Wk.yld i H x H' hlt q y
    subst e
    exact hs i x σ _ y' p
  · have e : i = xs.length := by omega
    subst e
    exact .inl ⟨Wk.stop _ H (Nat.le_refl _) q, hd σ H p⟩
theorem lc_walk {J : It} {xs : List V} {Ok : Hp → Prop} (Wk : Walk J xs Ok) {g : TG} {tt : TT} {te : TE} {σ : St} {H : Hp} {D : Addr} {Q : VK} (Pv : Nat → St → Hp → Prop) (h0 : Pv 0 σ H) (hl : ∀ i σ H, i ≤ xs.length → Pv i σ H → Ok H)
    (hs : ∀ i x σ H, xs[i]? = some x → Pv i σ H → g x σ H fun σ2 H2 => tt σ2 H2 fun b H3 => if b = true then te σ2 H3 fun v H4 => ∃ ys, H4 D = some (.lst ys) ∧ ys.length < sizeLine ∧ Pv (i + 1) σ2 (upd H4 D (.lst (ys ++ [v]))) else Pv (i + 1) σ2 H3)
    (hd : ∀ σ H, Pv xs.length σ H → Q (.ref D) H) : LCgo J g tt te D σ H Q := by
  refine ⟨fun i m σ H => m = xs.length - i ∧ i ≤ xs.length ∧ Pv i σ H, ⟨xs.length, by simp, Nat.zero_le _, h0⟩, ?_⟩
  rintro i m σ H ⟨rfl, hi, p⟩
  have q := hl i σ H hi p
  by_cases hlt : i < xs.length
  · refine .inr ⟨Wk.go i H hlt q, Pv (i + 1), fun σ' H' p' => ⟨xs.length - (i + 1), by omega, rfl, hlt, p'⟩, fun x H' y => ?_⟩
    obtain ⟨e, y'⟩ := Wk.yld i H x H' hlt q y
    subst e
    exact hs i x σ _ y' p
  · have e : i = xs.length := by omega
    subst e
    exact .inl ⟨Wk.stop _ H (Nat.le_refl _) q, hd σ H p⟩
theorem lc_true {σ : St} {H : Hp} {A B : Hp → Prop} (h : A H) : tTrue σ H (fun b H3 => if b = true then A H3 else B H3) := by
  show if true = true then A H else B H
  rw [if_pos rfl]; exact h
theorem lc_pure {J : It} {xs : List V} {Ok : Hp → Prop} (Wk : Walk J xs Ok) {tt : TT} {te : TE} {H : Hp} {D : Addr} {Q : VK} {caps : St} (p : V → Bool) (f : V → V) (hl : ∀ ys, Ok (upd H D (.lst ys))) (hz : xs.length < sizeLine)
    (hs : ∀ (i : Nat) (x : V) (ys : List V) (R : Hp → Prop), xs[i]? = some x → ys.length < sizeLine → (p x = true → R (upd H D (.lst (ys ++ [f x])))) → (p x = false → R (upd H D (.lst ys))) →
      tt (some x :: caps) (upd H D (.lst ys)) fun b H3 => if b = true then te (some x :: caps) H3 fun v H4 => ∃ ys, H4 D = some (.lst ys) ∧ ys.length < sizeLine ∧ R (upd H4 D (.lst (ys ++ [v]))) else R H3)
    (hd : Q (.ref D) (upd H D (.lst ((xs.filter p).map f)))) : LCgo J (gName 0) tt te D (none :: caps) (upd H D (.lst [])) Q := by
  refine lc_walk Wk (fun i σ H' => ∃ r, σ = r :: caps ∧ H' = upd H D (.lst (((xs.take i).filter p).map f))) ⟨none, rfl, rfl⟩ (fun i σ H' _ ⟨_, _, e⟩ => by rw [e]; exact hl _) ?_ ?_
  · rintro i x σ H' hx ⟨r, rfl, rfl⟩
    have hlen : (((xs.take i).filter p).map f).length < sizeLine := by
      rw [List.length_map]
      have := List.length_filter_le p (xs.take i)
      have h2 : (xs.take i).length ≤ xs.length := List.length_take_le' _ _
      omega
    refine hs i x _ (fun H3 => ∃ r, some x :: caps = r :: caps ∧ H3 = upd H D (.lst (((xs.take (i + 1)).filter p).map f))) hx hlen (fun hp => ⟨_, rfl, ?_⟩) (fun hp => ⟨_, rfl, ?_⟩)
    · rw [take_succ_filter p _ i x hx, hp, if_pos rfl, List.map_append]; rfl
    · rw [take_succ_filter p _ i x hx, hp, if_neg Bool.false_ne_true, List.append_nil]
  · rintro σ H' ⟨r, rfl, rfl⟩
    rw [List.take_length]; exact hd
end L2
set_option maxHeartbeats 4000000
namespace L2
open PySem PySem.Spec PyProof.Rows
def Small (n : Int) : Prop := Builtin.Int.intBits n ≤ 1048576
theorem small_of {n : Int} (h : n.natAbs.log2 + 1 ≤ 1048576) : Small n := PySem.intBits_le_iff.mpr (Nat.lt_of_lt_of_le Nat.lt_log2_self (Nat.pow_le_pow_right (by decide) h))
theorem small_zero : Small 0 := by unfold Small; decide
theorem Small.le {m n : Int} (h : Small n) (e : m.natAbs ≤ n.natAbs) : Small m := PySem.intBits_le_iff.mpr (Nat.lt_of_le_of_lt e (PySem.intBits_le_iff.mp h))
theorem script_small : ∀ {ns : List Int} {w : Nat}, PySem.W.WData.weightAll (ns.map PySem.W.WData.int) ≤ w → w ≤ 1048576 → ∀ n ∈ ns, Small n
  | [], _, _, _, _, h => nomatch h
  | x :: r, w, h, hw, n, hn => by
    rw [List.map_cons] at h
    unfold PySem.W.WData.weightAll at h
    rcases List.mem_cons.mp hn with e | e
    · subst e
      unfold PySem.W.WData.weight at h
      by_cases z : n = 0
      · rw [z]; exact small_zero
      · rw [if_neg (by simpa using z)] at h
        exact small_of (by omega)
    · exact script_small (ns := r) (w := w) (by omega) hw n e
theorem script_layable {ns : List Int} (h : PySem.W.WData.layableAll [PySem.W.WData.list (ns.map PySem.W.WData.int)] = true) : ∀ n ∈ ns, Small n := by
  unfold PySem.W.WData.layableAll at h
  rw [List.all_cons, Bool.and_eq_true] at h
  have h1 := h.1
  unfold PySem.W.WData.layable at h1
  rw [Bool.and_eq_true] at h1
  have h2 := of_decide_eq_true h1.2
  unfold PySem.W.WData.weight at h2
  exact script_small h2 (by decide)
section
variable {X : Cx}
def CMulB (i j : Int) : Prop := Builtin.Int.intBits i ≤ 4000000 ∧ Builtin.Int.intBits j ≤ 4000000
end
end L2
set_option maxHeartbeats 4000000
namespace L2
open PySem PySem.Spec PyProof.Rows
def tx (l : List Nat) : Str := ⟨l.toArray⟩
theorem tx_cps (l : List Nat) : (tx l).cps.toList = l := rfl
theorem tx_len (l : List Nat) : (tx l).length = l.length := List.size_toArray ..
theorem tx_app (l m : List Nat) : tx l ++ tx m = tx (l ++ m) := by
  show (⟨l.toArray ++ m.toArray⟩ : Str) = ⟨(l ++ m).toArray⟩
  rw [List.append_toArray]
theorem tx_inj {l m : List Nat} (h : tx l = tx m) : l = m := congrArg (fun z : Str => z.cps.toList) h
theorem tx_rep (l : List Nat) (n : Int) : repS (tx l) n = tx (List.replicate n.toNat l).flatten := rfl
theorem tx_in (c : Nat) (l : List Nat) : (!(Builtin.Str.occurrences (tx l) (tx [c]) 0 (tx l).length 1).isEmpty) = decide (c ∈ l) := StrLaws.found_one (tx l) c
abbrev vt (l : List Nat) : V := .str (tx l)
theorem cut_to (l : List Nat) (k : Nat) : cutL l none (some (k : Int)) = l.take k := by
  unfold cutL
  rw [HT.sIx_none, HT.sIx_nat, List.drop_zero, Nat.sub_zero]
  by_cases h : k ≤ l.length
  · rw [Nat.min_eq_left h]
  · rw [Nat.min_eq_right (by omega), List.take_length, List.take_of_length_le (by omega)]
theorem cut_from (l : List Nat) (k : Nat) : cutL l (some (k : Int)) none = l.drop k := by
  unfold cutL
  rw [HT.sIx_none, HT.sIx_nat]
  by_cases h : k ≤ l.length
  · rw [Nat.min_eq_left h, List.take_of_length_le (by rw [List.length_drop]; omega)]
  · rw [Nat.min_eq_right (by omega), Nat.sub_self, List.take_zero, List.drop_of_length_le (by omega)]
section
variable {X : Cx}
def rIn1 (neg : Bool) : R2 := fun x y H Q => ∃ c l, x = vt [c] ∧ y = vt l ∧ Q (.bl (if neg then !decide (c ∈ l) else decide (c ∈ l))) H
theorem op_in1 : OpR X (compareOp .In) (rIn1 false) := by
  intro pins s σ H x y v u Q I rx ry h
  obtain ⟨c, l, rfl, rfl, q⟩ := h
  exact op_in_str pins s σ H _ _ v u Q I rx ry ⟨_, _, rfl, rfl, by rw [tx_in]; exact q⟩
theorem op_notIn1 : OpR X (compareOp .NotIn) (rIn1 true) := by
  intro pins s σ H x y v u Q I rx ry h
  obtain ⟨c, l, rfl, rfl, q⟩ := h
  exact op_notIn_str pins s σ H _ _ v u Q I rx ry ⟨_, _, rfl, rfl, by rw [tx_in]; exact q⟩
def oIn := (op_in1 (X := X)).or op_in_seq
def oNotIn := (op_notIn1 (X := X)).or op_notIn_seq
def oLeA := (op_le (X := X)).or op_le_str
def iAny (K : PySem.W.Frag) (te : TE) : TI := fun σ H R => te σ H fun x H1 => (∃ a xs, x = .ref a ∧ SqL K H1 a xs ∧ R (Itl K a) H1) ∨ (∃ a xs, x = .ref a ∧ SqT K H1 a xs ∧ R (Itt K a) H1) ∨ (∃ z, x = .str z ∧ R (Its z) H1)
theorem piAny {e : Expr} {te : TE} {nm : Str} {np : Pos} (he : PE X e te) : PI X (.Name nm np) e (iAny X.K te) := by
  intro pins s σ H R I h
  refine thn (he pins s σ H _ I h) fun v s1 ⟨x, H1, I1, r1, q1⟩ => ?_
  have fp : ∀ b ∈ [s1.heap.objs.size], FpOk X pins H1 b := fun b hb => by
    have e : b = s1.heap.objs.size := by simpa using hb
    subst e
    exact I1.fpOk (Nat.le_refl _) (I1.hok.fresh (Nat.le_refl _))
  rcases q1 with ⟨a, xs, rfl, hq, q⟩ | ⟨a, xs, rfl, hq, q⟩ | ⟨z, rfl, q⟩
  · cases r1
    obtain ⟨its, rv, p, hz⟩ := I1.list hq
    exact wpAny_pyIter_list p.isList ⟨s1.heap.objs.size, [s1.heap.objs.size], _, _, H1, rfl, I1.kept (t' := s1.toks) fun b o e => Heap.get?_push_of_some _ e, turn_list a _, ⟨_, Heap.get?_push_size _ rfl, rfl, rfl⟩, fp, q⟩
  · cases r1
    obtain ⟨its, rv, p, hz⟩ := I1.tuple hq
    exact wpAny_pyIter_tuple (show s1.heap.IsTuple a its.toArray from p) ⟨s1.heap.objs.size, [s1.heap.objs.size], _, _, H1, rfl, I1.kept (t' := s1.toks) fun b o e => Heap.get?_push_of_some _ e, turn_tuple a _, ⟨_, Heap.get?_push_size _ rfl, rfl, rfl⟩, fp, q⟩
  · obtain ⟨t, rfl⟩ := r1
    cases ha : z.cps.all (· < 128) with
    | false =>
      exact wpAny_pyIter_wide ha ⟨s1.heap.objs.size, [s1.heap.objs.size], _, _, H1, rfl, I1.kept (t' := s1.toks) fun b o e => Heap.get?_push_of_some _ e, turn_str (ty := "str_iterator") _ z t (fun _ _ _ _ _ _ h1 h2 h3 => wpAny_pyNext_wide_item h1 h2 h3) (fun _ _ _ _ _ h0 h1 h2 h3 => wpAny_pyNext_wide_end h0 h1 h2 h3)
        (fun _ _ _ _ _ h1 h2 => wpAny_pyIter_striter_wide h1 h2), ⟨_, Heap.get?_push_size _ rfl, rfl, rfl⟩, fp, q⟩
    | true =>
      exact wpAny_pyIter_ascii ha ⟨s1.heap.objs.size, [s1.heap.objs.size], _, _, H1, rfl, I1.kept (t' := s1.toks) fun b o e => Heap.get?_push_of_some _ e, turn_str (ty := "str_ascii_iterator") _ z t (fun _ _ _ _ _ _ h1 h2 h3 => wpAny_pyNext_ascii_item h1 h2 h3) (fun _ _ _ _ _ h0 h1 h2 h3 => wpAny_pyNext_ascii_end h0 h1 h2 h3)
        (fun _ _ _ _ _ h1 h2 => wpAny_pyIter_striter_ascii h1 h2), ⟨_, Heap.get?_push_size _ rfl, rfl, rfl⟩, fp, q⟩
theorem walk_tx (l : List Nat) : Walk (Its (tx l)) (l.map fun c => vt [c]) (fun _ => True) := walk_str
theorem sum_lens (ls : List (List Nat)) : ((ls.map tx).map (·.length)).sum = ls.flatten.length := by
  induction ls with
  | nil => rfl
  | cons l r ih => rw [List.map_cons, List.map_cons, List.sum_cons, ih, tx_len, List.flatten_cons, List.length_append]
def between (sep : List Nat) : List (List Nat) → List Nat
  | [] => []
  | [l] => l
  | l :: m :: r => l ++ sep ++ between sep (m :: r)
theorem between_nil (ls : List (List Nat)) : between [] ls = ls.flatten := by
  induction ls with
  | nil => rfl
  | cons l r ih =>
    cases r with
    | nil => simp [between]
    | cons m r => unfold between; rw [ih]; simp
theorem tx_join (sep : List Nat) : ∀ ls : List (List Nat), Txt.join (tx sep) (ls.map tx) = tx (between sep ls) := by
  intro ls
  show Builtin.Str.glued (tx sep) (ls.map tx) = _
  rw [StrLaws.glued_eq_join]
  induction ls with
  | nil => rfl
  | cons l r ih =>
    cases r with
    | nil => rfl
    | cons m r =>
      rw [List.map_cons, List.map_cons]
      show tx l ++ tx sep ++ Str.join (tx sep) (tx m :: r.map tx) = _
      rw [List.map_cons] at ih
      rw [ih, tx_app, tx_app]
      rfl
def SignOk (z : Str) : Prop := z.length ≤ 100000 ∧ ∀ c ∈ z.cps.toList, c < 16 ^ 8
def PF (X : Cx) (e : Expr) (t : St → Hp → (Str → Hp → Prop) → Prop) : Prop := ∀ (pins : List (Addr × Obj)) (s : Shared) (σ : St) (H : Hp) (Q : Str → Hp → Prop), Inv X pins σ H s → t σ H Q →
  wpAny (model X.prog X.w) X.A (eval e X.env) (fun u s' => ∃ z tk H', u = .str z tk ∧ Inv X pins σ H' s' ∧ Q z H') X.xe s
theorem pf_str {z : Str} {j pos} : PF X (.Constant (.str z) j pos) (fun _ H Q => Q z H) := fun _ _ _ H _ I h => Calls.Constant_str ⟨z, _, H, rfl, I.tok _, h⟩
theorem pf_repr {e : Expr} {te : TE} {pos : Pos} (he : PE X e te) : PF X (.FormattedValue e 114 none pos) (fun σ H Q => te σ H fun x H1 => ∃ z, x = .str z ∧ SignOk z ∧ ∀ y : Str, y.length ≤ 10 * z.length + 2 → Q y H1) := by
  intro pins s σ H Q I h
  refine wpAny_FormattedValue_repr (thn (he pins s σ H _ I h) fun v s1 ⟨x, H1, I1, r1, z, e1, hz, q⟩ => ?_)
  subst e1
  obtain ⟨t, rfl⟩ := r1
  have hl := StrLaws.reprText_len z hz.2
  have hs : (PySem.reprText z).length ≤ sizeLine := by have := hz.1; rw [sizeLine_eq]; omega
  refine wpAny_pyReprObj_str ?_ hs
  exact wpAny_formatField_str ⟨_, _, H1, rfl, I1.tok _, q _ hl⟩ ⟨_, _, H1, rfl, I1.tok _, q _ hl⟩ hs
def PFs (X : Cx) (es : List Expr) (t : Str → St → Hp → (Str → Hp → Prop) → Prop) : Prop := ∀ (acc : Str) (pins : List (Addr × Obj)) (s : Shared) (σ : St) (H : Hp) (Q : Str → Hp → Prop), Inv X pins σ H s → t acc σ H Q →
  Joins (model X.prog X.w) X.A X.xe (evalEach es X.env) acc (fun out s' => ∃ H', Inv X pins σ H' s' ∧ Q out H') s
theorem pfs_nil : PFs X [] (fun acc _ H Q => Q acc H) := fun acc pins s σ H Q I h => ⟨H, I, h⟩
theorem pfs_cons {e : Expr} {es : List Expr} {t : St → Hp → (Str → Hp → Prop) → Prop} {u : Str → St → Hp → (Str → Hp → Prop) → Prop} (he : PF X e t) (hs : PFs X es u) :
    PFs X (e :: es) (fun acc σ H Q => t σ H fun z H1 => (acc ++ z).length ≤ sizeLine ∧ u (acc ++ z) σ H1 Q) := by
  intro acc pins s σ H Q I h
  show wpAny _ _ (eval e X.env) _ _ s
  exact thn (he pins s σ H _ I h) fun v s1 ⟨z, tk, H1, e1, I1, hz, q⟩ => ⟨z, tk, e1, hz, hs (acc ++ z) pins s1 σ H1 Q I1 q⟩
def tJoined (u : Str → St → Hp → (Str → Hp → Prop) → Prop) : TE := fun σ H Q => u Str.empty σ H fun out H1 => out.length ≤ sizeLine ∧ Q (.str out) H1
theorem joins_mono {M : Model} {A : Around} {E : Value → Shared → Prop} : ∀ (ps : List (Sem Value)) (acc : Str) (Q Q' : Str → Shared → Prop) (s : Shared), (∀ z s, Q z s → Q' z s) → Joins M A E ps acc Q s → Joins M A E ps acc Q' s
  | [], _, _, _, _, k, h => k _ _ h
  | p :: ps, acc, Q, Q', s, k, h => thn h fun v s1 ⟨y, t, e, hz, hr⟩ => ⟨y, t, e, hz, joins_mono ps _ Q Q' s1 k hr⟩
theorem pe_joined {e1 e2 : Expr} {es : List Expr} {u : Str → St → Hp → (Str → Hp → Prop) → Prop} {pos : Pos} (h : PFs X (e1 :: e2 :: es) u) : PE X (.JoinedStr (e1 :: e2 :: es) pos) (tJoined u) := by
  intro pins s σ H Q I hq
  refine wpAny_JoinedStr (joins_mono _ _ _ _ _ (fun z s' ⟨H', I', hz, q⟩ => ⟨hz, .str z, H', I'.tok _, ⟨_, rfl⟩, q⟩) (h Str.empty pins s σ H _ I hq))
end
end L2
set_option maxHeartbeats 4000000
namespace L2
open PySem PySem.Spec PyProof.Rows
def addNew (acc : List Nat) (c : Nat) : List Nat := if c ∈ acc then acc else acc ++ [c]
def firsts (l : List Nat) : List Nat := l.foldl addNew []
def memb (l : List Nat) : Str → Bool := fun z => decide (∃ c ∈ firsts l, z = tx [c])
def SignSet (P : Program) (w : World) (h : Heap) (a : Addr) (l : List Nat) : Prop := h.SetOf (strKind P w) a (memb l) (firsts l).length
theorem SignSet.at {P : Program} {w : World} {h h' : Heap} {a : Addr} {l : List Nat} (S : SignSet P w h a l) (k : ∀ o, h.get? a = some o → h'.get? a = some o) : SignSet P w h' a l := by
  obtain ⟨o, es, ep, tb, ho, r⟩ := S
  exact ⟨o, es, ep, tb, k o ho, r⟩
section
variable {prog : Program} {w : World} {A : Around} {R : Result → Shared → Prop} {I : Addr} {fp wr : List Addr} {G : Array GenState → Array GenState → Prop} {l : List Nat} {St : Nat → Shared → Prop}
end
namespace SetF
end SetF
section
variable {prog : Program} {w : World} {A : Around} {E : Value → Shared → Prop} {s : Shared}
end
end L2
set_option maxHeartbeats 4000000
namespace L2
open PySem PySem.Spec PyProof.Rows
structure PAs (X : Cx) (es : List Expr) (t : TA) : Prop where
  h : PA X es t
theorem pas_nil {X : Cx} : PAs X [] tNil := ⟨pa_nil⟩
theorem pas_cons {X : Cx} {e : Expr} {te : TE} {es : List Expr} {t : TA} (ha : PE X e te) (hr : PAs X es t) (hs : starEach (e :: es) X.env = (false, eval e X.env) :: starEach es X.env := by rfl) : PAs X (e :: es) (tCons te t) := ⟨pa_cons ha hr.h hs⟩
section
variable {X : Cx}
theorem truth_at {bs : List Bool} {us : List Value} (r : Vals (bs.map V.bl) us) (A : Around) : TruthOf X.prog X.w A (fun i v => us.toArray[i]? = some v) (fun i => bs.getD i false) := by
  intro i v s Q E hv hq
  have hv' : us[i]? = some v := by simpa using hv
  have hl := r.length
  rw [List.length_map] at hl
  have hi : i < bs.length := by have := (List.getElem?_eq_some_iff.mp hv').1; omega
  obtain ⟨u, hu, ru⟩ := r.get (i := i) (x := .bl bs[i]) (by rw [List.getElem?_map, List.getElem?_eq_getElem hi]; rfl)
  rw [hv'] at hu; cases hu
  cases (show v = Value.bool bs[i] from ru)
  refine wpAny_truthy_bool ?_
  have e : bs.getD i false = bs[i] := by rw [List.getD_eq_getElem?_getD, List.getElem?_eq_getElem hi]; rfl
  rw [← e]; exact hq
theorem all_range (bs : List Bool) : (List.range bs.length).all (fun i => bs.getD i false) = bs.all id := by
  induction bs with
  | nil => rfl
  | cons b r ih =>
    rw [List.length_cons, List.range_succ_eq_map, List.all_cons, List.all_map, List.all_cons, ← ih]
    rfl
theorem callAll (hc : X.calm = true) : CallR X (.builtin "all") (fun xs H Q => ∃ (p : Addr) (bs : List Bool), xs = [.ref p] ∧ SqL X.K H p (bs.map V.bl) ∧ Q (.bl (bs.all id)) H) := by
  intro pins s σ H vs us Q I r h
  obtain ⟨p, bs, rfl, hp, q⟩ := h
  obtain ⟨u, rfl, ru⟩ := vals1 r
  cases (show u = Value.ref p from ru)
  obtain ⟨its, rv, pl, _⟩ := I.list hp
  have hlen : its.toArray.size = bs.length := by have := rv.length; rw [List.length_map] at this; simp [this]
  have hne : p ≠ s.heap.objs.size := by obtain ⟨o, ho, _⟩ := pl.isList; exact Nat.ne_of_lt (Heap.lt_size ho)
  have hh := I.ok.hd hc
  refine call_all_walk (wpAny_pyIter_list pl.isList ⟨s.heap.objs.size, _, _, _, _, _, fun i => bs.getD i false, rfl, Walks.list (by simp [hh]) _ p hne its.toArray, ⟨⟨_, Heap.get?_push_size _ rfl, rfl, rfl⟩, pl.isList.push _⟩, truth_at rv _, fun h' tk k => ?_⟩)
  rw [hlen, all_range]
  refine ⟨.bl _, H, I.kept (t' := tk) fun b u e => k b u ?_ (Heap.get?_push_of_some _ e), rfl, q⟩
  intro z
  exact absurd (Heap.lt_size e) (by rw [List.mem_singleton.mp z]; exact Nat.lt_irrefl _)
theorem vals_signs : ∀ (l : List Nat) (us : List Value), us.length = l.length → (∀ (j : Nat) v, us[j]? = some v → SignAt (tx l) j v) → Vals (l.map fun c => vt [c]) us := by
  intro l us hl h
  have key : ∀ (us : List Value) (m : Nat), us.length + m = l.length → (∀ (j : Nat) v, us[j]? = some v → SignAt (tx l) (m + j) v) → Vals ((l.drop m).map fun c => vt [c]) us := by
    intro us
    induction us with
    | nil => intro m hm _; rw [List.drop_of_length_le (by simp at hm; omega)]; exact .nil
    | cons u r ih =>
      intro m hm hs
      rw [List.length_cons] at hm
      obtain ⟨c, tk, hc, rfl⟩ := hs 0 u rfl
      have hc' : l[m]? = some c := by rw [← tx_cps l, Array.getElem?_toList]; exact hc
      obtain ⟨hlt, e⟩ := List.getElem?_eq_some_iff.mp hc'
      rw [List.drop_eq_getElem_cons hlt, e, List.map_cons]
      refine .cons ⟨tk, rfl⟩ (ih (m + 1) (by omega) fun j v hv => ?_)
      have := hs (j + 1) v hv
      rw [show m + (j + 1) = m + 1 + j by omega] at this
      exact this
  have := key us 0 (by omega) (fun j v hv => by rw [Nat.zero_add]; exact h j v hv)
  rwa [List.drop_zero] at this
theorem callListS (hc : X.calm = true) : CallR X (.type "list") (fun xs H Q => ∃ l, xs = [vt l] ∧ l.length ≤ sizeLine ∧ ∀ p, H p = none → Q (.ref p) (upd H p (.lst (l.map fun c => vt [c])))) := by
  intro pins s σ H vs us Q I r h
  obtain ⟨l, rfl, hl, q⟩ := h
  obtain ⟨u, rfl, ru⟩ := vals1 r
  obtain ⟨t, rfl⟩ := ru
  have sz : (tx l).cps.size = l.length := List.size_toArray ..
  refine call_list_str (I.ok.hd hc) (tx l) t (fun h' tk acc c' k e it => ?_) (by rw [sz]; exact hl)
  have hv := vals_signs l acc.toList (by rw [Array.length_toList, it.1, sz]) fun j v hv => it.2 j v (by simpa using hv)
  refine ⟨.ref s.heap.objs.size, _, I.laid (o := .lst (l.map fun c => vt [c])) k (Nat.le_refl _) ⟨by rw [List.length_map]; exact hl, acc.toList, c', hv, by simpa using e⟩, rfl, q _ (I.hok.fresh (Nat.le_refl _))⟩
def callList (hc : X.calm = true) := (call_list_of (X := X)).or (callListS hc)
theorem eqVs_min {xs ys : List V} : ((List.range (min xs.length ys.length)).all (fun j => eqV (xs.getD j .non) (ys.getD j .non)) && xs.length == ys.length) = eqVs xs ys := by
  by_cases h : xs.length = ys.length
  · rw [h, Nat.min_self, beq_self_eq_true, Bool.and_true, ← h, eqVs_all h]
  · rw [eqVs_len h, beq_eq_false_iff_ne.mpr h, Bool.and_false]
def rEqT (K : PySem.W.Frag) (neg : Bool) : R2 := fun x y H Q => ∃ a b xs ys, x = .ref a ∧ y = .ref b ∧ SqT K H a xs ∧ SqT K H b ys ∧ xs.all flatV = true ∧ ys.all flatV = true ∧ Q (.bl (if neg then !eqVs xs ys else eqVs xs ys)) H
theorem op_eqT (hu : X.A.units < cLine) : OpR X (compareOp .Eq) (rEqT X.K false) := by
  intro pins s σ H x y v u Q I rx ry h
  obtain ⟨a, b, xs, ys, rfl, rfl, ha, hb, fx, fy, q⟩ := h
  cases (show v = Value.ref a from rx)
  cases (show u = Value.ref b from ry)
  obtain ⟨its, rv, p, _⟩ := I.tuple ha
  obtain ⟨its2, rv2, p2, _⟩ := I.tuple hb
  refine SeqAt.eq_tupleAt (e := fun j => eqV (xs.getD j .non) (ys.getD j .non)) p p2 hu (fun j h1 h2 => eqAt_items rv rv2 fx fy j h1 h2) ?_
  refine ⟨.bl _, H, I, rfl, ?_⟩
  rw [show its.toArray.size = xs.length by simp [rv.length], show its2.toArray.size = ys.length by simp [rv2.length], eqVs_min]
  exact q
theorem op_neT (hu : X.A.units < cLine) : OpR X (compareOp .NotEq) (rEqT X.K true) := by
  intro pins s σ H x y v u Q I rx ry h
  obtain ⟨a, b, xs, ys, rfl, rfl, ha, hb, fx, fy, q⟩ := h
  cases (show v = Value.ref a from rx)
  cases (show u = Value.ref b from ry)
  obtain ⟨its, rv, p, _⟩ := I.tuple ha
  obtain ⟨its2, rv2, p2, _⟩ := I.tuple hb
  refine SeqAt.RcNeAt.tuples (e := fun j => eqV (xs.getD j .non) (ys.getD j .non)) p p2 hu (fun j h1 h2 => eqAt_items rv rv2 fx fy j h1 h2) X.prog X.w X.xe _ ?_
  refine ⟨.bl _, H, I, rfl, ?_⟩
  rw [show its.toArray.size = xs.length by simp [rv.length], show its2.toArray.size = ys.length by simp [rv2.length], eqVs_min]
  exact q
def oEqA (hu : X.A.units < cLine) := (op_eq (X := X)).or ((op_eqL hu).or (op_eqT hu))
theorem Inv.big {pins : List (Addr × Obj)} {σ : St} {H : Hp} {s : Shared} (I : Inv X pins σ H s) : sysModules < s.heap.objs.size :=
  Nat.lt_trans (by decide) (I.mod.glob.keeps I.bk).lt
def tDNewK : TE := fun _ H Q => ∀ p, H p = none → Q (.ref p) (upd H p (.dK []))
theorem pe_dnewK {pos : Pos} : PE X (.Dict [] [] pos) tDNewK := fun pins s σ H Q I h =>
  wpAny_Dict_empty ⟨.ref s.heap.objs.size, _, I.laid (a := s.heap.objs.size) (o := .dK []) (t' := s.toks) (fun _ _ q => Heap.get?_push_of_some _ q) (Nat.le_refl _)
    ⟨Nat.zero_le _, beq_eq_false_iff_ne.mpr (Ne.symm (Nat.ne_of_lt I.big)), [], .nil, Heap.DictOf.new s.heap⟩, rfl, h _ (I.hok.fresh (Nat.le_refl _))⟩
end
end L2
namespace L2
open PySem PySem.Spec PyProof.Rows
section
variable {X : Cx}
theorem vals_intsAt : ∀ {ns : List Int} {us : List Value}, Vals (ns.map V.int) us → ∀ (j : Nat) v, us[j]? = some v → ∃ t, v = .int (ns.getD j 0) t
  | [], _, r, j, v, h => by
    cases r; cases h
  | n :: ns, _, r, j, v, h => by
    cases r with
    | cons a r =>
      cases j with
      | zero => cases h; obtain ⟨t, e⟩ := a; exact ⟨t, e⟩
      | succ j => exact vals_intsAt r j v h
theorem preSum_list : ∀ (ns : List Int), PySem.preSum (fun j => ns.getD j 0) ns.length = ns.sum := by
  intro ns
  have go : ∀ (l : List Int) (k : Nat), k ≤ l.length → PySem.preSum (fun j => l.getD j 0) k = (l.take k).sum := by
    intro l k
    induction k with
    | zero => intro _; rw [List.take_zero]; rfl
    | succ k ih =>
      intro h
      show PySem.preSum _ k + l.getD k 0 = _
      rw [ih (by omega), List.take_add_one, List.sum_append_int, List.getElem?_eq_getElem (by omega), List.getD_eq_getElem?_getD, List.getElem?_eq_getElem (by omega)]
      simp
  rw [go ns _ (Nat.le_refl _), List.take_length]
theorem callSum (hc : X.calm = true) : CallR X (.builtin "sum") (fun xs H Q => ∃ (p : Addr) (ns : List Int), xs = [.ref p] ∧ SqL X.K H p (ns.map V.int) ∧ Q (.int ns.sum) H) := by
  intro pins s σ H vs us Q I r h
  obtain ⟨p, ns, rfl, hp, q⟩ := h
  obtain ⟨u, rfl, ru⟩ := vals1 r
  cases (show u = Value.ref p from ru)
  obtain ⟨its, rv, pl, _⟩ := I.list hp
  have hlen : its.toArray.size = ns.length := by have := rv.length; rw [List.length_map] at this; simp [this]
  have hl := pl.isList
  obtain ⟨o, ho, _⟩ := id hl
  have hne : p ≠ s.heap.objs.size := Nat.ne_of_lt (Heap.lt_size ho)
  have hh := I.ok.hd hc
  have W := (Walks.list (prog := X.prog) (w := X.w) (A := X.A.in1) hh s.heap.objs.size p hne its.toArray).toS
  rw [hlen] at W
  refine call_sum_walkAnyS (wpAny_pyIter_list hl ?_)
  refine ⟨s.heap.objs.size, _, _, _, _, _, _, fun j => ns.getD j 0, rfl, W, ⟨⟨_, Heap.get?_push_size _ rfl, rfl, rfl⟩, hl.push _⟩, fun b hb => ?_, fun i v hP => vals_intsAt rv i v (by simpa using hP), fun s' t' hm => ?_⟩
  · rcases List.mem_cons.mp hb with rfl | hb
    · exact Heap.lt_size (Heap.get?_push_size _ rfl)
    · obtain rfl := List.mem_singleton.mp hb
      exact Heap.lt_size (Heap.get?_push_of_some _ ho)
  · obtain ⟨h', g', d', tk', os'⟩ := s'
    have e1 : g' = s.gens := hm.gens
    have e2 : d' = s.drawn := hm.drawn
    have e3 : os' = s.os := hm.os
    subst e1 e2 e3
    rw [preSum_list]
    exact ⟨.int _, H, I.kept (t' := tk') fun b u e => hm.heap b u (fun hb => absurd (Heap.lt_size e) ((List.mem_singleton.mp hb) ▸ Nat.lt_irrefl _)) (Heap.get?_push_of_some _ e), ⟨_, rfl⟩, q⟩
end
end L2
namespace L2
open PySem PySem.Spec PyProof.Rows
section
variable {K : PySem.W.Frag}
theorem same_new {H : Hp} {p : Addr} (h : H p = none) (o : HO) : Same H (upd H p o) := fun b u q => by rw [upd_ne (ne_of_none q h)]; exact q
theorem same_over {H H3 : Hp} {p : Addr} (s : Same H H3) (h : H p = none) (o : HO) : Same H (upd H3 p o) := fun b u q => by rw [upd_ne (ne_of_none q h)]; exact s b u q
theorem same_tup {H H' : Hp} {a : Addr} {xs : List V} (e : Same H H') (h : SqT K H a xs) : SqT K H' a xs := by
  rcases h with (h | ⟨o, h⟩) | h
  · exact .inl (.inl (e _ _ h))
  · exact .inl (.inr ⟨o, e _ _ h⟩)
  · exact .inr h
theorem same_lst {H H' : Hp} {a : Addr} {xs : List V} (e : Same H H') (h : SqL K H a xs) : SqL K H' a xs := e.seq h
theorem same_at {H H' : Hp} {a : Addr} {o : HO} (e : Same H H') (h : H a = some o) : H' a = some o := e _ _ h
theorem new_tup {H : Hp} {p a : Addr} {o : HO} {xs : List V} (n : H p = none) (h : SqT K H a xs) : SqT K (upd H p o) a xs := same_tup (same_new n o) h
theorem new_lst {H : Hp} {p a : Addr} {o : HO} {xs : List V} (n : H p = none) (h : SqL K H a xs) : SqL K (upd H p o) a xs := same_lst (same_new n o) h
theorem new_at {H : Hp} {p a : Addr} {o u : HO} (n : H p = none) (h : H a = some u) : upd H p o a = some u := same_new n o _ _ h
theorem new_same {H H1 : Hp} {p : Addr} {o : HO} (n : H1 p = none) (h : Same H H1) : Same H (upd H1 p o) := h.trans (same_new n o)
theorem ne_at {H : Hp} {p a : Addr} {o u : HO} (n : a ≠ p) (h : H a = some u) : upd H p o a = some u := by rw [upd_ne n]; exact h
theorem ne_tup {H : Hp} {p a : Addr} {o : HO} {xs : List V} (n : a ≠ p) (h : SqT K H a xs) : SqT K (upd H p o) a xs := by
  rcases h with (h | ⟨u, h⟩) | h
  · exact .inl (.inl (ne_at n h))
  · exact .inl (.inr ⟨u, ne_at n h⟩)
  · exact .inr h
theorem ne_lst {H : Hp} {p a : Addr} {o : HO} {xs : List V} (n : a ≠ p) (h : SqL K H a xs) : SqL K (upd H p o) a xs := by
  rcases h with (h | ⟨u, h⟩) | h
  · exact .inl (.inl (ne_at n h))
  · exact .inl (.inr ⟨u, ne_at n h⟩)
  · exact .inr h
theorem over_same {H H1 : Hp} {p : Addr} {o : HO} (n : H p = none) (h : Same H H1) : Same H (upd H1 p o) := same_over h n o
theorem ixL {H : Hp} {Q : VK} {p : Addr} {xs : List V} {i : Int} {v : V} (h : SqL K H p xs) (e : atI xs i = some v) (q : Q v H) : rIx K (.ref p) (.int i) H Q := .inl ⟨p, xs, i, v, rfl, rfl, h, e, q⟩
theorem ixS {H : Hp} {Q : VK} {l : List Nat} {i : Int} {c : Nat} (h : l.length ≤ sizeLine) (e : atI l i = some c) (q : Q (vt [c]) H) : rIx K (vt l) (.int i) H Q := .inr (.inr ⟨tx l, i, c, rfl, rfl, by rw [tx_len]; exact h, e, q⟩)
theorem tyL {H : Hp} {p : Addr} {xs : List V} (h : SqL K H p xs) : tyV K "list" (.ref p) H := .inl ⟨rfl, _, h⟩
theorem cutT {H : Hp} {Q : VK} {l : List Nat} {lo hi : Option Int} (z : l.length ≤ sizeLine) (q : Q (vt (cutL l lo hi)) H) : rSlS (vt l) lo hi H Q := ⟨tx l, rfl, by rw [tx_len]; exact z, q⟩
theorem lenvS {H : Hp} {l : List Nat} (h : l.length ≤ sizeLine) : LenV K (vt l) H l.length := ⟨by rw [tx_len]; exact h, (tx_len l).symm⟩
theorem with_restL {α : Type} {F G : α → Prop} (S S' : α → Prop) (k : ∀ n0, S n0 → (∀ n, S' n → F n) → G n0) (r : ∀ n, S' n → F n) : ∀ n0, S n0 → G n0 := fun n0 h => k n0 h r
theorem iteU {c A B : Prop} {inst : Decidable c} (h1 : c → A) (h2 : ¬ c → B) : @ite Prop c inst A B := ite2 h1 h2
theorem ifT {c A B : Prop} [Decidable c] (h : c) (a : A) : if decide c = true then A else B := by rw [decide_eq_true h]; exact iteT a
theorem ifF {c A B : Prop} [Decidable c] (h : ¬ c) (b : B) : if decide c = true then A else B := by rw [decide_eq_false h]; exact iteF b
theorem ifnT {c A B : Prop} [Decidable c] (h : ¬ c) (a : A) : if (!decide c) = true then A else B := by rw [decide_eq_false h]; exact iteT a
theorem ifnF {c A B : Prop} [Decidable c] (h : c) (b : B) : if (!decide c) = true then A else B := by rw [decide_eq_true h]; exact iteF b
theorem if2 {c A B : Prop} [Decidable c] (a : c → A) (b : ¬ c → B) : if decide c = true then A else B := by
  by_cases h : c
  · exact ifT h (a h)
  · exact ifF h (b h)
theorem ifn2 {c A B : Prop} [Decidable c] (a : ¬ c → A) (b : c → B) : if (!decide c) = true then A else B := by
  by_cases h : c
  · exact ifnF h (b h)
  · exact ifnT h (a h)
theorem vtx {l m : List Nat} : (vt l = vt m) ↔ l = m := ⟨fun h => tx_inj (V.str.inj h), congrArg _⟩
theorem cdivK {i j : Int} (h : 0 < j) (h2 : j < 1000000000) : CDivL i j := by
  refine ⟨by omega, Nat.lt_of_lt_of_le (show j.natAbs < 2 ^ 30 by omega) (Nat.pow_le_pow_right (by decide) (by decide))⟩
def MulOk (i j : Int) : Prop := CMul i j ∨ CMulL i j ∨ CMulB i j
theorem mulN {X : Cx} : OpR X (binaryOp .Mult) (rI MulOk fun i j => .int (i * j)) := opI fun _ _ _ _ _ _ _ hc q => by
  rcases hc with hc | hc | hc
  · exact mul_int q hc.ok
  · exact mul_int q (PySem.IntMulOk.of_le (bits_of hc.1) (bits_of hc.2) (by decide))
  · exact mul_int q (PySem.IntMulOk.of_le hc.1 hc.2 (by decide))
def rCatX : R2 := fun x y H Q => ∃ l m, x = vt l ∧ y = vt m ∧ l.length + m.length ≤ sizeLine ∧ Q (vt (l ++ m)) H
theorem op_catX {X : Cx} : OpR X (binaryOp .Add) rCatX := fun pins s σ H x y v u Q I rx ry h => by
  obtain ⟨l, m, rfl, rfl, hz, q⟩ := h
  exact op_add_str pins s σ H _ _ v u Q I rx ry ⟨_, _, rfl, rfl, by rw [tx_len, tx_len]; exact hz, by rw [tx_app]; exact q⟩
theorem ip_catX {X : Cx} : OpR X (inplaceOp .Add) rCatX := fun pins s σ H x y v u Q I rx ry h => by
  obtain ⟨l, m, rfl, rfl, hz, q⟩ := h
  exact iop_add_str pins s σ H _ _ v u Q I rx ry ⟨_, _, rfl, rfl, by rw [tx_len, tx_len]; exact hz, by rw [tx_app]; exact q⟩
def rRepX : R2 := fun x y H Q => ∃ l n, x = vt l ∧ y = .int n ∧ (0 ≤ n ∧ n ≤ 4000 ∧ l.length ≤ 4000) ∧ Q (vt (List.replicate n.toNat l).flatten) H
theorem op_repX {X : Cx} : OpR X (binaryOp .Mult) rRepX := fun pins s σ H x y v u Q I rx ry h => by
  obtain ⟨l, n, rfl, rfl, ⟨h1, h2, h3⟩, q⟩ := h
  exact op_mul_str pins s σ H _ _ v u Q I rx ry ⟨_, _, rfl, rfl, h1, h2, by rw [tx_len]; exact h3, by rw [tx_rep]; exact q⟩
def oMulN {X : Cx} := (mulN (X := X)).or (op_repX.or op_rep)
def oAddN {X : Cx} := (op_add (X := X)).or (op_catX.or (op_cat.or op_catT))
theorem catX {H : Hp} {Q : VK} {l m : List Nat} (z : l.length + m.length ≤ sizeLine) (q : Q (vt (l ++ m)) H) : rCatX (vt l) (vt m) H Q := ⟨l, m, rfl, rfl, z, q⟩
theorem mulL {i j : Int} (h1 : -(2 ^ 64) < i) (h2 : i < 2 ^ 64) : MulOk i j := .inl (.inl ⟨h1, h2⟩)
theorem mulR {i j : Int} (h1 : -(2 ^ 64) < j) (h2 : j < 2 ^ 64) : MulOk i j := .inl (.inr ⟨h1, h2⟩)
theorem ip_addN {X : Cx} : OpR X (inplaceOp .Add) (rI0 fun i j => .int (i + j)) := opI0 fun _ _ _ _ _ _ _ q => PyProof.Rows.iadd_int q
def ipAdd {X : Cx} := (ip_addN (X := X)).or ip_catX
theorem lc_vals {J : It} {xs : List V} {Ok : Hp → Prop} (Wk : Walk J xs Ok) {te : TE} {H : Hp} {D : Addr} {Q : VK} {caps : St} (R : Nat → V → Prop) (hl : ∀ ys, Ok (upd H D (.lst ys))) (hz : xs.length < sizeLine)
    (hs : ∀ (i : Nat) (x : V) (ys : List V) (C : VK), xs[i]? = some x → (∀ v, R i v → C v (upd H D (.lst ys))) → te (some x :: caps) (upd H D (.lst ys)) C)
    (hd : ∀ ys, ys.length = xs.length → (∀ (j : Nat) v, ys[j]? = some v → R j v) → Q (.ref D) (upd H D (.lst ys))) : LCgo J (gName 0) tTrue te D (none :: caps) (upd H D (.lst [])) Q := by
  refine lc_walk Wk (fun i σ H' => ∃ r ys, σ = r :: caps ∧ H' = upd H D (.lst ys) ∧ ys.length = i ∧ ∀ (j : Nat) v, ys[j]? = some v → R j v) ⟨none, [], rfl, rfl, rfl, fun j v h => nomatch h⟩ (fun i σ H' _ ⟨_, _, _, e, _⟩ => by rw [e]; exact hl _) ?_ ?_
  · rintro i x σ H' hx ⟨r, ys, rfl, rfl, hy, hR⟩
    have hi := (List.getElem?_eq_some_iff.mp hx).1
    simp only [gName, tTrue, if_true]
    refine hs i x ys _ hx fun v hv => ⟨ys, upd_same, by omega, _, _, rfl, upd_upd, by rw [List.length_append, hy]; rfl, fun j u hu => ?_⟩
    by_cases z : j < ys.length
    · rw [List.getElem?_append_left z] at hu; exact hR j u hu
    · rw [List.getElem?_append_right (by omega)] at hu
      have : j - ys.length = 0 := by
        have := (List.getElem?_eq_some_iff.mp hu).1
        simp at this; omega
      rw [this] at hu
      cases hu
      have : j = i := by omega
      rw [this]; exact hv
  · rintro σ H' ⟨r, ys, rfl, rfl, hy, hR⟩
    exact hd ys hy hR
end
end L2
namespace PySem
theorem wpAny_excMatches_up {M : Model} {A : Around} {E : Value → Shared → Prop} {nm q : Str} {R C N : Addr} {bs bm : List Value} {hdct : Bool} {sn : List Str} {sub : List Value} {ab : Bool} {col : Option Bool} {dd : Option Addr} {k0 k1 k2 k3 k5 : Option Value} {newId : String} {K : PySem.W.Frag} {h : Heap} {g : Array GenState} {d : Drawn} {t : Nat} {os : OsState} {e : Addr} {oe : Obj} {Q : Bool → Shared → Prop}
    (X : K.In h) (hup : PySem.W.mroIn K R (.ref C) = some true) (hC : h.get? C = some (excClassObj nm q C N bs bm hdct sn sub ab col dd k0 k1 k2 k3 k5 newId)) (he : h.get? e = some oe) (hcls : oe.cls = .ref R) (hbase : bm.contains (.type "BaseException") = true)
    (hq : Q true ⟨h, g, d, t, os⟩) : wpAny M A (excMatches (.ref e) (.ref C)) Q E ⟨h, g, d, t, os⟩ := by
  have hcB : (Value.ref C :: bm).contains (.type "BaseException") = true := by rw [List.contains_cons, hbase, Bool.or_true]
  have f := tc_notTuple
  unfold excMatches
  repeat (first | (with_reducible refine wpAny_loadPart_at he ?_; rw [hcls]) | with_reducible refine wpAny_loadPart_at hC ?_ | (with_reducible refine wpAny_isSubtype_exc hC ?_; rw [hcB]) | with_reducible refine XT.sub_K X hup ?_ | wp_step)
  exact hq
end PySem
namespace L2
open PySem PySem.Spec PyProof.Rows
def tTryU (K : PySem.W.Frag) (C : Addr) (i : Nat) (tb : Pins → (Value → Shared → Prop) → XS → TS) (th : Pins → Value → TS) : TS := fun D σ H => ∀ pins xe,
  tb pins xe (fun c σ' H' => ∃ R, c = .ref R ∧ PySem.W.mroIn K R (.ref C) = some true ∧ ∀ a, H' a = none → ∀ ps e, th ps e (D.hand i) (σ'.set i (some (.ref a))) (upd H' a (excO a R))) D σ H
section
variable {X : Cx} {C : Addr} {i : Nat} {n x : Str} {body : List Stmt} {b₀ : Stmt} {suite : List Stmt} {np hpos pos : Pos} {tb : Pins → (Value → Shared → Prop) → XS → TS} {th : Pins → Value → TS} {bmB : List Value} {newId : String}
theorem ps_tryU (hA : X.calm = true) (hex : X.ex = []) (hst : X.stack = X.env :: X.outer) (hfr : X.env.frame = some X.env.locals) (hN : X.N.Nodup) (hi : X.N[i]? = some n) (hk : X.env.kindOf n = some .local) (hg : Gl X x) (hm : X.mg x = some (.ref C))
    (hq : PySem.W.excIn X.K C bmB newId = true) (hbase : bmB.contains (.type "BaseException") = true)
    (hb : ∀ (pins : List (Addr × Obj)) (xe : Value → Shared → Prop) (Φ : XS), PassX X.prog X.w (X.tryX pins xe) Φ → PSs (X.tryX pins xe) body (tb pins xe Φ))
    (hh : ∀ (pins : List (Addr × Obj)) (e : Value), PSs (X.handX pins e) (b₀ :: suite) (th pins e)) (hdb : (x == ("__debug__" : Str)) = false := by decide) :
    PS X (.Try body [.ExceptHandler (some (.Name x np)) (some n) (b₀ :: suite) hpos] [] [] pos) (tTryU X.K C i tb th) := by
  intro pins s σ H D I h
  have ok := I.ok
  refine wpAny_Try_except (thn (hb pins _ _ ?_ [] s σ H D (I.tryX _) (h _ _)) fun f s1 z => ?_)
  · intro pins' σ1 H1 s1 e s2 I1 hc
    obtain ⟨a, Cv, H2, rfl, y, R, rfl, hup, hΦ⟩ := hc
    obtain ⟨B, a0, hf, k1, k2, k3⟩ := y.ex
    have hf : Heap.FlyingW B (X.env :: X.outer) a (.ref R) a0 s2.heap := hst ▸ hf
    show wpAny _ _ (noteFrame _ _) _ _ _
    refine wpAny_looks_onW (by rw [ok.frames, hst]) hfr hf fun h4 hh4 hs4 => ?_
    refine wpAny_landsW hh4 fun h5 hf5 hs5 => ?_
    have mv := Fly.move y.un y.hok (hst ▸ hf) k1 k2 k3 hf5.1 (hs4.trans hs5)
    have I5 : Inv X pins σ1 H2 { s2 with heap := h5 } := Inv.untry ok (Inv.call' (s' := { s2 with heap := h5 }) (ch := []) I1 y.os mv.1 mv.2 y.bare fun b z => absurd z (by simp))
    have J5 := I5.handX (.ref a)
    obtain ⟨ob, hob, hobc⟩ := hf5.there
    refine wpAny_handleBy_cons (codeAny_handlers_test ?_) (by intro q; cases q)
    refine ld_glob (X := X.handX pins (.ref a)) J5 hg hm ?_ hdb
    obtain ⟨bm, N, nm, qn, bs, hdct, sn, sub, ab, col, dd, k0, k1', k2', k3', k5, mN, hC, hNs, hni, T⟩ := exc_obj I5.kIn hq
    refine wpAny_excMatches_up I5.kIn hup hC hob hobc (T.hasType hbase) (codeAny_handlers_suite_as ?_)
    refine lands_againW hf5 fun h6 hf6 hs6 => ?_
    have mv6 := Fly.move y.un y.hok (hst ▸ hf) k1 k2 k3 hf6.1 ((hs4.trans hs5).trans hs6)
    have I6 : Inv X pins σ1 H2 { s2 with heap := h6 } := Inv.untry ok (Inv.call' (s' := { s2 with heap := h6 }) (ch := []) I1 y.os mv6.1 mv6.2 y.bare fun b z => absurd z (by simp))
    have lc : ∀ b o, s1.heap.get? b = some o → b ≠ a := fun b o e z => by rw [z, y.new] at e; cases e
    have I7 : Inv X pins σ1 (upd H2 a (excO a R)) { s2 with heap := h6 } := by
      refine I6.adopt y.gone ?_ ?_ (fun x c e => ?_) (fun p hp => ?_) ?_
      · cases q : X.s₀.heap.get? a with
        | none => rfl
        | some o =>
          by_cases hx : a ∈ X.ex
          · rw [hex] at hx; exact absurd hx (by simp)
          · obtain ⟨o1, e1⟩ := I1.base.there a o q hx
            exact absurd rfl (lc a o1 e1)
      · obtain ⟨m, ⟨o, _, _, ho, _⟩, _⟩ := I1.loc
        exact lc _ o ho
      · obtain ⟨v, o, ho, _⟩ := I1.cell x c e
        exact lc _ o ho
      · exact lc _ _ (I1.pin p (List.mem_append_left _ hp)).1
      · obtain ⟨o6, ho6, hc6⟩ := hf6.there
        exact ⟨⟨o6, ho6, hc6⟩, ⟨o6, ho6⟩, fun h1 h2 ⟨o, e1, e2⟩ k => ⟨o, k o e1, e2⟩⟩
    refine store_ok (X := X.handX pins (.ref a)) (v := .ref a) (I7.handX (.ref a)) hN hi (.inl hk) rfl (fun s8 I8 => ?_) (.inr hk)
    refine wpAny_mono (hh pins (.ref a) [] s8 _ _ _ I8 (hΦ a y.gone _ _)) (fun f s9 z => ?_) fun _ _ z => z.elim
    cases f with
    | next => obtain ⟨σ', H', J, q⟩ := z; exact name_gone (X := X) (J.unhand ok) hN hi hk fun s' J' => ⟨_, H', J', q⟩
    | brk => obtain ⟨σ', H', J, q⟩ := z; exact name_gone (X := X) (J.unhand ok) hN hi hk fun s' J' => ⟨_, H', J', q⟩
    | cont => obtain ⟨σ', H', J, q⟩ := z; exact name_gone (X := X) (J.unhand ok) hN hi hk fun s' J' => ⟨_, H', J', q⟩
    | ret u => obtain ⟨v, σ', H', J, r, q⟩ := z; exact name_gone (X := X) (J.unhand ok) hN hi hk fun s' J' => ⟨v, _, H', J', r, q⟩
  · cases f with
    | next => exact wpAny_execs_nil (SP.untry ok z)
    | brk => exact SP.untry ok z
    | cont => exact SP.untry ok z
    | ret u => exact SP.untry ok z
end
end L2
namespace PySem
namespace F
theorem owner_rev : Manifest.owners.lookup (String.ofList ['d', 'e', 's', 'r', 'e', 'v', 'e', 'r'].reverse) = some Manifest.sig_reversed := by kernel_rfl
theorem slot_rev_next : Slot "reversed" "__next__" "reversed.__next__" :=
  .of (owner := "reversed") (n := "__next__") (by rw [typeLookup_type, builtinLookup_eq_fast]; kernel_rfl) (by decide +kernel) (by decide +kernel) (by decide +kernel)
    (by first | exact .inl (by decide +kernel) | exact .inr (by decide +kernel)) (by rw [isSubtype_type]; kernel_rfl)
theorem entry_rev_next : entryFor table "reversed.__next__" = some Builtin.«reversed.__next__» := entryFor_of_tree (by kernel_rfl)
theorem args_rev_next_1 (a : Value) : argsOk "reversed.__next__" ⟨[a], []⟩ := by
  unfold argsOk; rw [signature?_of (id := "reversed.__next__") (n := ['_', '_', 't', 'x', 'e', 'n', '_', '_']) (o := ['d', 'e', 's', 'r', 'e', 'v', 'e', 'r']) (by kernel_rfl) owner_rev]; kernel_rfl
theorem slot_rev_iter : Slot "reversed" "__iter__" "reversed.__iter__" :=
  .of (owner := "reversed") (n := "__iter__") (by rw [typeLookup_type, builtinLookup_eq_fast]; kernel_rfl) (by decide +kernel) (by decide +kernel) (by decide +kernel)
    (by first | exact .inl (by decide +kernel) | exact .inr (by decide +kernel)) (by rw [isSubtype_type]; kernel_rfl)
theorem args_rev_iter_1 (a : Value) : argsOk "reversed.__iter__" ⟨[a], []⟩ := by
  unfold argsOk; rw [signature?_of (id := "reversed.__iter__") (n := ['_', '_', 'r', 'e', 't', 'i', '_', '_']) (o := ['d', 'e', 's', 'r', 'e', 'v', 'e', 'r']) (by kernel_rfl) owner_rev]; kernel_rfl
theorem entry_rev_iter : entryFor table "reversed.__iter__" = some Builtin.«dict_keyiterator.__iter__» :=
  entryFor_alias (id' := "dict_keyiterator.__iter__") (by kernel_rfl) (by first | rfl | decide +kernel | (unfold String.splitOn; simp +decide [String.splitOnAux])) (by decide +kernel) (by kernel_rfl)
theorem slot_rev_hint : Slot "reversed" "__length_hint__" "reversed.__length_hint__" :=
  .of (owner := "reversed") (n := "__length_hint__") (by rw [typeLookup_type, builtinLookup_eq_fast]; kernel_rfl) (by decide +kernel) (by decide +kernel) (by decide +kernel)
    (by first | exact .inl (by decide +kernel) | exact .inr (by decide +kernel)) (by rw [isSubtype_type]; kernel_rfl)
theorem entry_rev_hint : entryFor table "reversed.__length_hint__" = some Builtin.«reversed.__length_hint__» := entryFor_of_tree (by kernel_rfl)
theorem args_rev_hint_1 (a : Value) : argsOk "reversed.__length_hint__" ⟨[a], []⟩ := by
  unfold argsOk; rw [signature?_of (id := "reversed.__length_hint__") (n := ['_', '_', 't', 'n', 'i', 'h', '_', 'h', 't', 'g', 'n', 'e', 'l', '_', '_']) (o := ['d', 'e', 's', 'r', 'e', 'v', 'e', 'r']) (by kernel_rfl) owner_rev]; kernel_rfl
theorem slot_rev_init : Slot "reversed" "__init__" "object.__init__" :=
  .of (owner := "object") (n := "__init__") (by rw [typeLookup_type, builtinLookup_eq_fast]; kernel_rfl) (by decide +kernel) (by decide +kernel) (by decide +kernel)
    (by first | exact .inl (by decide +kernel) | exact .inr (by decide +kernel)) (by rw [isSubtype_type]; kernel_rfl)
theorem called_rev : TypeCalled "reversed" "reversed.__new__" "object.__init__" :=
  ⟨by decide +kernel, by decide +kernel, ⟨_, _, mro_reversed⟩, made_reversed, by decide +kernel, by rw [isSubtype_type]; kernel_rfl, slot_rev_init⟩
theorem str_no_rev : typeLookup (.type "str") "__reversed__" = pure none := by rw [typeLookup_type, builtinLookup_eq_fast]; kernel_rfl
theorem rev_no_len : typeLookup (.type "reversed") "__len__" = pure none := by rw [typeLookup_type, builtinLookup_eq_fast]; kernel_rfl
theorem str_getitem : typeLookup (.type "str") "__getitem__" = pure (some (.builtin "str.__getitem__")) := by rw [typeLookup_type, builtinLookup_eq_fast]; kernel_rfl
end F
section
variable {prog : Program} {w : World} {A : Around} {E : Value → Shared → Prop} {s : Shared}
def revStrObj (x : Str) (t : Tok) (i : Int) : Obj := { cls := .type "reversed", data := .fields #[.str x t, rawInt i] }
theorem code_reversed_str {x : Str} {t : Tok} {Q₁ : Value → Shared → Prop} (hx : x.length ≤ sizeLine)
    (h : ∀ tk, Q₁ (.ref s.heap.objs.size) { s with heap := s.heap.push (revStrObj x t ((x.length : Int) - 1)), toks := tk }) :
    codeAny (model prog w) A (.call (.builtin "reversed.__new__") ⟨[.type "reversed", .str x t], []⟩) (wants Q₁ E) s := by
  refine codeAny_of_tree ?_
  show wpAny _ A.in1 (do checkBuiltinCall "reversed.__new__" ⟨[.type "reversed", .str x t], []⟩; again (.builtin "reversed.__new__" ⟨[.type "reversed", .str x t], []⟩)) _ _ s
  refine wpAny_bind (wpAny_of_eq (F.newCall_reversed_1 _) (wpAny_pure ⟨plainId_quiet F.plain_reversed_new _, codeAny_builtin F.entry_reversed_new ?_⟩))
  rw [Around.under_plainId F.plain_reversed_new _]
  unfold Builtin.«reversed.__new__»
  refine wpAny_bind (wpAny_of_eq (newClass_reversed _) ?_)
  try dsimp only
  refine wpAny_bind (wpAny_of_eq (a := ()) (by first | rfl | kernel_rfl) ?_)
  refine wpAny_bind (wpAny_of_eq (a := ()) (by first | rfl | kernel_rfl) ?_)
  try dsimp only
  refine wpAny_bind (wpAny_specialOf (T := "str") (v := .str x t) rfl F.str_no_rev ?_)
  try dsimp only
  refine wpAny_bind (wpAny_bind (wpAny_isInstance (T := "str") (v := .str x t) (b := false) rfl F.sub_str_dict ?_))
  rw [if_neg Bool.false_ne_true]
  refine wpAny_bind (wpAny_specialOf (T := "str") (v := .str x t) rfl F.str_getitem ?_)
  dsimp only
  rw [if_pos (by decide)]
  refine wpAny_pure ?_
  rw [if_neg (by decide)]
  refine wpAny_bind (PyProof.Rows.len_str (by have := sizeLine_eq; omega) ?_)
  refine wpAny_bind (m := asInt? (.int _ _)) (wpAny_pure ?_)
  dsimp only
  unfold Builtin.SmallTypes.newRecord
  dsimp only
  refine wpAny_bind (wpAny_newObj_type ?_)
  exact wpAny_pure (h _)
theorem call_reversed_str {x : Str} {t : Tok} {Q : Value → Shared → Prop} (hx : x.length ≤ sizeLine)
    (h : ∀ tk, Q (.ref s.heap.objs.size) { s with heap := s.heap.push (revStrObj x t ((x.length : Int) - 1)), toks := tk }) : wpAny (model prog w) A (call (.type "reversed") [.str x t]) Q E s := by
  refine callType_codes (Q₁ := fun obj s₁ => obj = .ref s.heap.objs.size ∧ ∃ tk, s₁ = { s with heap := s.heap.push (revStrObj x t ((x.length : Int) - 1)), toks := tk }) F.called_rev (F.typeCall_reversed_1 _) F.entry_object_init (code_reversed_str hx fun tk => ⟨rfl, tk, rfl⟩) fun obj s₁ h₁ => ?_
  obtain ⟨rfl, tk, rfl⟩ := h₁
  have ty : ({ s with heap := s.heap.push (revStrObj x t ((x.length : Int) - 1)), toks := tk } : Shared).TypeIs (.ref s.heap.objs.size) "reversed" := ⟨_, Heap.get?_push_size _ rfl, rfl⟩
  exact ⟨ty, F.args_object_init_2 _ _, object_init_meets F.called_rev.init.lookup F.called_rev.made (by decide) prog w A.in1 _ _ ⟨ty, rfl, h tk⟩⟩
def Heap.IsRevStr (h : Heap) (a : Addr) (x : Str) (t : Tok) (i : Int) : Prop := ∃ o, h.get? a = some o ∧ o.cls = .type "reversed" ∧ o.data = .fields #[.str x t, rawInt i]
theorem Heap.IsRevStr.typeIs {a : Addr} {x : Str} {t : Tok} {i : Int} (z : s.heap.IsRevStr a x t i) : s.TypeIs (.ref a) "reversed" := let ⟨o, ho, hc, _⟩ := z; ⟨o, ho, hc⟩
theorem Heap.IsRevStr.at {h h' : Heap} {a : Addr} {x : Str} {t : Tok} {i : Int} (z : h.IsRevStr a x t i) (e : ∀ o, h.get? a = some o → h'.get? a = some o) : h'.IsRevStr a x t i := let ⟨o, ho, r⟩ := z; ⟨o, e _ ho, r⟩
theorem next_revStr_item {it : Addr} {x : Str} {t : Tok} {i c : Nat} {Q : Option Value → Shared → Prop} (hit : s.heap.IsRevStr it x t (i : Int)) (hc : x.cps[i]? = some c) (hx : x.length ≤ sizeLine)
    (hQ : ∀ h' u tk, h'.IsRevStr it x t ((i : Int) - 1) → Heap.SameBut it s.heap h' → Q (some (.str ⟨#[c]⟩ u)) { s with heap := h', toks := tk }) : wpAny (model prog w) A (pyNext (.ref it)) Q E s := by
  obtain ⟨o, ho, hcl, hd⟩ := id hit
  unfold pyNext
  refine wpAny_bind (wpAny_attempt (wpAny_callSpecial?_slot (name := Str.ofString "__next__") hit.typeIs F.slot_rev_next
    (wpAny_call_entry F.slot_rev_next hit.typeIs F.entry_rev_next ?_ (F.args_rev_next_1 _))))
  unfold Builtin.«reversed.__next__»
  refine wpAny_bind (wpAny_of_eq (a := (Value.ref it, [])) rfl ?_)
  try dsimp only
  refine wpAny_bind (wpAny_field ho hd (x := .str x t) rfl ?_)
  refine wpAny_bind (wpAny_field ho hd (x := rawInt (i : Int)) rfl ?_)
  show wpAny _ _ (if (i : Int) < 0 then _ else _) _ _ s
  rw [if_neg (by omega)]
  refine wpAny_bind (wpAny_specialOf (T := "str") (v := .str x t) rfl F.str_getitem ?_)
  rw [if_neg (by decide)]
  refine wpAny_bind (wpAny_mkInt ?_)
  have hi : i < x.cps.size := by
    rcases Nat.lt_or_ge i x.cps.size with h | h
    · exact h
    · rw [Array.getElem?_eq_none h] at hc; cases hc
  have hs := sizeLine_eq
  have hl : x.length = x.cps.size := rfl
  refine wpAny_bind (wpAny_attempt (PyProof.Rows.getItem_str (c := c) (i := (i : Int)) (by
    have e1 : decide ((i : Int) < -(2 ^ 63 : Int)) = false := decide_eq_false (by omega)
    have e2 : decide ((i : Int) ≥ 2 ^ 63) = false := decide_eq_false (by omega)
    rw [e1, e2, Bool.or_false]) (by rw [seqIndex_of (by omega) (by omega), Int.toNat_natCast]; exact hc) ?_))
  dsimp only
  refine wpAny_bind (wpAny_field ho hd (x := rawInt (i : Int)) rfl ?_)
  try dsimp only
  refine wpAny_bind (wpAny_setField ho hd (by simp) ?_)
  refine wpAny_pure ⟨_, rfl, wpAny_pure (hQ _ _ _ ?_ (Heap.SameBut.update ..))⟩
  exact ⟨_, Heap.get?_update_self _ ho (Obj.isFreed_of_fields (Obj.data_mapFields hd _)), (Obj.cls_mapFields ..).trans hcl, by
    rw [Obj.data_mapFields hd]; simp⟩
theorem next_revStr_end {it : Addr} {x : Str} {t : Tok} {Q : Option Value → Shared → Prop} (hh : A.handled = none) (hit : s.heap.IsRevStr it x t (-1))
    (hQ : ∀ h', Heap.ExtBut it s.heap h' → Q none { s with heap := h' }) : wpAny (model prog w) A (pyNext (.ref it)) Q E s := by
  obtain ⟨o, ho, hc, hd⟩ := id hit
  unfold pyNext
  refine wpAny_bind (wpAny_attempt (wpAny_callSpecial?_slot (name := Str.ofString "__next__") hit.typeIs F.slot_rev_next
    (wpAny_call_entry F.slot_rev_next hit.typeIs F.entry_rev_next ?_ (F.args_rev_next_1 _))))
  unfold Builtin.«reversed.__next__»
  refine wpAny_bind (wpAny_of_eq (a := (Value.ref it, [])) rfl ?_)
  try dsimp only
  refine wpAny_bind (wpAny_field ho hd (x := .str x t) rfl ?_)
  refine wpAny_bind (wpAny_field ho hd (x := rawInt (-1)) rfl ?_)
  show wpAny _ _ (if (-1 : Int) < 0 then _ else _) _ _ s
  rw [if_pos (by decide)]
  refine wpAny_bind (wpAny_rule ?_)
  refine wpAny_bind ?_
  refine wpAny_bind (wpAny_setField ho hd (by simp) ?_)
  have ho2 := Heap.get?_update_self (Obj.mapFields fun f => f.setIfInBounds 1 (rawInt (-1))) ho (Obj.isFreed_of_fields (Obj.data_mapFields hd _))
  refine wpAny_setField ho2 (Obj.data_mapFields hd _) (by simp) ?_
  refine wpAny_bind ?_
  first
  | show wpAny _ _ (newExc (.type "StopIteration") [] >>= _) _ _ _
  | (refine wpAny_bind ?_; show wpAny _ _ (newExc (.type "StopIteration") [] >>= _) _ _ _)
  refine wpAny_bind ?_
  simp only [newExc, newTuple]
  refine wpAny_bind (wpAny_newObj_type ?_ (by size_fits))
  refine wpAny_bind (m := firstArgMember _ _) (wpAny_of_eq (a := Value.none) (by first | rfl | (simp only [firstArgMember]; rfl)) ?_)
  refine wpAny_newObj_type ?_ (by size_fits)
  simp only [raiseNew]
  refine wpAny_bind (wpAny_handled ?_)
  first | rw [show A.in1.handled = none from hh] | rw [hh]
  refine wpAny_bind (wpAny_pure (wpAny_throw ?_))
  refine wpAny_bind (wpAny_isInstance (T := "StopIteration") (b := true) ⟨_, Heap.get?_push_size _ rfl, rfl⟩ isSubtype_stop ?_)
  refine wpAny_pure (hQ _ ?_)
  refine Heap.ExtBut.push (Heap.ExtBut.push ?_ _) _
  intro b u hb e
  rw [Heap.get?_update_other _ _ (Ne.symm hb), Heap.get?_update_other _ _ (Ne.symm hb)]; exact e
theorem iter_revStr {it : Addr} {x : Str} {t : Tok} {i : Int} {Q : Value → Shared → Prop} (hit : s.heap.IsRevStr it x t i) (h : Q (.ref it) s) : wpAny (model prog w) A (pyIter (.ref it)) Q E s := by
  refine wpAny_pyIter_slot hit.typeIs F.slot_rev_iter (wpAny_call_entry F.slot_rev_iter hit.typeIs F.entry_rev_iter ?_ (F.args_rev_iter_1 _))
  show wpAny _ _ (ret (.ref it)) _ _ s
  exact wpAny_pure ⟨_, rfl, "reversed", _, hit.typeIs, F.slot_rev_next.lookup, h⟩
end
theorem Walks.strRev {prog : Program} {w : World} {A : Around} (hh : A.handled = none) (I : Addr) (x : Str) (t : Tok) (hx : x.length ≤ sizeLine) :
    Walks prog w A I [I] [I] x.cps.size (fun i v => ∃ c u, x.cps[x.cps.size - 1 - i]? = some c ∧ v = .str ⟨#[c]⟩ u) (fun i h => i ≤ x.cps.size ∧ h.IsRevStr I x t ((x.cps.size : Int) - 1 - (i : Int))) where
  sub := fun b hb => by simp at hb; simp [hb]
  frame := fun _ _ _ z hk => ⟨z.1, z.2.at fun o e => hk I (by simp) o e⟩
  item := fun i s Q E hi z hQ => by
    have e : (x.cps.size : Int) - 1 - (i : Int) = ((x.cps.size - 1 - i : Nat) : Int) := by omega
    have hit := z.2
    rw [e] at hit
    have hc : x.cps[x.cps.size - 1 - i]? = some (x.cps[x.cps.size - 1 - i]'(by omega)) := Array.getElem?_eq_getElem (by omega)
    refine next_revStr_item hit hc hx fun h' u tk hit' hs' => ?_
    have e2 : ((x.cps.size - 1 - i : Nat) : Int) - 1 = (x.cps.size : Int) - 1 - ((i + 1 : Nat) : Int) := by omega
    rw [e2] at hit'
    exact hQ _ h' tk ⟨_, u, hc, rfl⟩ ⟨hi, hit'⟩ fun b o hb eo => hs'.extBut b o (fun h => hb (by simp [h])) eo
  done := fun s Q E z hQ => by
    have e : (x.cps.size : Int) - 1 - (x.cps.size : Int) = -1 := by omega
    have hit := z.2
    rw [e] at hit
    exact next_revStr_end hh hit fun h' he' => hQ h' s.toks fun b o hb eo => he' b o (fun h => hb (by simp [h])) eo
  self := fun _ _ _ _ z hQ => iter_revStr z.2 hQ
section
variable {prog : Program} {w : World} {A : Around} {E : Value → Shared → Prop} {s : Shared}
theorem call_hint_rev {it : Addr} {x : Str} {t : Tok} {i : Int} {Q : Value → Shared → Prop} (hit : s.heap.IsRevStr it x t i) (hx : x.length ≤ sizeLine) (hi : i + 1 ≤ x.length)
    (h : ∀ u tk, s.toks ≤ tk → Q (.int (i + 1) u) { s with toks := tk }) : wpAny (model prog w) A (call (.builtin "reversed.__length_hint__") [.ref it]) Q E s := by
  obtain ⟨o, ho, hc, hd⟩ := id hit
  refine wpAny_call_entry F.slot_rev_hint hit.typeIs F.entry_rev_hint ?_ (F.args_rev_hint_1 _)
  unfold Builtin.«reversed.__length_hint__»
  refine wpAny_bind (wpAny_of_eq (a := Value.ref it) (by first | rfl | kernel_rfl) ?_)
  refine wpAny_bind (wpAny_field ho hd (x := .str x t) rfl ?_)
  rw [if_neg (show ¬ ((Value.str x t == Value.none) = true) from Bool.false_ne_true)]
  refine wpAny_bind (PyProof.Rows.len_str (by have := sizeLine_eq; omega) ?_)
  refine wpAny_bind (m := asInt? (.int _ _)) (wpAny_pure ?_)
  dsimp only
  refine wpAny_bind (wpAny_field ho hd (x := rawInt i) rfl ?_)
  show wpAny _ A.in1 (if (x.length : Int) < i + 1 then _ else retInt (i + 1)) _ _ _
  rw [if_neg (by omega)]
  unfold retInt
  refine wpAny_bind (wpAny_mkInt ?_)
  exact wpAny_pure ⟨_, rfl, h _ _ (by show s.toks ≤ s.toks + 1 + 1 + 1; omega)⟩
theorem collect_rev {Q : List Value → Shared → Prop} {I : Addr} {x : Str} {t : Tok} (hh : A.handled = none) (hx : x.length ≤ sizeLine) (hit : s.heap.IsRevStr I x t ((x.length : Int) - 1))
    (hQ : ∀ s' acc, Moved [I] (fun a b => b = a) s s' → ItemsOf (fun i v => ∃ c u, x.cps[x.cps.size - 1 - i]? = some c ∧ v = .str ⟨#[c]⟩ u) acc x.cps.size → Q acc.toList s') : wpAny (model prog w) A (collect (.ref I)) Q E s := by
  have hn : x.cps.size ≤ sizeLine := hx
  have W := (Walks.strRev (prog := prog) (w := w) (A := A.in1) hh I x t hx).toS
  obtain ⟨o0, ho0, _⟩ := id hit
  have hlt := Heap.lt_size ho0
  have hSI : s.heap.objs.size ≠ I := Ne.symm (Nat.ne_of_lt hlt)
  have hSf : s.heap.objs.size ∉ [I] := fun hm => hSI (List.mem_singleton.mp hm)
  have e0 : (x.cps.size : Int) - 1 - ((0 : Nat) : Int) = (x.length : Int) - 1 := by show (x.cps.size : Int) - 1 - 0 = (x.cps.size : Int) - 1; omega
  have hst : (fun (i : Nat) (s : Shared) => i ≤ x.cps.size ∧ s.heap.IsRevStr I x t ((x.cps.size : Int) - 1 - (i : Int))) 0 s := ⟨Nat.zero_le _, by rw [e0]; exact hit⟩
  unfold collect
  refine wpAny_bind (wpAny_runValue (codeAny_builtin F.entry_proto_collect ?_))
  rw [Around.under_plainId F.plain_proto_collect _]
  show wpAny _ A.in1 (newList [] >>= fun l => again (.builtin "list.__iadd__" ⟨[l, .ref I], []⟩)) _ _ s
  refine wpAny_bind (wpAny_newObj_type ?_)
  refine wpAny_pure ⟨plainId_quiet F.plain_list_iadd _, codeAny_builtin F.entry_list_iadd ?_⟩
  rw [Around.under_plainId F.plain_list_iadd _]
  have hst₁ := W.frame 0 s (s.heap.push { cls := .type "list", data := .seq ([] : List Value).toArray }) s.toks hst (Nat.le_refl _) fun b _ o e => Heap.get?_push_of_some _ e
  have hit₁ : (s.heap.push { cls := .type "list", data := .seq ([] : List Value).toArray }).IsRevStr I x t ((x.length : Int) - 1) := hit.at fun o e => Heap.get?_push_of_some _ e
  have hS₁ : (s.heap.push { cls := .type "list", data := .seq ([] : List Value).toArray }).get? s.heap.objs.size = some { cls := .type "list", data := .seq ([] : List Value).toArray } := Heap.get?_push_size _ rfl
  have h1 : Builtin.List.listSameRef (.ref s.heap.objs.size) (.ref I) = false := by simp [Builtin.List.listSameRef, hSI]
  show wpAny _ A.in1 (Builtin.List.listExtendWith (.ref s.heap.objs.size) (.ref I) (.ref s.heap.objs.size)) _ _ _
  unfold Builtin.List.listExtendWith
  have hT₁ : ({ s with heap := s.heap.push { cls := .type "list", data := .seq ([] : List Value).toArray } } : Shared).TypeIs (.ref I) "reversed" := Heap.IsRevStr.typeIs (s := { s with heap := s.heap.push { cls := .type "list", data := .seq ([] : List Value).toArray } }) hit₁
  refine wpAny_bind (wpAny_typeOf hT₁ ?_)
  rw [if_neg (by rw [h1]; decide)]
  refine wpAny_bind (iter_revStr (s := { s with heap := s.heap.push { cls := .type "list", data := .seq ([] : List Value).toArray } }) hit₁ ?_)
  refine wpAny_bind (wpAny_holding ?_)
  unfold Builtin.List.listLengthHint
  refine wpAny_bind (wpAny_specialOf hT₁ F.rev_no_len ?_)
  show wpAny _ A.in1 (specialOf (Value.ref I) (Str.ofString "__length_hint__") >>= _) _ _ _
  refine wpAny_bind (wpAny_specialOf hT₁ F.slot_rev_hint.lookup ?_)
  (generalize hid : ("reversed.__length_hint__" : String) = id0; (fail_if_success (clear hid id0)); wp_delta; rw [show splitId id0 = some ("reversed", "__length_hint__") from by subst hid; decide +kernel]; subst hid)
  refine wpAny_bind (wpAny_isInstance (b := true) hT₁ (by rw [isSubtype_type]; kernel_rfl) ?_)
  rw [if_neg (by decide)]
  refine wpAny_bind (wpAny_rule ?_)
  refine wpAny_bind (wpAny_of_eq (F.slot_rev_hint.bind _) ?_)
  dsimp only
  refine wpAny_bind (wpAny_attempt (call_hint_rev (s := { s with heap := s.heap.push { cls := .type "list", data := .seq ([] : List Value).toArray } }) hit₁ hx (by omega) fun u tk htk => ?_))
  have hk : (x.length : Int) - 1 + 1 = (x.length : Int) := by omega
  rw [hk]
  have hs := sizeLine_eq
  dsimp only
  have ha : asInt? (Value.int (x.length : Int) u) = pure (some (x.length : Int)) := rfl
  rw [ha, pure_bind]
  dsimp only
  have hfit : Builtin.List.listFitsIndex (x.length : Int) = true := by unfold Builtin.List.listFitsIndex; simp only [Bool.and_eq_true, decide_eq_true_eq]; omega
  have hlong : Builtin.List.listTooLong (x.length : Int).toNat = false := by unfold Builtin.List.listTooLong; rw [Int.toNat_natCast]; exact decide_eq_false (by omega)
  rw [hfit, if_neg (by decide), if_neg (by omega), hlong, if_neg (by decide)]
  refine wpAny_pure ?_
  clear hs
  have hst₂ := W.frame 0 _ _ tk hst₁ htk fun b _ o e => e
  by_cases hz : x.length = 0
  · rw [if_neg (by rw [hz]; decide)]
    refine wpAny_pure ⟨plainId_quiet F.plain_extend_loop _, codeAny_extend_loopS W hn _ hSf _ x.cps.size 0 _ _ _ rfl (Nat.zero_le _) hst₂ hS₁ (ItemsOf.nil _) fun s' acc' c' hm hS' hacc => ?_⟩
    show wpAny _ A (load s.heap.objs.size >>= _) _ _ s'
    refine wpAny_bind (wpAny_load hS' ?_)
    exact wpAny_pure (hQ s' acc' (Moved.drop_new (o := { cls := .type "list", data := .seq ([] : List Value).toArray }) (tk := tk) hm htk) hacc)
  · rw [if_pos (by rw [show ((x.length : Int) != 0) = true from by simpa using hz]; rfl)]
    refine wpAny_bind (wpAny_rule ?_)
    refine wpAny_bind ?_
    show wpAny _ A.in1 (updateSeq s.heap.objs.size (·.push .none) >>= fun _ => updateSeq s.heap.objs.size (·.pop)) _ _ _
    refine wpAny_bind (wpAny_updateSeq hS₁ rfl ?_ (by show 0 ≤ sizeLine; exact Nat.zero_le _) (by show 1 ≤ sizeLine + 1; exact Nat.le_add_left _ _))
    have hS₂ := Heap.get?_update_self (Obj.mapSeq (·.push Value.none)) hS₁ rfl
    refine wpAny_updateSeq hS₂ rfl ?_ (by show 1 ≤ sizeLine; decide) (by show 0 ≤ sizeLine + 1; exact Nat.zero_le _)
    have hS₃ := Heap.get?_update_self (Obj.mapSeq (·.pop)) hS₂ rfl
    have oth : ∀ b o, b ≠ s.heap.objs.size → (s.heap.push { cls := .type "list", data := .seq ([] : List Value).toArray }).get? b = some o →
        (((s.heap.push { cls := .type "list", data := .seq ([] : List Value).toArray }).update s.heap.objs.size (Obj.mapSeq (·.push Value.none))).update s.heap.objs.size (Obj.mapSeq (·.pop))).get? b = some o :=
      fun b o hb e => (Heap.get?_update_other _ _ (Ne.symm hb)).trans ((Heap.get?_update_other _ _ (Ne.symm hb)).trans e)
    refine wpAny_pure ⟨plainId_quiet F.plain_extend_loop _, codeAny_extend_loopS W hn _ hSf _ x.cps.size 0 _ _ _ rfl (Nat.zero_le _)
      (W.frame 0 ({ s with heap := s.heap.push { cls := .type "list", data := .seq ([] : List Value).toArray }, toks := tk } : Shared) _ tk hst₂ (Nat.le_refl _) fun b hb o e => oth b o (fun h => hSf (h ▸ hb)) e) hS₃ (ItemsOf.nil _) fun s' acc' c' hm hS' hacc => ?_⟩
    show wpAny _ A (load s.heap.objs.size >>= _) _ _ s'
    refine wpAny_bind (wpAny_load hS' ?_)
    refine wpAny_pure (hQ s' acc' (Moved.drop_new (o := { cls := .type "list", data := .seq ([] : List Value).toArray }) (tk := tk) (Moved.trans W.gtrans ((Moved.refl (G := fun a b => b = a) W.grefl).then_heap (by first | exact Nat.le_refl _ | exact Nat.le_succ _ | omega) fun b o hb e => ?_) hm) htk) hacc)
    exact oth b o (fun h => hb (h ▸ List.mem_cons_self)) e
theorem join_rev {I : Addr} {x sep : Str} {t t2 : Tok} {Q : Value → Shared → Prop} (hh : A.handled = none) (hx : x.length ≤ sizeLine) (hit : s.heap.IsRevStr I x t ((x.length : Int) - 1))
    (hq : ∀ s' (l : List (Str × Tok)), Moved [I] (fun a b => b = a) s s' → ItemsOf (fun i v => ∃ c u, x.cps[x.cps.size - 1 - i]? = some c ∧ v = .str ⟨#[c]⟩ u) (strValues l).toArray x.cps.size →
      JoinOk sep (l.map (·.1)) = true ∧ ∀ t' k, Q (.str (Txt.join sep (l.map (·.1))) t') { s' with toks := k }) :
    wpAny (model prog w) A (call (.builtin "str.join") [.str sep t2, .ref I]) Q E s := by
  refine wpAny_call (codeAny_call_builtin F.slot_str_join.plain F.entry_str_join (F.slot_str_join.check _ _ _ _ _ _ _ _ (typeIs_str _ _ _) (F.args_str_join_2 _ _) ?_))
  rw [join_tree_other]
  refine wpAny_bind (wpAny_typeOf hit.typeIs ?_)
  show wpAny _ A.in1 ((pyIter (.ref I)).tryCatch _ >>= fun it => collect it >>= fun items => joinTail sep items) _ _ s
  refine wpAny_bind (wpAny_tryCatch (iter_revStr hit ?_))
  refine wpAny_bind (collect_rev (A := A.in1) hh hx hit fun s' acc hm hacc => ?_)
  obtain ⟨l, hl⟩ := exists_strValues acc.toList fun v hv => by
    obtain ⟨j, hj, rfl⟩ := Array.mem_iff_getElem.mp (Array.mem_toList_iff.mp hv)
    obtain ⟨c, u, _, e⟩ := hacc.2 j _ (Array.getElem?_eq_getElem hj)
    exact ⟨_, _, e⟩
  rw [← hl]
  have hacc' : ItemsOf (fun i v => ∃ c u, x.cps[x.cps.size - 1 - i]? = some c ∧ v = .str ⟨#[c]⟩ u) (strValues l).toArray x.cps.size := by rw [hl]; simpa using hacc
  obtain ⟨hok, hpost⟩ := hq s' l hm hacc'
  unfold JoinOk at hok
  rw [Bool.not_eq_true'] at hok
  have g : Gives (joinTail sep (strValues l)) (joinMade sep l) := by
    have g0 := gives_joinTail sep l hok
    cases l with
    | nil => exact g0
    | cons p r => cases r with
      | nil => exact g0
      | cons q r' => exact g0
  exact g prog w A (wants Q E) s' (post_join l ⟨joinFit_length hok, hpost⟩)
end
end PySem
namespace L2
open PySem PySem.Spec PyProof.Rows
section
variable {X : Cx}
theorem rev_items {l : List Nat} {ps : List (Str × Tok)} (h : ItemsOf (fun i v => ∃ c u, (tx l).cps[(tx l).cps.size - 1 - i]? = some c ∧ v = Value.str ⟨#[c]⟩ u) (strValues ps).toArray (tx l).cps.size) : ps.map (·.1) = (l.reverse.map fun c => [c]).map tx := by
  have hz : (tx l).cps.size = l.length := List.size_toArray ..
  have hlen : ps.length = l.length := by have := h.1; rw [List.size_toArray, hz] at this; simpa [strValues] using this
  refine List.ext_getElem? fun i => ?_
  rw [List.getElem?_map, List.getElem?_map, List.getElem?_map]
  by_cases hi : i < l.length
  · have hp : i < ps.length := by omega
    have e1 : (strValues ps).toArray[i]? = some (Value.str ps[i].1 ps[i].2) := by simp [strValues, hp]
    obtain ⟨c, u, hc, e⟩ := h.2 i _ e1
    rw [hz] at hc
    have hc' : l[l.length - 1 - i]? = some c := by simpa [tx] using hc
    rw [List.getElem?_reverse hi, hc', List.getElem?_eq_getElem hp]
    have e2 : ps[i].1 = (⟨#[c]⟩ : Str) := (Value.str.inj e).1
    show some ps[i].1 = some (tx [c])
    rw [e2]; rfl
  · rw [List.getElem?_eq_none (by omega), List.getElem?_eq_none (by rw [List.length_reverse]; omega)]; rfl
variable {o e : Expr} {to te : TE} {apos cpos rpos p2 : Pos}
def tJoinRev (to te : TE) : TE := fun σ H Q => to σ H fun x H1 => ∃ sep, x = vt sep ∧ te σ H1 fun y H2 => ∃ l, y = vt l ∧ (l.length ≤ 4000 ∧ sep.length ≤ 1000) ∧ Q (vt (between sep (l.reverse.map fun c => [c]))) H2
theorem pe_joinRev (hc : X.calm = true) (hg : Gl X "reversed") (hmg : X.mg "reversed" = none) (hv : bootBuiltins "reversed" = some (.type "reversed")) (ho : PE X o to) (he : PE X e te)
    (hbase : attributeBase o "join" X.env (eval o X.env) = eval o X.env := by rfl)
    (hfew : ((backTo cpos (starEach [.Call (.Name "reversed" p2) [e] [] rpos] X.env)).all (fun x => !x.1) && (backToKw cpos (keywordEach [] X.env)).all (fun x => x.1.isSome)
      && decide ([Expr.Call (.Name "reversed" p2) [e] [] rpos].length + ([] : List Keyword).length + (if ([] : List Keyword).isEmpty then 0 else 1) < 30)) = true := by rfl)
    (hline : (apos.endLine == cpos.line) = true := by rfl) (hs : starEach [Expr.Call (.Name "reversed" p2) [e] [] rpos] X.env = [(false, eval (.Call (.Name "reversed" p2) [e] [] rpos) X.env)] := by rfl)
    (hs2 : starEach [e] X.env = [(false, eval e X.env)] := by rfl) :
    PE X (.Call (.Attribute o "join" apos) [.Call (.Name "reversed" p2) [e] [] rpos] [] cpos) (tJoinRev to te) := by
  intro pins s σ H Q I h
  refine wpAny_Call_method_late hbase hfew hline rfl (thn (ho pins s σ H _ I h) fun v s1 ⟨x, H1, I1, r1, sep, ex, q1⟩ => ?_)
  subst ex
  obtain ⟨t1, rfl⟩ := r1
  obtain ⟨h1, h2⟩ := tyV_is (T := "str") I1 (x := vt sep) ⟨t1, rfl⟩ rfl
  refine ⟨"str", "str.join", PySem.F.plainAttrs_str, PySem.F.slot_str_join, PySem.F.type_str_join, h1, h2, ?_⟩
  rw [hs]
  refine Calls.callWith_builtin rfl (Calls.evalArgs_plain ?_)
  show wpAny _ _ (spliced ((false, eval (.Call (.Name "reversed" p2) [e] [] rpos) X.env) :: backTo cpos [])) _ _ s1
  refine Calls.spliced_cons (wpAny_Call_Name_kw (ld_blt I1 hg hmg hv ?_ (by decide) (by decide)))
  refine PyProof.Rows.callWith_type1 (rest := []) ?_ hs2 rfl
  rw [hs2]
  show wpAny _ _ (spliced ((false, eval e X.env) :: backTo rpos [])) _ _ s1
  refine Calls.spliced_cons (thn (he pins s1 σ H1 _ I1 q1) fun u s2 ⟨y, H2, I2, r2, l, el, hz, q2⟩ => ?_)
  subst el
  obtain ⟨t2, rfl⟩ := r2
  refine Calls.spliced_nil ?_
  have sz : (tx l).length = l.length := tx_len l
  have hs0 := sizeLine_eq
  have hl : l.length ≤ sizeLine := by omega
  refine call_reversed_str (by rw [sz]; exact hl) fun tk => ?_
  refine Calls.spliced_nil ?_
  refine join_rev (x := tx l) (t := t2) (I2.ok.hd hc) (by rw [sz]; exact hl) ⟨_, Heap.get?_push_size _ rfl, rfl, rfl⟩ fun s' ps hm hit' => ?_
  have ee := rev_items hit'
  rw [ee]
  have hok : (((l.reverse.map fun c => [c]).map tx).map (·.length)).sum + ((l.reverse.map fun c => [c]).map tx).length * (tx sep).length ≤ 16777216 := by
    rw [sum_lens, List.length_map, List.length_map, List.length_reverse, tx_len]
    have e1 : (l.reverse.map fun c => [c]).flatten.length = l.length := by
      rw [List.length_flatten, List.map_map]
      show (l.reverse.map fun _ => 1).sum = _
      rw [List.map_const', List.sum_replicate_nat, List.length_reverse]; omega
    rw [e1]
    have : l.length * sep.length ≤ 4000 * 1000 := Nat.mul_le_mul hz.1 hz.2
    omega
  refine ⟨joinOk_of hok, fun t' k => ?_⟩
  rw [tx_join]
  obtain ⟨h', g', d', tk', os'⟩ := s'
  have e1 : g' = s2.gens := hm.gens
  have e2 : d' = s2.drawn := hm.drawn
  have e3 : os' = s2.os := hm.os
  subst e1 e2 e3
  exact ⟨.str _, H2, I2.kept (t' := k) fun b u e => hm.heap b u (fun hb => absurd (Heap.lt_size e) ((List.mem_singleton.mp hb) ▸ Nat.lt_irrefl _)) (Heap.get?_push_of_some _ e), ⟨_, rfl⟩, q2⟩
def rNeL (K : PySem.W.Frag) : R2 := fun x y H Q => ∃ a b xs ys, x = .ref a ∧ y = .ref b ∧ SqL K H a xs ∧ SqL K H b ys ∧ xs.all flatV = true ∧ ys.all flatV = true ∧ Q (.bl (!eqVs xs ys)) H
theorem op_neL (hu : X.A.units < cLine) : OpR X (compareOp .NotEq) (rNeL X.K) := by
  intro pins s σ H x y v u Q I rx ry h
  obtain ⟨a, b, xs, ys, rfl, rfl, ha, hb, fx, fy, q⟩ := h
  cases (show v = Value.ref a from rx)
  cases (show u = Value.ref b from ry)
  obtain ⟨its, rv, p, _⟩ := I.list ha
  obtain ⟨its2, rv2, p2, _⟩ := I.list hb
  have l1 := rv.length
  have l2 := rv2.length
  by_cases hz : xs.length = ys.length
  · refine SeqAt.RcNeAt.lists (e := fun j => eqV (xs.getD j .non) (ys.getD j .non)) p.isList p2.isList (by simp [← l1, ← l2, hz]) hu (fun j h1 h2 => eqAt_items rv rv2 fx fy j h1 h2) X.prog X.w X.xe _ ?_
    have e : (List.range its.toArray.size).all (fun j => eqV (xs.getD j .non) (ys.getD j .non)) = eqVs xs ys := by
      rw [← eqVs_all hz]; simp [← l1]
    rw [e]
    exact ⟨.bl _, H, I, rfl, q⟩
  · rw [eqVs_len hz] at q
    exact SeqAt.RcNeAt.lists_lengths p.isList p2.isList (by simp [← l1, ← l2, hz]) hu X.prog X.w X.xe _ ⟨.bl _, H, I, rfl, q⟩
def oNeN (hu : X.A.units < cLine) := (op_ne (X := X)).or ((op_neT hu).or (op_neL hu))
end
end L2
namespace L2
open PySem PySem.Spec PyProof.Rows
section
variable {κ : Type} [DecidableEq κ]
def valV (kvs : List (κ × V)) (k : κ) : Option V := (kvs.find? fun kv => decide (kv.1 = k)).map (·.2)
def putK (kvs : List (κ × V)) (k : κ) (v : V) : List (κ × V) :=
  if (kvs.any fun kv => decide (kv.1 = k)) = true then kvs.map (fun kv => if kv.1 = k then (kv.1, v) else kv) else kvs ++ [(k, v)]
def dropK (kvs : List (κ × V)) (k : κ) : List (κ × V) := kvs.filter fun kv => decide (kv.1 ≠ k)
theorem valV_nil {k : κ} : valV ([] : List (κ × V)) k = none := rfl
theorem valV_pos {p : κ × V} {r : List (κ × V)} {k : κ} (e : p.1 = k) : valV (p :: r) k = some p.2 := by simp [valV, List.find?_cons, e]
theorem valV_neg {p : κ × V} {r : List (κ × V)} {k : κ} (e : ¬ p.1 = k) : valV (p :: r) k = valV r k := by simp [valV, List.find?_cons, e]
theorem valV_any (k : κ) : ∀ kvs : List (κ × V), (kvs.any fun kv => decide (kv.1 = k)) = (valV kvs k).isSome
  | [] => rfl
  | p :: r => by
    rw [List.any_cons]
    by_cases e : p.1 = k
    · simp only [valV_pos e, decide_eq_true e, Bool.true_or, Option.isSome_some]
    · rw [valV_neg e, decide_eq_false e, Bool.false_or]; exact valV_any k r
theorem valV_map (k j : κ) (y : V) : ∀ kvs : List (κ × V), valV (kvs.map fun kv => if kv.1 = k then (kv.1, y) else kv) j = (valV kvs j).map fun x => if j = k then y else x
  | [] => rfl
  | p :: r => by
    have ih := valV_map k j y r
    rw [List.map_cons]
    by_cases h : p.1 = k
    · rw [if_pos h]
      by_cases e : p.1 = j
      · rw [valV_pos (p := (p.1, y)) e, valV_pos e, Option.map_some, if_pos (e.symm.trans h)]
      · rw [valV_neg (p := (p.1, y)) e, valV_neg e, ih]
    · rw [if_neg h]
      by_cases e : p.1 = j
      · rw [valV_pos (p := p) e, valV_pos e, Option.map_some, if_neg (fun z => h (e.trans z))]
      · rw [valV_neg (p := p) e, valV_neg e, ih]
theorem valV_snoc (k j : κ) (y : V) : ∀ kvs : List (κ × V), valV kvs k = none → valV (kvs ++ [(k, y)]) j = if j = k then some y else valV kvs j
  | [], _ => by
    by_cases e : k = j
    · rw [if_pos e.symm]; exact valV_pos (p := (k, y)) e
    · rw [if_neg (fun z => e z.symm)]; exact valV_neg (p := (k, y)) e
  | p :: r, hn => by
    rw [List.cons_append]
    have hk : ¬ p.1 = k := fun z => by rw [valV_pos z] at hn; cases hn
    rw [valV_neg hk] at hn
    have ih := valV_snoc k j y r hn
    by_cases e : p.1 = j
    · rw [valV_pos e, valV_pos e, if_neg (fun z => hk (e.trans z))]
    · rw [valV_neg e, valV_neg e, ih]
theorem valV_put (kvs : List (κ × V)) (k j : κ) (y : V) : valV (putK kvs k y) j = if j = k then some y else valV kvs j := by
  unfold putK
  by_cases a : (kvs.any fun kv => decide (kv.1 = k)) = true
  · rw [if_pos a, valV_map]
    rw [valV_any] at a
    by_cases e : j = k
    · obtain ⟨x, hx⟩ := Option.isSome_iff_exists.mp a
      rw [if_pos e, e, hx, Option.map_some, if_pos rfl]
    · rw [if_neg e]
      cases valV kvs j with
      | none => rfl
      | some x => rw [Option.map_some, if_neg e]
  · rw [if_neg a]
    refine valV_snoc k j y kvs ?_
    rw [valV_any] at a
    cases q : valV kvs k with
    | none => rfl
    | some x => rw [q] at a; exact (a rfl).elim
theorem length_putK (kvs : List (κ × V)) (k : κ) (v : V) : (putK kvs k v).length ≤ kvs.length + 1 := by
  unfold putK
  split
  · rw [List.length_map]; omega
  · rw [List.length_append, List.length_cons, List.length_nil]; omega
theorem putK_new {kvs : List (κ × V)} {k : κ} (v : V) (h : valV kvs k = none) : putK kvs k v = kvs ++ [(k, v)] := by
  unfold putK
  rw [valV_any, h]
  exact if_neg (by decide)
theorem RelO.isSome_eq {o : Option V} {u : Option Value} (r : RelO o u) : o.isSome = u.isSome := by
  cases o with
  | none => cases u with
    | none => rfl
    | some _ => exact (show False from r).elim
  | some _ => cases u with
    | none => exact (show False from r).elim
    | some _ => rfl
theorem RelO.getD {o : Option V} {u : Option Value} {d : V} {d' : Value} (r : RelO o u) (rd : RelV d d') : RelV (o.getD d) (u.getD d') := by
  cases o with
  | none => cases u with
    | none => exact rd
    | some _ => exact (show False from r).elim
  | some _ => cases u with
    | none => exact (show False from r).elim
    | some _ => exact r
theorem KV.val {kvs : List (κ × V)} {vs : List (κ × Value)} (r : KV kvs vs) (k : κ) : RelO (valV kvs k) (valueAt vs k) := by
  unfold KV at r
  induction r with
  | nil => exact True.intro
  | @cons p q ps qs h t ih =>
    obtain ⟨h1, h2⟩ := h
    by_cases e : p.1 = k
    · have e' : q.1 = k := h1.symm.trans e
      have b : valueAt (q :: qs) k = some q.2 := by simp [valueAt, List.find?_cons, e']
      rw [valV_pos e, b]; exact h2
    · have e' : ¬ q.1 = k := fun z => e (h1.trans z)
      have b : valueAt (q :: qs) k = valueAt qs k := by simp [valueAt, List.find?_cons, e']
      rw [valV_neg e, b]; exact ih
theorem KV.any {kvs : List (κ × V)} {vs : List (κ × Value)} (r : KV kvs vs) (k : κ) : (kvs.any fun kv => decide (kv.1 = k)) = vs.any fun kv => decide (kv.1 = k) := by
  unfold KV at r
  induction r with
  | nil => rfl
  | cons h t ih => rw [List.any_cons, List.any_cons, ih, h.1]
theorem KV.repl {kvs : List (κ × V)} {vs : List (κ × Value)} (r : KV kvs vs) (k : κ) {y : V} {u : Value} (ry : RelV y u) :
    KV (kvs.map fun kv => if kv.1 = k then (kv.1, y) else kv) (vs.map fun kv => if kv.1 = k then (kv.1, u) else kv) := by
  unfold KV at r ⊢
  induction r with
  | nil => exact .nil
  | @cons p q ps qs h t ih =>
    rw [List.map_cons, List.map_cons]
    refine .cons ?_ ih
    obtain ⟨h1, h2⟩ := h
    by_cases e : p.1 = k
    · rw [if_pos e, if_pos (h1.symm.trans e)]; exact ⟨h1, ry⟩
    · rw [if_neg e, if_neg (fun z => e (h1.trans z))]; exact ⟨h1, h2⟩
theorem KV.put {kvs : List (κ × V)} {vs : List (κ × Value)} (r : KV kvs vs) (k : κ) {y : V} {u : Value} (ry : RelV y u) : KV (putK kvs k y) (stored vs k u) := by
  unfold putK stored
  rw [r.any k]
  by_cases e : (vs.any fun kv => decide (kv.1 = k)) = true
  · rw [if_pos e, if_pos e]; exact r.repl k ry
  · rw [if_neg e, if_neg e]; exact Paired.snoc r ⟨rfl, ry⟩
theorem KV.drop {kvs : List (κ × V)} {vs : List (κ × Value)} (r : KV kvs vs) (k : κ) : KV (dropK kvs k) (without vs k) := by
  unfold KV at r ⊢
  unfold dropK without
  induction r with
  | nil => exact .nil
  | @cons p q ps qs h t ih =>
    obtain ⟨h1, h2⟩ := h
    rw [List.filter_cons, List.filter_cons]
    by_cases e : p.1 = k
    · have a : ¬ decide (p.1 ≠ k) = true := by simp [e]
      have b : ¬ decide (q.1 ≠ k) = true := by simp [h1.symm.trans e]
      rw [if_neg a, if_neg b]; exact ih
    · have e' : ¬ q.1 = k := fun z => e (h1.trans z)
      have a : decide (p.1 ≠ k) = true := by simp [e]
      have b : decide (q.1 ≠ k) = true := by simp [e']
      rw [if_pos a, if_pos b]; exact .cons ⟨h1, h2⟩ ih
theorem KV.keys {kvs : List (κ × V)} {vs : List (κ × Value)} (r : KV kvs vs) : kvs.map (·.1) = vs.map (·.1) := by
  unfold KV at r
  induction r with
  | nil => rfl
  | cons h t ih => rw [List.map_cons, List.map_cons, ih, h.1]
theorem KV.length {kvs : List (κ × V)} {vs : List (κ × Value)} (r : KV kvs vs) : kvs.length = vs.length := Paired.length r
end
theorem kV_is {P : Program} {w : World} {k : Key} {u : Value} (r : RelV (kV k) u) : (mixKind P w).is k u = true := by
  cases k with
  | inl i => obtain ⟨t, e⟩ := (show ∃ t, u = Value.int i t from r); subst e; exact mixKind_int P w i t
  | inr x => obtain ⟨t, e⟩ := (show ∃ t, u = Value.str x t from r); subst e; exact mixKind_str P w x t
theorem items_are {P : Program} {w : World} : ∀ {ks : List Key} {us : List Value}, Vals (ks.map kV) us → ItemsAre (mixKind P w) ks us
  | [], _, r => by rw [List.map_nil] at r; cases r; exact .nil
  | k :: ks, _, r => by
    rw [List.map_cons] at r
    cases r with
    | cons h t => exact .cons (kV_is h) (items_are t)
abbrev KT (H : Hp) : List (List Key × V) → List (List Key × Addr × Value) → Prop := Paired fun p q => p.1 = q.1 ∧ H q.2.1 = some (.tup (p.1.map kV)) ∧ RelV p.2 q.2.2
theorem KT.val {H : Hp} {kvs : List (List Key × V)} {xs : List (List Key × Addr × Value)} (r : KT H kvs xs) (k : List Key) : RelO (valV kvs k) ((atKey xs k).map (·.2)) := by
  induction r with
  | nil => exact True.intro
  | @cons p q ps qs h t ih =>
    obtain ⟨h1, _, h2⟩ := h
    by_cases e : p.1 = k
    · have e' : q.1 = k := h1.symm.trans e
      have b : atKey (q :: qs) k = some q.2 := by simp [atKey, List.find?_cons, e']
      rw [valV_pos e, b]; exact h2
    · have e' : ¬ q.1 = k := fun z => e (h1.trans z)
      have b : atKey (q :: qs) k = atKey qs k := by simp [atKey, List.find?_cons, e']
      rw [valV_neg e, b]; exact ih
theorem KT.repl {H : Hp} {kvs : List (List Key × V)} {xs : List (List Key × Addr × Value)} (r : KT H kvs xs) (k : List Key) {y : V} {u : Value} (ry : RelV y u) :
    KT H (kvs.map fun kv => if kv.1 = k then (kv.1, y) else kv) (xs.map (putAt k u)) := by
  induction r with
  | nil => exact .nil
  | @cons p q ps qs h t ih =>
    rw [List.map_cons, List.map_cons]
    refine .cons ?_ ih
    obtain ⟨h1, h2, h3⟩ := h
    unfold putAt
    by_cases e : p.1 = k
    · rw [if_pos e, if_pos (h1.symm.trans e)]; exact ⟨h1, h2, ry⟩
    · rw [if_neg e, if_neg (fun z => e (h1.trans z))]; exact ⟨h1, h2, h3⟩
theorem KT.put {H : Hp} {kvs : List (List Key × V)} {xs : List (List Key × Addr × Value)} (r : KT H kvs xs) (k : List Key) {b : Addr} {y : V} {u : Value} (hb : H b = some (.tup (k.map kV))) (ry : RelV y u) :
    KT H (putK kvs k y) (storedH xs k b u) := by
  have e : (kvs.any fun kv => decide (kv.1 = k)) = (atKey xs k).isSome := by
    rw [valV_any, (r.val k).isSome_eq, Option.isSome_map]
  unfold putK storedH
  rw [e]
  by_cases q : (atKey xs k).isSome = true
  · rw [if_pos q, if_pos q]; exact r.repl k ry
  · rw [if_neg q, if_neg q]; exact Paired.snoc r ⟨rfl, hb, ry⟩
theorem KT.keeps {H H' : Hp} {kvs : List (List Key × V)} {xs : List (List Key × Addr × Value)} (r : KT H kvs xs) (ht : ∀ b ys, H b = some (.tup ys) → H' b = some (.tup ys)) : KT H' kvs xs :=
  Paired.mapP r fun _ _ z => ⟨z.1, ht _ _ z.2.1, z.2.2⟩
section
variable {P : Program} {w : World} {H : Hp} {h : Heap} {a : Addr}
theorem rd_of {u : HO} (ok : HOk P w H h) (e : Rd H a u) : ObjOk P w H h a u := e.ok ok
theorem dk_rd {kvs : List (Key × V)} (ok : HOk P w H h) (e : Rd H a (.dK kvs)) : kvs.length ≤ sizeLine ∧ (a == sysModules) = false ∧ ∃ vs, KV kvs vs ∧ h.DictOf (mixKind P w) a vs :=
  show ObjOk P w H h a (.dK kvs) from rd_of ok e
theorem dk_of {kvs : List (Key × V)} (ok : HOk P w H h) (e : H a = some (.dK kvs)) : kvs.length ≤ sizeLine ∧ (a == sysModules) = false ∧ ∃ vs, KV kvs vs ∧ h.DictOf (mixKind P w) a vs := dk_rd ok (.inl e)
theorem key_of {ks : List Key} (ok : HOk P w H h) (e : H a = some (.tup (ks.map kV))) : (tupleKind (mixKind P w)).is h ks a := by
  obtain ⟨_, its, r, o, h1, h2, n, h3⟩ := (show ObjOk P w H h a (.tup (ks.map kV)) from ok a _ e)
  exact ⟨o, its.toArray, n, h1, h2, h3, by simpa using items_are r⟩
theorem dt_rd {kvs : List (List Key × V)} (ok : HOk P w H h) (e : Rd H a (.dT kvs)) : kvs.length ≤ sizeLine ∧ (a == sysModules) = false ∧
    ∃ xs, KT H kvs xs ∧ h.DictOfH (tupleKind (mixKind P w)) a xs := by
  obtain ⟨z, y, xs, r, o, es, ep, h1, h2, h3, h4, h5⟩ := (show ObjOk P w H h a (.dT kvs) from rd_of ok e)
  refine ⟨z, y, xs, r, o, es, ep, h1, h2, h3, h4, fun x hx => ?_, h5⟩
  have all : ∀ {l : List (List Key × V)} {m : List (List Key × Addr × Value)}, KT H l m → ∀ x ∈ m, (tupleKind (mixKind P w)).is h x.1 x.2.1 := by
    intro l m q
    induction q with
    | nil => intro x hx; exact nomatch hx
    | @cons p q ps qs hq t ih =>
      intro x hx
      rcases List.mem_cons.mp hx with e | hx
      · subst e
        exact key_of ok (by rw [← hq.1]; exact hq.2.1)
      · exact ih x hx
  exact all r x hx
theorem dt_of {kvs : List (List Key × V)} (ok : HOk P w H h) (e : H a = some (.dT kvs)) : kvs.length ≤ sizeLine ∧ (a == sysModules) = false ∧
    ∃ xs, KT H kvs xs ∧ h.DictOfH (tupleKind (mixKind P w)) a xs := dt_rd ok (.inl e)
end
def DGet (H : Hp) (a : Addr) (y : V) (r : Option V) : Prop :=
  (∃ kvs k, Rd H a (.dK kvs) ∧ y = kV k ∧ r = valV kvs k) ∨ ∃ kvs k b, Rd H a (.dT kvs) ∧ y = .ref b ∧ H b = some (.tup (k.map kV)) ∧ r = valV kvs k
def DPut (H : Hp) (a : Addr) (y v : V) (H' : Hp) : Prop :=
  (∃ kvs k, H a = some (.dK kvs) ∧ y = kV k ∧ kvs.length < sizeLine ∧ H' = upd H a (.dK (putK kvs k v))) ∨
  ∃ kvs k b, H a = some (.dT kvs) ∧ y = .ref b ∧ H b = some (.tup (k.map kV)) ∧ kvs.length < sizeLine ∧ H' = upd H a (.dT (putK kvs k v))
theorem DGet.k {H : Hp} {a : Addr} {kvs : List (Key × V)} {k : Key} (e : H a = some (.dK kvs)) : DGet H a (kV k) (valV kvs k) := .inl ⟨kvs, k, .inl e, rfl, rfl⟩
theorem DGet.t {H : Hp} {a b : Addr} {kvs : List (List Key × V)} {k : List Key} (e : H a = some (.dT kvs)) (eb : H b = some (.tup (k.map kV))) : DGet H a (.ref b) (valV kvs k) := .inr ⟨kvs, k, b, .inl e, rfl, eb, rfl⟩
theorem DPut.k {H : Hp} {a : Addr} {kvs : List (Key × V)} {k : Key} {v : V} (e : H a = some (.dK kvs)) (hl : kvs.length < sizeLine) : DPut H a (kV k) v (upd H a (.dK (putK kvs k v))) := .inl ⟨kvs, k, e, rfl, hl, rfl⟩
theorem DPut.t {H : Hp} {a b : Addr} {kvs : List (List Key × V)} {k : List Key} {v : V} (e : H a = some (.dT kvs)) (eb : H b = some (.tup (k.map kV))) (hl : kvs.length < sizeLine) :
    DPut H a (.ref b) v (upd H a (.dT (putK kvs k v))) := .inr ⟨kvs, k, b, e, rfl, eb, hl, rfl⟩
section
variable {X : Cx} {pins : List (Addr × Obj)} {σ : St} {H : Hp} {s : Shared} {a : Addr} {y v : V} {u r : Value} {o : Option V} {A : Around} {E : Value → Shared → Prop}
theorem d_getItem {Q : Value → Shared → Prop} (hu : A.units + 1 < cLine) (I : Inv X pins σ H s) (g : DGet H a y (some v)) (ry : RelV y u) (h : ∀ w' s', Inv X pins σ H s' → RelV v w' → Q w' s') :
    wpAny (model X.prog X.w) A (getItem (.ref a) u) Q E s := by
  rcases g with ⟨kvs, k, e, ey, l⟩ | ⟨kvs, k, b, e, ey, eb, l⟩
  · subst ey
    obtain ⟨z, hd, vs, rel, dd⟩ := dk_rd I.hok e
    obtain ⟨w', hw, rw'⟩ := RelO.some_of (v := v) (o := valueAt vs k) (by rw [l]; exact rel.val k)
    exact wpAny_getItem_of (kV_is ry) dd.mapOf hw (h w' _ (I.tok _) rw')
  · subst ey
    cases (show u = Value.ref b from ry)
    obtain ⟨z, hd, xs, rel, dd⟩ := dt_rd I.hok e
    obtain ⟨w', hw, rw'⟩ := RelO.some_of (v := v) (o := (atKey xs k).map (·.2)) (by rw [l]; exact rel.val k)
    obtain ⟨p, hp, hp2⟩ := Option.map_eq_some_iff.mp hw
    refine wpAny_getItem_heap (tupleKind_room_in1 hu) (key_of I.hok eb) dd hp ?_
    rw [hp2]
    exact h w' _ (I.tok _) rw'
theorem d_in {Q : Value → Shared → Prop} (hu : A.units + 1 < cLine) (I : Inv X pins σ H s) (g : DGet H a y o) (ry : RelV y u) (h : ∀ s', Inv X pins σ H s' → Q (.bool o.isSome) s') :
    wpAny (model X.prog X.w) A (compareOp .In u (.ref a)) Q E s := by
  rcases g with ⟨kvs, k, e, ey, l⟩ | ⟨kvs, k, b, e, ey, eb, l⟩
  · subst ey
    obtain ⟨z, hd, vs, rel, dd⟩ := dk_rd I.hok e
    refine wpAny_in_of (kV_is ry) hd dd.mapOf ?_
    rw [← (rel.val k).isSome_eq, ← l]
    exact h _ (I.tok _)
  · subst ey
    cases (show u = Value.ref b from ry)
    obtain ⟨z, hd, xs, rel, dd⟩ := dt_rd I.hok e
    refine wpAny_in_heap (tupleKind_room_in1 hu) (key_of I.hok eb) hd dd ?_
    have q := (rel.val k).isSome_eq
    rw [Option.isSome_map] at q
    rw [← q, ← l]
    exact h _ (I.tok _)
theorem d_notIn {Q : Value → Shared → Prop} (hu : A.units + 1 < cLine) (I : Inv X pins σ H s) (g : DGet H a y o) (ry : RelV y u) (h : ∀ s', Inv X pins σ H s' → Q (.bool (!o.isSome)) s') :
    wpAny (model X.prog X.w) A (compareOp .NotIn u (.ref a)) Q E s := by
  rcases g with ⟨kvs, k, e, ey, l⟩ | ⟨kvs, k, b, e, ey, eb, l⟩
  · subst ey
    obtain ⟨z, hd, vs, rel, dd⟩ := dk_rd I.hok e
    refine wpAny_notIn_of (kV_is ry) hd dd.mapOf ?_
    rw [← (rel.val k).isSome_eq, ← l]
    exact h _ (I.tok _)
  · subst ey
    cases (show u = Value.ref b from ry)
    obtain ⟨z, hd, xs, rel, dd⟩ := dt_rd I.hok e
    refine wpAny_notIn_heap (tupleKind_room_in1 hu) (key_of I.hok eb) hd dd ?_
    have q := (rel.val k).isSome_eq
    rw [Option.isSome_map] at q
    rw [← q, ← l]
    exact h _ (I.tok _)
theorem d_write {h' : Heap} {t' : Nat} {ob : HO} (I : Inv X pins σ H s) (mu : Mut (H a)) (hs : Heap.SameBut a s.heap h') (he : ∃ q, h'.get? a = some q) (new : ObjOk X.prog X.w (upd H a ob) h' a ob) :
    Inv X pins σ (upd H a ob) { s with heap := h', toks := t' } :=
  I.write (x := a) (e := a) mu (.inl rfl) (fun b q hb z => (hs.2 b hb).trans z) he new
theorem dk_new {P : Program} {w : World} {H' : Hp} {h' : Heap} {kvs : List (Key × V)} {vs : List (Key × Value)} (z : kvs.length ≤ sizeLine) (hd : (a == sysModules) = false) (rel : KV kvs vs) (dd : h'.DictOf (mixKind P w) a vs) :
    ObjOk P w H' h' a (.dK kvs) := ⟨z, hd, vs, rel, dd⟩
theorem d_setItem {H' : Hp} {Q : Unit → Shared → Prop} (hu : A.units + 1 < cLine) (I : Inv X pins σ H s) (g : DPut H a y v H') (ry : RelV y u) (rv : RelV v r) (h : ∀ s', Inv X pins σ H' s' → Q () s') :
    wpAny (model X.prog X.w) A (setItem (.ref a) u r) Q E s := by
  rcases g with ⟨kvs, k, e, ey, l, eH⟩ | ⟨kvs, k, b, e, ey, eb, l, eH⟩
  · subst ey eH
    obtain ⟨z, hd, vs, rel, dd⟩ := dk_of I.hok e
    have hz : vs.length ≤ sizeLine := by rw [← rel.length]; exact z
    have hl : (putK kvs k v).length ≤ sizeLine := by have := length_putK kvs k v; omega
    refine wpAny_setItem_pairs (hsz := hz) (kV_is ry) dd fun h' dd' hs => h _ ?_
    have he : ∃ q, h'.get? a = some q := let ⟨q, _, _, hq, _⟩ := dd'; ⟨q, hq⟩
    exact d_write I (by rw [e]; exact True.intro) hs he (dk_new hl hd (rel.put k rv) dd')
  · subst ey eH
    cases (show u = Value.ref b from ry)
    obtain ⟨z, hd, xs, rel, dd⟩ := dt_of I.hok e
    have hz : xs.length ≤ sizeLine := by rw [← Paired.length rel]; exact z
    have hl : (putK kvs k v).length ≤ sizeLine := by have := length_putK kvs k v; omega
    refine wpAny_setItem_heap (hsz := hz) (tupleKind_room_in1 hu) (key_of I.hok eb) dd fun h' dd' hs => h _ ?_
    obtain ⟨q, es, ep, hq, h2, h3, h4, _, h5⟩ := dd'
    refine d_write I (by rw [e]; exact True.intro) hs ⟨q, hq⟩ ⟨hl, hd, _, (rel.put k eb rv).keeps fun c ys ec => ?_, q, es, ep, hq, h2, h3, h4, h5⟩
    rw [upd_ne (ne_of ec e (fun z => nomatch z))]
    exact ec
end
section
variable {X : Cx} {pins : List (Addr × Obj)} {σ : St} {H : Hp} {s : Shared} {a : Addr} {kvs : List (Key × V)} {k : Key} {u : Value} {A : Around} {E : Value → Shared → Prop}
theorem d_len {Q : Value → Shared → Prop} (I : Inv X pins σ H s) (e : Rd H a (.dK kvs)) (h : ∀ t s', Inv X pins σ H s' → Q (.int kvs.length t) s') : wpAny (model X.prog X.w) A (call (.builtin "len") [.ref a]) Q E s := by
  obtain ⟨z, hd, vs, rel, dd⟩ := dk_rd I.hok e
  refine call_len_dict hd dd (by rw [← rel.length]; rw [sizeLine_eq] at z; omega) ?_
  rw [← rel.length]
  exact h _ _ (I.tok _)
end
def NoSl (i : Expr) : Prop := ∀ ov iv, subscripted i false ov iv = operate [ov, iv] (getItem ov iv)
theorem subD_of {prog : Program} {w : World} {A : Around} {E : Value → Shared → Prop} {s : Shared} {env : Env} {value slice : Expr} {pos : Pos} {T id : String} {Q : Value → Shared → Prop}
    (hl : typeLookup (.type T) "__getitem__" = pure (some (.builtin id))) (hs : NoSl slice)
    (h : wpAny (model prog w) A (eval value env) (fun o s₁ => wpAny (model prog w) A (eval slice env) (fun i s₂ => s₂.TypeIs o T ∧ wpAny (model prog w) A (getItem o i) Q E s₂) E s₁) E s) :
    wpAny (model prog w) A (eval (.Subscript value slice pos) env) Q E s := by
  refine Subscript_ (wpAny_mono h (fun o s₁ h₁ => wpAny_mono h₁ (fun i s₂ h₂ => ?_) fun _ _ x => x) fun _ _ x => x)
  obtain ⟨hT, h₂⟩ := h₂
  unfold subscriptTail
  refine wpAny_bind ?_
  rw [getitemInPython_of_ne hT.not_modules]
  refine wpAny_bind (wpAny_specialOf hT hl ?_)
  have fin : wpAny (model prog w) A (subscripted slice false o i) (fun r s₃ => wpAny (model prog w) A (letTemporaryGo value o r >>= fun _ => pure r) Q E s₃) E s₂ := by
    rw [hs o i]
    exact wpAny_operating (wpAny_mono h₂ (fun r s₃ h₃ => wpAny_bind (wpAny_letTemporaryGo (wpAny_pure h₃))) fun _ _ x => x)
  first
    | exact wpAny_pure (wpAny_bind fin)
    | exact wpAny_bind (wpAny_pure (wpAny_bind fin))
    | exact wpAny_bind fin
theorem dict_typeIs {X : Cx} {pins : List (Addr × Obj)} {σ : St} {H : Hp} {s : Shared} {a : Addr} {y : V} {o : Option V} (I : Inv X pins σ H s) (g : DGet H a y o) : s.TypeIs (.ref a) "dict" := by
  rcases g with ⟨kvs, k, e, _, _⟩ | ⟨kvs, k, b, e, _, _, _⟩
  · obtain ⟨_, _, vs, _, dd⟩ := dk_rd I.hok e
    exact dd.typeIs
  · obtain ⟨_, _, xs, _, dd⟩ := dt_rd I.hok e
    exact dd.typeIs
def tDGet (td ty : TE) : TE := fun σ H Q => td σ H fun x H1 => ty σ H1 fun y H2 => ∃ a v, x = .ref a ∧ DGet H2 a y (some v) ∧ Q v H2
def tDIn (ty td : TE) : TE := fun σ H Q => ty σ H fun y H1 => td σ H1 fun x H2 => ∃ a o, x = .ref a ∧ DGet H2 a y o ∧ Q (.bl o.isSome) H2
def tDNotIn (ty td : TE) : TE := fun σ H Q => ty σ H fun y H1 => td σ H1 fun x H2 => ∃ a o, x = .ref a ∧ DGet H2 a y o ∧ Q (.bl (!o.isSome)) H2
def sDPut (td ty tv : TE) : TS := fun D σ H => tv σ H fun v H1 => td σ H1 fun x H2 => ty σ H2 fun y H3 => ∃ a H4, x = .ref a ∧ DPut H3 a y v H4 ∧ D.nx σ H4
section
variable {X : Cx} {o i e value : Expr} {pos pos' tpos : Pos} {td ty tv : TE}
theorem pe_dget (hu : X.A.units + 1 < cLine) (ho : PE X o td) (hi : PE X i ty) (hs : NoSl i) : PE X (.Subscript o i pos) (tDGet td ty) := by
  intro pins s σ H Q I h
  refine subD_of PySem.F.slot_dict_getitem.lookup hs (thn (ho pins s σ H _ I h) fun u s1 ⟨x, H1, I1, rx, q1⟩ => thn (hi pins s1 σ H1 _ I1 q1) fun iv s2 ⟨y, H2, I2, ry, a, v, ex, g, q2⟩ => ?_)
  subst ex
  obtain rfl : u = Value.ref a := rx
  exact ⟨dict_typeIs I2 g, d_getItem hu I2 g ry fun w' s3 I3 rw' => ⟨v, H2, I3, rw', q2⟩⟩
theorem pc_din (hu : X.A.units + 1 < cLine) (hi : PE X i ty) (ho : PE X o td) : PC X .In i o (tDIn ty td) := by
  intro pins s σ H Q I h
  refine thn (hi pins s σ H _ I h) fun iv s1 ⟨y, H1, I1, ry, q1⟩ => thn (ho pins s1 σ H1 _ I1 q1) fun u s2 ⟨x, H2, I2, rx, a, ov, ex, g, q2⟩ => ?_
  subst ex
  obtain rfl : u = Value.ref a := rx
  exact d_in hu I2 g ry fun s3 I3 => ⟨.bl ov.isSome, H2, I3, rfl, q2⟩
theorem pc_dnotin (hu : X.A.units + 1 < cLine) (hi : PE X i ty) (ho : PE X o td) : PC X .NotIn i o (tDNotIn ty td) := by
  intro pins s σ H Q I h
  refine thn (hi pins s σ H _ I h) fun iv s1 ⟨y, H1, I1, ry, q1⟩ => thn (ho pins s1 σ H1 _ I1 q1) fun u s2 ⟨x, H2, I2, rx, a, ov, ex, g, q2⟩ => ?_
  subst ex
  obtain rfl : u = Value.ref a := rx
  exact d_notIn hu I2 g ry fun s3 I3 => ⟨.bl (!ov.isSome), H2, I3, rfl, q2⟩
theorem ps_dput (hu : X.A.units + 1 < cLine) (ho : PE X o td) (hi : PE X i ty) (hv : PE X value tv) (hs : swapsWith value (some (.Subscript o i pos')) pos.line X.env = pure false) :
    PS X (.Assign [.Subscript o i pos'] value pos) (sDPut td ty tv) := by
  intro pins s σ H D I h
  refine wpAny_Assign_Subscript (thn (hv pins s σ H _ I h) fun r s1 ⟨v, H1, I1, rv, q1⟩ => thn (ho pins s1 σ H1 _ I1 q1) fun u s2 ⟨x, H2, I2, rx, q2⟩ => thn (hi pins s2 σ H2 _ I2 q2) fun iv s3 ⟨y, H3, I3, ry, a, H4, ex, g, q3⟩ => ?_) hs
  subst ex
  obtain rfl : u = Value.ref a := rx
  exact d_setItem hu I3 g ry rv fun s4 I4 => ⟨σ, H4, I4, q3⟩
end
section
variable {X : Cx} {pos : Pos}
end
def mergeK (kvs more : List (Key × V)) : List (Key × V) := more.foldl (fun acc kv => putK acc kv.1 kv.2) kvs
theorem KV.merge : ∀ {more : List (Key × V)} {rs : List (Key × Value)} {kvs : List (Key × V)} {vs : List (Key × Value)}, KV more rs → KV kvs vs → KV (mergeK kvs more) (merged vs rs) := by
  intro more rs kvs vs r
  unfold KV at r
  induction r generalizing kvs vs with
  | nil => intro q; exact q
  | @cons p q ps qs h t ih =>
    intro r0
    have e : KV (putK kvs p.1 p.2) (stored vs q.1 q.2) := by
      have := r0.put p.1 h.2
      rw [← h.1]; exact this
    exact ih e
structure M1 (X : Cx) (o : Expr) (m : Str) (apos : Pos) (e : Expr) (cpos : Pos) : Prop where
  base : attributeBase o m X.env (eval o X.env) = eval o X.env
  few : ((backTo cpos (starEach [e] X.env)).all (fun x => !x.1) && (backToKw cpos (keywordEach [] X.env)).all (fun x => x.1.isSome)
    && decide (([e] : List Expr).length + ([] : List Keyword).length + (if ([] : List Keyword).isEmpty then 0 else 1) < 30)) = true
  line : (apos.endLine == cpos.line) = true
  trees : backTo cpos (starEach [e] X.env) = [(false, eval e X.env)]
structure M2 (X : Cx) (o : Expr) (m : Str) (apos : Pos) (e f : Expr) (cpos : Pos) : Prop where
  base : attributeBase o m X.env (eval o X.env) = eval o X.env
  few : ((backTo cpos (starEach [e, f] X.env)).all (fun x => !x.1) && (backToKw cpos (keywordEach [] X.env)).all (fun x => x.1.isSome)
    && decide (([e, f] : List Expr).length + ([] : List Keyword).length + (if ([] : List Keyword).isEmpty then 0 else 1) < 30)) = true
  line : (apos.endLine == cpos.line) = true
  trees : backTo cpos (starEach [e, f] X.env) = [(false, eval e X.env), (false, eval f X.env)]
def IsD (H : Hp) (a : Addr) : Prop := (∃ kvs, Rd H a (.dK kvs)) ∨ ∃ kvs, Rd H a (.dT kvs)
theorem isD_at {X : Cx} {pins : List (Addr × Obj)} {σ : St} {H : Hp} {s : Shared} {a : Addr} (I : Inv X pins σ H s) (d : IsD H a) :
    s.TypeIs (.ref a) "dict" ∧ (∀ b, Value.ref a = .ref b → ∃ ob, s.heap.get? b = some ob ∧ ob.dict = none) ∧ (a == sysModules) = false := by
  rcases d with ⟨kvs, e⟩ | ⟨kvs, e⟩
  · obtain ⟨_, hd, vs, _, dd⟩ := dk_rd I.hok e
    refine ⟨dd.typeIs, fun b q => ?_, hd⟩
    cases q
    obtain ⟨ob, _, _, h1, h2, _⟩ := dd
    exact ⟨ob, h1, h2.2.1⟩
  · obtain ⟨_, hd, xs, _, dd⟩ := dt_rd I.hok e
    refine ⟨dd.typeIs, fun b q => ?_, hd⟩
    cases q
    obtain ⟨ob, _, _, h1, h2, _⟩ := dd
    exact ⟨ob, h1, h2.2.1⟩
section
variable {X : Cx} {pins : List (Addr × Obj)} {σ : St} {H : Hp} {s : Shared} {a : Addr} {y d : V} {u r : Value} {o : Option V} {A : Around} {E : Value → Shared → Prop}
theorem d_get2 {Q : Value → Shared → Prop} (hu : A.units + 1 < cLine) (I : Inv X pins σ H s) (g : DGet H a y o) (ry : RelV y u) (rd : RelV d r) (h : ∀ w' s', Inv X pins σ H s' → RelV (o.getD d) w' → Q w' s') :
    wpAny (model X.prog X.w) A (call (.builtin "dict.get") [.ref a, u, r]) Q E s := by
  rcases g with ⟨kvs, k, e, ey, l⟩ | ⟨kvs, k, b, e, ey, eb, l⟩
  · subst ey
    obtain ⟨z, hd, vs, rel, dd⟩ := dk_rd I.hok e
    refine call_meetsIn PySem.F.slot_dict_get dd.typeIs PySem.F.entry_dict_get (PySem.F.args_dict_get_3 _ _ _) (meets_dict_get_default (mixKind X.prog X.w) a (kV_is ry) hd r) ⟨_, dd.mapOf, h _ _ (I.tok _) ?_⟩
    rw [l]
    exact (rel.val k).getD rd
  · subst ey
    cases (show u = Value.ref b from ry)
    obtain ⟨z, hd, xs, rel, dd⟩ := dt_rd I.hok e
    refine call_meetsIn PySem.F.slot_dict_get dd.typeIs PySem.F.entry_dict_get (PySem.F.args_dict_get_3 _ _ _) (meetsH_dict_get_default (tupleKind (mixKind X.prog X.w)) a b hd r) ⟨tupleKind_room_in1 hu, k, xs, key_of I.hok eb, dd, h _ _ (I.tok _) ?_⟩
    rw [l]
    exact (rel.val k).getD rd
end
def tDGet2 (td ty tx : TE) : TE := fun σ H Q => td σ H fun x H1 => ∃ a, x = .ref a ∧ IsD H1 a ∧ ty σ H1 fun y H2 => tx σ H2 fun z H3 => ∃ o, DGet H3 a y o ∧ Q (o.getD z) H3
section
variable {X : Cx} {o e f : Expr} {apos cpos : Pos} {td ty tx : TE}
theorem pe_dget2 (hu : X.A.units + 1 < cLine) (ho : PE X o td) (he : PE X e ty) (hf : PE X f tx) (m : M2 X o "get" apos e f cpos) : PE X (.Call (.Attribute o "get" apos) [e, f] [] cpos) (tDGet2 td ty tx) := by
  intro pins s σ H Q I h
  refine wpAny_Call_method m.base m.few m.line PySem.F.plainAttrs_dict PySem.F.slot_dict_get PySem.F.type_dict_get (thn (ho pins s σ H _ I h) fun u s1 ⟨x, H1, I1, rx, a, ex, d, q1⟩ => ?_)
  subst ex
  obtain rfl : u = Value.ref a := rx
  obtain ⟨t1, t2, _⟩ := isD_at I1 d
  refine ⟨t1, t2, ?_⟩
  rw [m.trees]
  refine Calls.callWith_builtin rfl (Calls.evalArgs_plain (Calls.spliced_cons (thn (he pins s1 σ H1 _ I1 q1) fun iv s2 ⟨y, H2, I2, ry, q2⟩ =>
    Calls.spliced_cons (thn (hf pins s2 σ H2 _ I2 q2) fun fv s3 ⟨z, H3, I3, rz, ov, g, q3⟩ => Calls.spliced_nil ?_))))
  exact d_get2 hu I3 g ry rz fun w' s4 I4 rw' => ⟨_, H3, I4, rw', q3⟩
end
section
variable {X : Cx} {pins : List (Addr × Obj)} {σ : St} {H : Hp} {s : Shared} {a : Addr} {kvs : List (Key × V)} {A : Around} {E : Value → Shared → Prop}
end
section
variable {X : Cx} {pins : List (Addr × Obj)} {σ : St} {H : Hp} {s : Shared} {a : Addr} {y : V} {u : Value} {A : Around} {E : Value → Shared → Prop}
end
end L2
namespace L2
open PySem PySem.Spec PyProof.Rows
section
variable {X : Cx}
theorem call_lenD : CallR X (.builtin "len") (fun xs H Q => ∃ a kvs, xs = [V.ref a] ∧ H a = some (.dK kvs) ∧ Q (.int kvs.length) H) := by
  intro pins s σ H xs us Q I r h
  obtain ⟨a, kvs, rfl, ha, q⟩ := h
  obtain ⟨u, rfl, ru⟩ := vals1 r
  cases ru
  exact d_len I (.inl ha) fun t s' I' => ⟨.int kvs.length, H, I', ⟨t, rfl⟩, q⟩
end
section
variable {κ : Type} [DecidableEq κ]
end
end L2
namespace L2
open PySem PySem.Spec PyProof.Rows
section
variable {X : Cx} {pins : List (Addr × Obj)} {σ : St} {H : Hp} {s : Shared} {h' : Heap}
theorem Inv.turned2 {t' : Nat} {i1 i2 : Addr} (I : Inv X pins σ H s) (k : ∀ b o, b ≠ i1 → b ≠ i2 → s.heap.get? b = some o → h'.get? b = some o) (f1 : FpOk X pins H i1) (f2 : FpOk X pins H i2) : Inv X pins σ H { s with heap := h', toks := t' } := by
  obtain ⟨a0, a1, a2, a3, a4, a5⟩ := f1
  obtain ⟨b0, b1, b2, b3, b4, b5⟩ := f2
  have n1 : ∀ b u, H b = some u → b ≠ i1 := fun b u e z => by rw [z, a0] at e; cases e
  have n2 : ∀ b u, H b = some u → b ≠ i2 := fun b u e z => by rw [z, b0] at e; cases e
  refine I.step (g' := s.gens) (d' := s.drawn) (ch := [i1, i2]) (fun b hb => ?_) (fun b o _ _ hc e _ => k b o (fun z => hc (by simp [z])) (fun z => hc (by simp [z])) e) (fun b o _ _ hc e _ => ⟨o.slots, k b o (fun z => hc (by simp [z])) (fun z => hc (by simp [z])) e⟩) (fun _ _ _ _ n => n)
    (fun b o hc e => ⟨o, k b o (fun z => hc (by simp [z])) (fun z => hc (by simp [z])) e⟩) (fun _ _ e => e) (fun _ _ _ e => e) (fun b ps e => ⟨#[], by rw [e]; simp⟩) (fun m hm => ?_) (fun b u e => ?_) I.bare
  · rcases List.mem_cons.mp hb with e | e
    · subst e; exact ⟨a3, a1, a4, a5⟩
    · have e := List.mem_singleton.mp e
      subst e; exact ⟨b3, b1, b4, b5⟩
  · obtain ⟨o, es, ep, ho, r⟩ := hm
    exact ⟨o, es, ep, k _ o (Ne.symm a1) (Ne.symm b1) ho, r⟩
  · refine (I.hok b u e).stay (fun c v hc q => k c v ?_ ?_ q) (fun _ q => q) fun _ _ q => q
    · rcases hc with z | z
      · rw [z]; exact n1 b u e
      · exact n1 c _ z
    · rcases hc with z | z
      · rw [z]; exact n2 b u e
      · exact n2 c _ z
end
def Iten (z : Str) : It := ⟨fun i _ => i < z.length, fun i H x H' => ∃ p c, H p = none ∧ H' = upd H p (.tup [.int (i : Int), .str ⟨#[c]⟩]) ∧ z.cps.toList[i]? = some c ∧ x = .ref p, fun i _ => z.length ≤ i⟩
theorem turn_enum {P : Program} {w : World} {K : PySem.W.Frag} {elts : List Expr} {k} {tpos : Pos} {ty : String} (e it : Addr) (z : Str) (t : Tok) (hei : e ≠ it)
    (D : ∀ A : Around, A.handled = none → Draws P w A it [it] z.cps.size (fun i v => ∃ c u, z.cps[i]? = some c ∧ v = .str ⟨#[c]⟩ u) (fun i h => h.IsStrIter it ty z t i)) :
    Turn P w K (.Tuple elts k tpos) (Iten z) [e, it] e (fun i h => (∃ old, IsEnum h e it (i : Int) old) ∧ h.IsStrIter it ty z t i ∧ i ≤ z.cps.size) where
  mem := by simp
  obj := fun i h st b hb => by
    obtain ⟨⟨old, he⟩, ⟨o, ho, _, hd⟩, _⟩ := st
    rcases List.mem_cons.mp hb with q | q
    · subst q; exact ⟨_, he, fun v q => by cases q⟩
    · have q := List.mem_singleton.mp q
      subst q; exact ⟨o, ho, fun v q => by rw [hd] at q; cases q⟩
  keep := fun i h h' st kk => by
    obtain ⟨⟨old, he⟩, ⟨o, ho, r⟩, hle⟩ := st
    exact ⟨⟨old, kk e (by simp) _ he⟩, ⟨o, kk it (by simp) o ho, r⟩, hle⟩
  item := by
    intro X hP hw hK hc i pins s σ H E I hf st hg
    subst hP hw hK
    obtain ⟨⟨old, he⟩, hit, _⟩ := st
    have hg' : i < z.cps.size := hg
    have helt : e < s.heap.objs.size := Heap.lt_size he
    obtain ⟨oi, hoi, _⟩ := id hit
    have hilt : it < s.heap.objs.size := Heap.lt_size hoi
    have hef : e ∉ [it] := fun q => hei (List.mem_singleton.mp q)
    refine wpAny_pyNext_enum_itemD (D X.A.in1 (I.ok.hd hc)) he hit hg' hei hef fun x h1 tk hPx heo hst hT hsz hk => ?_
    obtain ⟨c, u, hcz, rfl⟩ := hPx
    refine ⟨_, rfl, ?_⟩
    refine wpAny_letOwnedTupleGo_enum (s := { s with heap := h1, toks := tk + 1 }) heo fun h2 he2 hs2 => ?_
    replace hs2 : Heap.SameBut e h1 h2 := hs2
    have hpn : H s.heap.objs.size = none := I.hok.fresh (Nat.le_refl _)
    have hTe : s.heap.objs.size ≠ e := Nat.ne_of_gt helt
    have hT2 : h2.get? s.heap.objs.size = some { cls := .type "tuple", data := .seq #[.int i tk, .str ⟨#[c]⟩ u] } := (hs2.2 _ hTe).trans hT
    have I1 : Inv X pins σ H { s with heap := h2, toks := tk + 1 } := I.turned2 (fun b o h1 h2 q => (hs2.2 b h1).trans (hk b o h1 h2 q)) (hf e (by simp)) (hf it (by simp))
    have f := I.fpOk (H' := H) (Nat.le_refl _) hpn
    have I2 : Inv X pins σ (upd H s.heap.objs.size (.tup [.int (i : Int), .str ⟨#[c]⟩])) { s with heap := h2, toks := tk + 1 } := by
      refine I1.adopt hpn ?_ (Ne.symm f.2.1) f.2.2.2.2.1 f.2.2.2.2.2 ⟨by show 2 ≤ sizeLine; decide, [.int i tk, .str ⟨#[c]⟩ u], .cons ⟨_, rfl⟩ (.cons ⟨_, rfl⟩ .nil), ?_⟩
      · cases q : X.s₀.heap.get? s.heap.objs.size with
        | none => rfl
        | some o => exact absurd (Nat.lt_of_lt_of_le (Heap.lt_size q) I.sz) (Nat.lt_irrefl _)
      · exact ⟨_, hT2, rfl, _, rfl⟩
    refine ⟨.ref s.heap.objs.size, _, I2, rfl, ⟨_, c, hpn, rfl, by rw [Array.getElem?_toList]; exact hcz, rfl⟩, ⟨⟨_, by simpa using he2⟩, ?_, hg'⟩, fun b hb => ?_⟩
    · obtain ⟨o, ho, r⟩ := hst
      exact ⟨o, (hs2.2 it (Ne.symm hei)).trans ho, r⟩
    · rcases List.mem_cons.mp hb with q | q
      · subst q; rw [upd_ne (Nat.ne_of_lt helt)]; exact (hf _ (by simp)).1
      · have q := List.mem_singleton.mp q
        subst q; rw [upd_ne (Nat.ne_of_lt hilt)]; exact (hf _ (by simp)).1
  done := by
    intro X hP hw hK hc i pins s σ H E I hf st hg
    subst hP hw hK
    obtain ⟨⟨old, he⟩, hit, hle⟩ := st
    have hg' : z.cps.size ≤ i := hg
    have e1 : i = z.cps.size := Nat.le_antisymm hle hg'
    subst e1
    obtain ⟨f0, f1, f2, f3, f4, f5⟩ := hf it (by simp)
    exact wpAny_pyNext_enum_endD (D X.A.in1 (I.ok.hd hc)) he hit fun h' eb => ⟨rfl, I.turned (t' := s.toks) (fun b o hb e => eb b o hb e) f0 f1 f3 f4 f5⟩
  self := fun A i s Q E st h => wpAny_pyIter_enum st.1.choose_spec h
section
variable {X : Cx}
def iEnum (te : TE) : TI := fun σ H R => te σ H fun x H1 => ∃ l, x = vt l ∧ R (Iten (tx l)) H1
theorem pi_enum {e : Expr} {te : TE} {elts : List Expr} {k} {tpos p2 pos : Pos} (hg : Gl X "enumerate") (hm : X.mg "enumerate" = none) (hv : bootBuiltins "enumerate" = some (.type "enumerate")) (he : PE X e te)
    (hs2 : starEach [e] X.env = [(false, eval e X.env)] := by rfl) : PI X (.Tuple elts k tpos) (.Call (.Name "enumerate" p2) [e] [] pos) (iEnum te) := by
  intro pins s σ H R I h
  refine wpAny_Call_Name_kw (ld_blt I hg hm hv ?_ (by decide) (by decide))
  refine PyProof.Rows.callWith_type1 (rest := []) ?_ hs2 rfl
  rw [hs2]
  show wpAny _ _ (spliced ((false, eval e X.env) :: backTo pos [])) _ _ s
  refine Calls.spliced_cons (thn (he pins s σ H _ I h) fun u s1 ⟨y, H1, I1, r1, l, el, q1⟩ => ?_)
  subst el
  obtain ⟨t, rfl⟩ := r1
  refine Calls.spliced_nil ?_
  refine call_enumerate_str fun h' hen hit hsz hk => ?_
  refine wpAny_pyIter_enum (s := { s1 with heap := h' }) hen ?_
  have I2 : Inv X pins σ H1 { s1 with heap := h' } := I1.kept (t' := s1.toks) hk
  have hei : s1.heap.objs.size + 1 ≠ s1.heap.objs.size := Nat.succ_ne_self _
  have fp : ∀ b ∈ [s1.heap.objs.size + 1, s1.heap.objs.size], FpOk X pins H1 b := fun b hb => by
    have hle : s1.heap.objs.size ≤ b := by
      rcases List.mem_cons.mp hb with q | q
      · rw [q]; exact Nat.le_succ _
      · rw [List.mem_singleton.mp q]; exact Nat.le_refl _
    exact I1.fpOk hle (I1.hok.fresh hle)
  have D : ∀ A : Around, A.handled = none → Draws X.prog X.w A s1.heap.objs.size [s1.heap.objs.size] (tx l).cps.size (fun i v => ∃ c u, (tx l).cps[i]? = some c ∧ v = .str ⟨#[c]⟩ u) (fun i h => h.IsStrIter s1.heap.objs.size (strIterType (tx l)) (tx l) t i) := fun A hA => by
    unfold strIterType
    cases (tx l).cps.all (· < 128)
    · exact Draws.strWide hA _ _ _
    · exact Draws.strAscii hA _ _ _
  exact ⟨s1.heap.objs.size + 1, [s1.heap.objs.size + 1, s1.heap.objs.size], _, _, H1, rfl, I2, turn_enum _ _ (tx l) t hei D, ⟨⟨_, hen⟩, hit, Nat.zero_le _⟩, fp, q1⟩
theorem for_enum {l : List Nat} {K : PySem.W.Frag} {a b : Nat} {tb : TS} {D : Ends} {σ : St} {H : Hp} (Pv : Nat → St → Hp → Prop) (h0 : Pv 0 σ H)
    (hs : ∀ i c σ H p, l[i]? = some c → Pv i σ H → H p = none → tb { D with nx := Pv (i + 1), ct := Pv (i + 1), bk := D.nx } ((σ.set a (some (.int (i : Int)))).set b (some (vt [c]))) (upd H p (.tup [.int (i : Int), vt [c]]))) (hd : ∀ σ H, Pv l.length σ H → D.nx σ H) :
    ∃ W : Nat → Nat → St → Hp → Prop, (∃ m, W 0 m σ H) ∧ ∀ i m σ H, W i m σ H →
      ((Iten (tx l)).stop i H ∧ D.nx σ H) ∨ ((Iten (tx l)).go i H ∧ ∃ N : St → Hp → Prop, (∀ σ' H', N σ' H' → ∃ m', m' < m ∧ W (i + 1) m' σ' H') ∧ ∀ x H', (Iten (tx l)).yld i H x H' → gTup K 2 (gCons (gName a) (gCons (gName b) gNil)) x σ H' fun σ2 H2 => tb { D with nx := N, ct := N, bk := D.nx } σ2 H2) := by
  have hz : (tx l).length = l.length := tx_len l
  refine ⟨fun i m σ H => m = l.length - i ∧ i ≤ l.length ∧ Pv i σ H, ⟨l.length, by simp, Nat.zero_le _, h0⟩, ?_⟩
  rintro i m σ H ⟨rfl, hi, p⟩
  by_cases hlt : i < l.length
  · refine .inr ⟨by show i < (tx l).length; omega, Pv (i + 1), fun σ' H' p' => ⟨l.length - (i + 1), by omega, rfl, hlt, p'⟩, ?_⟩
    rintro x H' ⟨q, c, hq, rfl, hc, rfl⟩
    exact ⟨q, _, rfl, SqT.of upd_same, rfl, _, _, rfl, _, _, rfl, rfl, hs i c σ H q hc p hq⟩
  · have e : i = l.length := by omega
    subst e
    exact .inl ⟨by show (tx l).length ≤ l.length; omega, hd σ H p⟩
end
end L2
namespace L2
open PySem PySem.Spec PyProof.Rows
section
variable {X : Cx}
def rIndex : V → List V → Hp → VK → Prop := fun x vs H Q => ∃ l c, x = vt l ∧ vs = [vt [c]] ∧ c ∈ l ∧ ∀ j : Nat, l[j]? = some c → Q (.int (j : Int)) H
theorem mt_index : MtR X "str.index" rIndex := by
  intro pins s σ H x vs v us Q I rx rs h
  obtain ⟨l, c, rfl, rfl, hc, q⟩ := h
  obtain ⟨t, rfl⟩ := rx
  obtain ⟨u, rfl, ru⟩ := vals1 rs
  obtain ⟨t2, rfl⟩ := ru
  have hf := StrLaws.found_one (tx l) c
  rw [show (tx l).cps.toList = l from rfl, decide_eq_true hc] at hf
  cases ho : Builtin.Str.occurrences (tx l) (tx [c]) 0 (tx l).length 1 with
  | nil =>
    have : (Builtin.Str.occurrences (tx l) ⟨#[c]⟩ 0 (tx l).length 1) = [] := ho
    rw [this] at hf; cases hf
  | cons i rest =>
    have hi : i ∈ Builtin.Str.occurrences (tx l) ⟨#[c]⟩ 0 (tx l).length 1 := by
      rw [show Builtin.Str.occurrences (tx l) ⟨#[c]⟩ 0 (tx l).length 1 = i :: rest from ho]; exact List.mem_cons_self
    have hat := (StrLaws.subAt_one (tx l) c i).mp (StrLaws.occ_spec _ _ _ _ _ i hi)
    exact call_gives PySem.F.slot_str_index (typeIs_str _ _ _) PySem.F.entry_str_index (PySem.F.args_str_index_2 _ _) (gives_str_index (tx l) (tx [c]) t t2 i rest ho) ⟨.int i, H, I.tok _, ⟨_, rfl⟩, q i hat⟩
def rFind : V → List V → Hp → VK → Prop := fun x vs H Q => ∃ l c, x = vt l ∧ vs = [vt [c]] ∧ c ∈ l ∧ ∀ j : Nat, l[j]? = some c → Q (.int (j : Int)) H
theorem mt_find : MtR X "str.find" rFind := by
  intro pins s σ H x vs v us Q I rx rs h
  obtain ⟨l, c, rfl, rfl, hc, q⟩ := h
  obtain ⟨t, rfl⟩ := rx
  obtain ⟨u, rfl, ru⟩ := vals1 rs
  obtain ⟨t2, rfl⟩ := ru
  have hf := StrLaws.found_one (tx l) c
  rw [show (tx l).cps.toList = l from rfl, decide_eq_true hc] at hf
  have g := gives_str_find (tx l) (tx [c]) t t2
  cases ho : Builtin.Str.occurrences (tx l) (tx [c]) 0 (tx l).length 1 with
  | nil =>
    have : (Builtin.Str.occurrences (tx l) ⟨#[c]⟩ 0 (tx l).length 1) = [] := ho
    rw [this] at hf; cases hf
  | cons i rest =>
    have hi : i ∈ Builtin.Str.occurrences (tx l) ⟨#[c]⟩ 0 (tx l).length 1 := by
      rw [show Builtin.Str.occurrences (tx l) ⟨#[c]⟩ 0 (tx l).length 1 = i :: rest from ho]; exact List.mem_cons_self
    have hat := (StrLaws.subAt_one (tx l) c i).mp (StrLaws.occ_spec _ _ _ _ _ i hi)
    rw [ho] at g
    exact call_gives PySem.F.slot_str_find (typeIs_str _ _ _) PySem.F.entry_str_find (PySem.F.args_str_find_2 _ _) g ⟨.int i, H, I.tok _, ⟨_, rfl⟩, q i hat⟩
def rGetL (K : PySem.W.Frag) : V → V → Hp → VK → Prop := fun x y H Q => ∃ p xs i v, x = .ref p ∧ y = .int i ∧ SqL K H p xs ∧ 0 ≤ i ∧ atI xs i = some v ∧ Q v H
theorem get_list : PGet X (rGetL X.K) := by
  intro pins s σ H x y v u Q I rx ry h
  obtain ⟨p, xs, i, z, rfl, rfl, hq, h0, he, q⟩ := h
  cases rx
  obtain ⟨t, rfl⟩ := ry
  obtain ⟨its, r, pl, hz⟩ := I.list hq
  obtain ⟨j, h1, h2, h3, h4, h5⟩ := atI_get he
  obtain ⟨w, ew, rw'⟩ := r.get h2
  have hl := r.length
  have hn := line63
  have hj : i.toNat = j := by
    rw [seqIndex_of h0 h5] at h1
    exact Option.some.inj h1
  exact wpAny_getItem_list pl.isList h0 (by omega) (by rw [hj]; simpa using ew) ⟨z, H, I, rw', q⟩
end
end L2
namespace L2
open PySem PySem.Spec PyProof.Rows
structure DEnt (o : Obj) (es : Array DictEntry) (ep : Nat) : Prop where
  ex : o.ExactDict
  da : o.data = .dict es ep
section
variable {prog : Program} {w : World} {A : Around} {E : Value → Shared → Prop} {s : Shared} {o : Obj} {es : Array DictEntry} {ep : Nat} {it d : Addr} {i : Nat}
theorem DEnt.typeIs (D : DEnt o es ep) (ho : s.heap.get? d = some o) : s.TypeIs (.ref d) "dict" := ⟨o, ho, D.ex.1⟩
end
section
variable {X : Cx}
end
end L2
namespace L2
open PySem PySem.Spec PyProof.Rows
section
variable {X : Cx}
theorem callMinL (hc : X.calm = true) : CallR X (.builtin "min") (fun xs H Q => ∃ (p : Addr) (ns : List Int), xs = [.ref p] ∧ SqL X.K H p (ns.map V.int) ∧ ns ≠ [] ∧ ∀ m, m ∈ ns → (∀ a, a ∈ ns → m ≤ a) → Q (.int m) H) := by
  intro pins s σ H vs us Q I r h
  obtain ⟨p, ns, rfl, hp, hne0, q⟩ := h
  obtain ⟨u, rfl, ru⟩ := vals1 r
  cases (show u = Value.ref p from ru)
  obtain ⟨its, rv, pl, _⟩ := I.list hp
  have hlen : its.toArray.size = ns.length := by have := rv.length; rw [List.length_map] at this; simp [this]
  have hl := pl.isList
  obtain ⟨o, ho, _⟩ := id hl
  have hne : p ≠ s.heap.objs.size := Nat.ne_of_lt (Heap.lt_size ho)
  have hh := I.ok.hd hc
  have hpos : 0 < ns.length := List.length_pos_iff.mpr hne0
  have W := (Walks.list (prog := X.prog) (w := X.w) (A := X.A.in1) hh s.heap.objs.size p hne its.toArray)
  rw [hlen] at W
  refine call_min_walk (wpAny_pyIter_list hl ?_)
  refine ⟨s.heap.objs.size, _, _, _, _, _, _, rfl, W, ⟨⟨_, Heap.get?_push_size _ rfl, rfl, rfl⟩, hl.push _⟩, fun b hb => ?_, hpos, CmpOf.ints_lt (fun j => ns.getD j 0) (fun i v hP => vals_intsAt rv i v (by simpa using hP)), fun v h' tk hP hk => ?_⟩
  · rcases List.mem_cons.mp hb with rfl | hb
    · exact Heap.lt_size (Heap.get?_push_size _ rfl)
    · obtain rfl := List.mem_singleton.mp hb
      exact Heap.lt_size (Heap.get?_push_of_some _ ho)
  · obtain ⟨h1, h2⟩ := argBest_lt (fun j => ns.getD j 0) (ns.length - 1)
    obtain ⟨t, rfl⟩ := vals_intsAt rv _ v ((List.getElem?_toArray (xs := its)).symm.trans hP)
    refine ⟨.int _, H, I.kept (t' := tk) fun b u e => hk b u (fun hb => absurd (Heap.lt_size e) ((List.mem_singleton.mp hb) ▸ Nat.lt_irrefl _)) (Heap.get?_push_of_some _ e), ⟨_, rfl⟩, q _ (getD_mem (by omega)) fun a ha => ?_⟩
    obtain ⟨j, hj, rfl⟩ := mem_getD ha
    exact h2 j (by omega)
def callMin (hc : X.calm = true) := (call_min2 (X := X) hc).or (callMinL hc)
end
end L2
namespace L2
open PySem PySem.Spec PyProof.Rows
section
variable {X : Cx}
end
end L2
namespace L2
open PySem PySem.Spec PyProof.Rows
section
variable {prog : Program} {w : World} {A : Around} {E : Value → Shared → Prop} {s : Shared} {it t : Addr} {i : Nat} {items : Array Value} {x : Value}
structure ZApart (z TI TO i1 i2 : Addr) : Prop where
  a1 : TI ≠ z
  a2 : TO ≠ z
  a3 : i1 ≠ z
  a4 : i2 ≠ z
  a5 : TI ≠ TO
  a6 : TI ≠ i1
  a7 : TI ≠ i2
  a8 : TO ≠ i1
  a9 : TO ≠ i2
  a0 : i1 ≠ i2
end
section
variable {X : Cx} {pins : List (Addr × Obj)} {σ : St} {H : Hp} {s : Shared} {h' : Heap}
end
section
variable {X : Cx}
theorem zn {n : Nat} {a b : Nat} (h : a ≠ b) : n + a ≠ n + b := by omega
end
end L2
namespace L2
open PySem PySem.Spec PyProof.Rows
section
variable {X : Cx}
variable {tg : Expr}
end
end L2
namespace L2
open PySem PySem.Spec PyProof.Rows
section
variable {X : Cx}
end
end L2
namespace L2
open PySem PySem.Spec PyProof.Rows
section
variable {X : Cx}
end
end L2
namespace L2
open PySem PySem.Spec PyProof.Rows
theorem keyIs_rel {k : Key} {v : Value} (h : keyIs k v = true) : RelV (kV k) v := by
  rcases keyIs_shape h with ⟨i, t, rfl, rfl⟩ | ⟨x, t, rfl, rfl⟩
  · exact ⟨t, rfl⟩
  · exact ⟨t, rfl⟩
section
variable {X : Cx}
end
end L2
namespace L2
open PySem PySem.Spec PyProof.Rows
end L2
namespace L2
open PySem PySem.Spec PyProof.Rows
section
variable {X : Cx}
end
end L2
namespace L2
open PySem PySem.Spec PyProof.Rows
structure FunD (K : PySem.W.Frag) (x qual : Str) (st : Stmt) (f : Addr) (fd : FuncData) (D : Addr) : Prop where
  ex : ∃ (oc : Value) (od : Option Addr) (kV doc pm : Value) (an : Option Addr) (cdv ct : Value) (osl : Array (Option Value)),
    fd = PySem.W.fnOf x qual (defArgs st) (defBody st) (defScope st) (.ref D) kV doc pm an cdv ct ∧ K.lookup f = some ⟨oc, od, .func fd, osl⟩ ∧ PySem.W.codeIn K cdv qual = true
  kp : PySem.W.keepIn K (.ref f) = true
section
variable {P : Program} {w : World} {K : PySem.W.Frag} {mg : Str → Option Value} {base : Heap}
theorem FunD.okx {x qual : Str} {st : Stmt} {f D : Addr} {fd : FuncData} {N ps : List Str} {k : Nat} {sp : Sp} (F : FunD K x qual st f fd D) (S : FnScope N ps (defScope st)) (len : ∀ vs H Q E, sp vs H Q E → vs.length = ps.length)
    (hbody : ∀ (cdv : Value) (A : Around) (outer : List Env) (s : Shared) (H : Hp) (vs : List V) (Q : VK) (E : XK), Room k (A.deeper (envOfC qual (defScope st) s.heap.objs.size f cdv)) → sp vs H Q E →
      ∃ t, PSs (cxOf (CX1 P w) P w K mg base N qual (defScope st) f cdv A outer s H E) (defBody st) t ∧ t { nx := fun _ H' => Q .non H', rt := Q } (start N vs) H) : FnOk P w K mg base (CX1 P w) (k + 1) f fd ps sp := by
  obtain ⟨oc, od, kV, doc, pm, an, cdv, ct, osl, rfl, lk, hcd⟩ := F.ex
  refine fn_of lk hcd S len fun A outer s H vs Q E hr hsp => ?_
  exact hbody cdv A outer s H vs Q E hr hsp
theorem FunD.binds {x qual : Str} {st : Stmt} {f D : Addr} {fd : FuncData} {ps : List Str} {ds : List Value} {oc' : Value} {od' : Option Addr} {items : Array Value} {n : Nat} {sl' : Array (Option Value)} (F : FunD K x qual st f fd D) (ld : K.lookup D = some ⟨oc', od', .seq items n, sl'⟩)
    (h : ∀ (kV doc pm : Value) (an : Option Addr) (cdv ct : Value) (us : List Value), (us ++ ds).length = ps.length → (∃ k, bindArgs (PySem.W.fnOf x qual (defArgs st) (defBody st) (defScope st) (.ref D) kV doc pm an cdv ct) ⟨us, []⟩ = seqItems? (.ref D) >>= k ∧ k (some items) = pure (ps.zip (us ++ ds))) ∨ bindArgs (PySem.W.fnOf x qual (defArgs st) (defBody st) (defScope st) (.ref D) kV doc pm an cdv ct) ⟨us, []⟩ = pure (ps.zip (us ++ ds))) : Binds K fd ps ds := by
  obtain ⟨oc, od, kV, doc, pm, an, cdv, ct, osl, rfl, lk, hcd⟩ := F.ex
  intro s us KX hl
  rcases h kV doc pm an cdv ct us hl with ⟨k, h1, h2⟩ | h1
  · exact BindsTo.of_defaults (T := D) rfl (KX _ _ ld) rfl h1 h2
  · exact .of_eq h1
end
section
variable {X : Cx}
end
end L2
namespace L2
open PySem PySem.Spec PyProof.Rows
section
variable {X : Cx} {C : Addr} {x : Str} {body : List Stmt} {b₀ : Stmt} {suite : List Stmt} {np hpos pos : Pos} {tb : Pins → (Value → Shared → Prop) → XS → TS} {th : Pins → Value → TS} {bmB : List Value} {newId : String}
end
end L2
namespace L2
open PySem PySem.Spec PyProof.Rows
def put (A' H A : Hp) : Hp := fun b => match A' b with
  | some o => some o
  | none => match A b with
    | some _ => none
    | none => H b
theorem put_new {A' H A : Hp} {b : Addr} {o : HO} (h : A' b = some o) : put A' H A b = some o := by unfold put; rw [h]
theorem put_old {A' H A : Hp} {b : Addr} (h : A' b = none) (h2 : A b = none) : put A' H A b = H b := by unfold put; rw [h, h2]
structure Part (A H : Hp) : Prop where
  sub : Same A H
  tup : ∀ b xs, H b = some (.tup xs) → A b = some (.tup xs)
  own : ∀ a b o, H b = some (.own a) → A a = some o → A b = some (.own a)
  wno : ∀ a b o, H a = some o → A a = none → (∀ xs, o ≠ .lst xs) → H b = some (.own a) → A b = none
structure Aft (A A' H : Hp) : Prop where
  free : ∀ b o, H b = some o → A b = none → A' b = none
  tup : ∀ b xs, A b = some (.tup xs) → A' b = some (.tup xs)
section
variable {P : Program} {w : World} {K : PySem.W.Frag} {mg : Str → Option Value} {base : Heap} {A A' H : Hp} {h h' : Heap}
theorem Part.none (p : Part A H) {b : Addr} (e : H b = none) : A b = none := by
  cases q : A b with
  | none => rfl
  | some o => rw [p.sub b o q] at e; cases e
theorem Part.hok (p : Part A H) (x : HOk P w H h) : HOk P w A h := fun a o e =>
  (x a o (p.sub a o e)).stay (fun _ _ _ q => q) (fun b q => p.own a b o q e) p.tup
theorem Aft.sub (x : Aft A A' H) : Same A' (put A' H A) := fun b o e => put_new e
theorem Aft.rest (x : Aft A A' H) {b : Addr} {o : HO} (e : H b = some o) (n : A b = none) : put A' H A b = some o := by
  rw [put_old (x.free b o e n) n]; exact e
end
end L2
namespace L2
open PySem PySem.Spec PyProof.Rows
section
variable {X : Cx}
end
end L2
namespace L2
open PySem PySem.Spec PyProof.Rows
def isIns : HO → Bool
  | .ins .. => true
  | .frz _ u => isIns u
  | _ => false
section
variable {P : Program} {w : World} {K : PySem.W.Frag} {mg : Str → Option Value} {base : Heap} {A A' H H' : Hp} {h h' : Heap}
theorem ObjOk.swap {a : Addr} : ∀ {o : HO}, ObjOk P w H h a o → isIns o = false → (∀ b xs, H b = some (.tup xs) → H' b = some (.tup xs)) → ObjOk P w H' h a o
  | .lst _, x, _, _ => x
  | .tup _, x, _, _ => x
  | .dK _, x, _, _ => x
  | .dT _, x, _, ht => by
    obtain ⟨z, y, xs, r, ob, es, ep, e, c⟩ := x
    exact ⟨z, y, xs, Paired.mapP r fun p q z => ⟨z.1, ht _ _ z.2.1, z.2.2⟩, ob, es, ep, e, c⟩
  | .set _ _, x, _, _ => x
  | .ins .., _, h, _ => by cases h
  | .own _, x, _, _ => x
  | .xd _, x, _, _ => x
  | .rng _ _, x, _, _ => x
  | .frz _ u, x, h, ht => ⟨x.1, ObjOk.swap (o := u) x.2 h ht⟩
  | .tbl _, x, _, _ => x
  | .met _ _, x, _, _ => x
  | .ext _, x, _, _ => x
def noOwn (H : Hp) : Hp := fun b => match H b with
  | some (.own _) => none
  | o => o
theorem noOwn_tup {b : Addr} {xs : List V} (h : H b = some (.tup xs)) : noOwn H b = some (.tup xs) := by unfold noOwn; rw [h]
theorem noOwn_back {b : Addr} {o : HO} (h : noOwn H b = some o) : H b = some o := by
  unfold noOwn at h
  cases q : H b with
  | none => rw [q] at h; cases h
  | some u => rw [q] at h; cases u <;> first | exact h | cases h
theorem noOwn_own {b x : Addr} (h : noOwn H b = some (.own x)) : False := by
  have := noOwn_back h
  unfold noOwn at h
  rw [this] at h; cases h
theorem ObjOk.stay3 {a : Addr} {o : HO} (x : ObjOk P w H h a o) (k : ∀ u, h.get? a = some u → h'.get? a = some u) (ki : isIns o = true → ∀ b u, H b = some (.own a) → h.get? b = some u → h'.get? b = some u)
    (ho : isIns o = true → ∀ b, H b = some (.own a) → H' b = some (.own a)) (ht : ∀ b xs, H b = some (.tup xs) → H' b = some (.tup xs)) : ObjOk P w H' h' a o := by
  by_cases z : isIns o = true
  · exact x.stay (fun b u hb q => by
      rcases hb with rfl | hb
      · exact k u q
      · exact ki z b u hb q) (ho z) ht
  · have z' : isIns o = false := by simpa using z
    have x2 : ObjOk P w (noOwn H) h a o := x.swap z' fun b xs e => noOwn_tup e
    have x3 : ObjOk P w (noOwn H) h' a o := x2.stay (fun b u hb q => by
      rcases hb with rfl | hb
      · exact k u q
      · exact (noOwn_own hb).elim) (fun b q => q) fun b xs q => q
    exact x3.swap z' fun b xs e => ht b xs (noOwn_back e)
structure Prt (A H : Hp) : Prop where
  sub : Same A H
  tup : ∀ b xs, H b = some (.tup xs) → A b = some (.tup xs)
  own : ∀ a b o, isIns o = true → H b = some (.own a) → A a = some o → A b = some (.own a)
  wno : ∀ a b o, isIns o = true → H a = some o → A a = none → H b = some (.own a) → A b = none
theorem Prt.none (p : Prt A H) {b : Addr} (e : H b = none) : A b = none := by
  cases q : A b with
  | none => rfl
  | some o => rw [p.sub b o q] at e; cases e
theorem Prt.hok (p : Prt A H) (x : HOk P w H h) : HOk P w A h := fun a o e =>
  (x a o (p.sub a o e)).stay3 (fun _ q => q) (fun _ _ _ _ q => q) (fun i b q => p.own a b o i q e) p.tup
end
section
variable {X : Cx}
variable {e st : Expr} {te tst : TE} {pos p2 : Pos}
end
end L2
namespace L2
open PySem PySem.Spec PyProof.Rows
section
variable {X : Cx} {P : Program} {w : World} {k : Nat} {f C : Addr} {fd : FuncData} {ps : List Str} {sp : Sp} {dvs : List V} {ds : List Value} {Φ : XS} {m : Str} {apos pos : Pos} {o e : Expr} {es : List Expr} {t : TA} {ta : TE}
end
end L2
namespace L2
open PySem PySem.Spec PyProof.Rows
section
variable {X : Cx} {o e f : Expr} {apos cpos : Pos} {td ty tx : TE}
end
end L2
namespace PyProof.Rows
open PySem
def gallop' : Bool → Keyed → Array Keyed → Nat → Nat → Nat → StateT SortSt Sem (Option Nat) := sortPriv% PySem.Builtin.gallop
def mergeLo' : Array Keyed → Array Keyed → StateT SortSt Sem (Array Keyed) := sortPriv% PySem.Builtin.mergeLo
def mergeHi' : Array Keyed → Array Keyed → StateT SortSt Sem (Array Keyed) := sortPriv% PySem.Builtin.mergeHi
section
variable {prog : Program} {w : World} {A : Around} {E : Value → Shared → Prop} {s : Shared}
structure Asks (prog : Program) (w : World) (A : Around) (E : Value → Shared → Prop) (s : Shared) (O : KeyOrd) (k : Keyed → O.α) (P : Keyed → Prop) : Prop where
  lt : ∀ (x y : Keyed) (st : SortSt) (Q : Option Bool → SortSt → Prop), P x → P y → kindOf st = oneType' → Q (some (O.blt (k x) (k y))) st → wpS (model prog w) A E s (lt' x y) Q st
variable {O : KeyOrd} {k : Keyed → O.α} {P : Keyed → Prop}
def bey (O : KeyOrd) (k : Keyed → O.α) (left : Bool) (key x : Keyed) : Bool := if left = true then O.blt (k x) (k key) else !(O.blt (k key) (k x))
theorem bey_ok {left : Bool} {key x : Keyed} {arr : Array Keyed} {j : Nat} {st : SortSt} {Q : Option Bool → SortSt → Prop} (a : Asks prog w A E s O k P) (hk : kindOf st = oneType') (pk : P key) (hx : arr[j]? = some x) (px : P x) (h : Q (some (bey O k left key x)) st) :
    wpS (model prog w) A E s (elem' arr j >>= fun x => if left = true then lt' x key else lt' key x >>= fun r => pure (r.map fun b => !b)) Q st := by
  rw [elem'_eq, hx]
  refine wpS_bind (wpS_pure ?_)
  unfold bey at h
  cases left with
  | true => exact a.lt x key st Q px pk hk h
  | false => exact wpS_bind (a.lt key x st _ pk px hk (wpS_pure h))
theorem gallop_ok {left : Bool} {key : Keyed} {arr : Array Keyed} {base n hint : Nat} {st : SortSt} {Q : Option Nat → SortSt → Prop} (F : Nat → Bool) (a : Asks prog w A E s O k P) (hk : kindOf st = oneType') (pk : P key) (h0 : hint < n)
    (hF : ∀ i, i < n → ∃ x, arr[base + i]? = some x ∧ P x ∧ bey O k left key x = F i) (mono : ∀ i j, i ≤ j → j < n → F j = true → F i = true)
    (h : ∀ r, r ≤ n → (∀ i, i < r → F i = true) → (∀ i, r ≤ i → i < n → F i = false) → Q (some r) st) : wpS (model prog w) A E s (gallop' left key arr base n hint) Q st := by
  have ask : ∀ (i : Nat) (R : Option Bool → SortSt → Prop), i < n → R (some (F i)) st → wpS (model prog w) A E s (elem' arr (base + i) >>= fun x => if left = true then lt' x key else lt' key x >>= fun r => pure (r.map fun b => !b)) R st := fun i R hi hr => by
    obtain ⟨x, h1, h2, h3⟩ := hF i hi
    exact bey_ok a hk pk h1 h2 (by rw [h3]; exact hr)
  refine wpS_bind (ask hint _ h0 ?_)
  dsimp only
  cases e0 : F hint with
  | true =>
    simp only [if_true]
    refine wpS_bind (wpS_mono (wpS_forRange (I := fun x c st' => st' = st ∧ ∃ p q, c = (none, p, q) ∧ p < q ∧ x + 1 ≤ q ∧ hint + p < n ∧ F (hint + p) = true)
      (Q := fun c st' => st' = st ∧ ∃ p q, c = (none, p, q) ∧ p < q ∧ hint + p < n ∧ F (hint + p) = true ∧ (n ≤ hint + q ∨ F (hint + q) = false)) ?step ?fin ⟨rfl, 0, 1, rfl, by omega, by omega, by omega, e0⟩) ?post)
    case fin =>
      rintro c st' ⟨rfl, p, q, rfl, h1, h2, h3, h4⟩
      exact ⟨rfl, p, q, rfl, h1, h3, h4, .inl (by omega)⟩
    case step =>
      rintro x c st' _ hxn ⟨rfl, p, q, rfl, h1, h2, h3, h4⟩
      dsimp only
      by_cases hq : q ≥ n - hint
      · rw [if_pos hq]
        exact wpS_pure ⟨rfl, p, q, rfl, h1, h3, h4, .inl (by omega)⟩
      · rw [if_neg hq]
        refine wpS_bind (ask (hint + q) _ (by omega) ?_)
        dsimp only
        cases e1 : F (hint + q) with
        | true =>
          simp only [Bool.not_true, Bool.false_eq_true, if_false]
          exact wpS_pure ⟨rfl, q, 2 * q + 1, rfl, by omega, by omega, by omega, e1⟩
        | false =>
          simp only [Bool.not_false, if_true]
          exact wpS_pure ⟨rfl, p, q, rfl, h1, h3, h4, .inr e1⟩
    case post =>
      rintro c st' ⟨rfl, p, q, rfl, h1, h3, h4, h5⟩
      dsimp only
      refine wpS_bind (wpS_mono (wpS_forRange (I := fun x c st'' => st'' = st' ∧ ∃ lo hi, c = (none, lo, hi) ∧ lo ≤ hi ∧ hi ≤ n ∧ hi - lo ≤ n - x ∧ (∀ i, i < lo → F i = true) ∧ ∀ i, hi ≤ i → i < n → F i = false)
        (Q := fun c st'' => st'' = st' ∧ ∃ lo hi, c = (none, lo, hi) ∧ hi ≤ n ∧ (∀ i, i < hi → F i = true) ∧ ∀ i, hi ≤ i → i < n → F i = false) ?bstep ?bfin ⟨rfl, hint + p + 1, hint + min q (n - hint), rfl, by omega, by omega, by omega, fun i hi => mono i (hint + p) (by omega) h3 h4, fun i g1 g2 => by
        rcases h5 with z | z
        · omega
        · cases e2 : F i with
          | false => rfl
          | true => rw [mono (hint + q) i (by omega) g2 e2] at z; cases z⟩) ?bpost)
      case bfin =>
        rintro c st'' ⟨rfl, lo, hi, rfl, g1, g2, g3, g4, g5⟩
        have : lo = hi := by omega
        subst this
        exact ⟨rfl, lo, lo, rfl, g2, g4, g5⟩
      case bstep =>
        rintro x c st'' _ hxn ⟨rfl, lo, hi, rfl, g1, g2, g3, g4, g5⟩
        dsimp only
        by_cases hq : lo ≥ hi
        · rw [if_pos hq]
          have : lo = hi := by omega
          subst this
          exact wpS_pure ⟨rfl, lo, lo, rfl, g2, g4, g5⟩
        · rw [if_neg hq]
          refine wpS_bind (ask (lo + (hi - lo) / 2) _ (by omega) ?_)
          dsimp only
          cases e1 : F (lo + (hi - lo) / 2) with
          | true =>
            simp only [if_true]
            exact wpS_pure ⟨rfl, lo + (hi - lo) / 2 + 1, hi, rfl, by omega, g2, by omega, fun i hi' => mono i (lo + (hi - lo) / 2) (by omega) (by omega) e1, g5⟩
          | false =>
            simp only [Bool.false_eq_true, if_false]
            refine wpS_pure ⟨rfl, lo, lo + (hi - lo) / 2, rfl, by omega, by omega, by omega, g4, fun i h1 h2 => ?_⟩
            cases e2 : F i with
            | false => rfl
            | true => rw [mono _ i h1 h2 e2] at e1; cases e1
      case bpost =>
        rintro c st'' ⟨rfl, lo, hi, rfl, g2, g4, g5⟩
        exact wpS_pure (h hi g2 g4 g5)
  | false =>
    simp only [Bool.false_eq_true, if_false]
    refine wpS_bind (wpS_mono (wpS_forRange (I := fun x c st' => st' = st ∧ ∃ p q, c = (none, p, q) ∧ p < q ∧ x + 1 ≤ q ∧ p ≤ hint ∧ F (hint - p) = false)
      (Q := fun c st' => st' = st ∧ ∃ p q, c = (none, p, q) ∧ p < q ∧ p ≤ hint ∧ F (hint - p) = false ∧ (hint + 1 ≤ q ∨ (q ≤ hint ∧ F (hint - q) = true))) ?step ?fin ⟨rfl, 0, 1, rfl, by omega, by omega, by omega, e0⟩) ?post)
    case fin =>
      rintro c st' ⟨rfl, p, q, rfl, h1, h2, h3, h4⟩
      exact ⟨rfl, p, q, rfl, h1, h3, h4, .inl (by omega)⟩
    case step =>
      rintro x c st' _ hxn ⟨rfl, p, q, rfl, h1, h2, h3, h4⟩
      dsimp only
      by_cases hq : q ≥ hint + 1
      · rw [if_pos hq]
        exact wpS_pure ⟨rfl, p, q, rfl, h1, h3, h4, .inl hq⟩
      · rw [if_neg hq]
        refine wpS_bind (ask (hint - q) _ (by omega) ?_)
        dsimp only
        cases e1 : F (hint - q) with
        | true =>
          simp only [if_true]
          exact wpS_pure ⟨rfl, p, q, rfl, h1, h3, h4, .inr ⟨by omega, e1⟩⟩
        | false =>
          simp only [Bool.false_eq_true, if_false]
          exact wpS_pure ⟨rfl, q, 2 * q + 1, rfl, by omega, by omega, by omega, e1⟩
    case post =>
      rintro c st' ⟨rfl, p, q, rfl, h1, h3, h4, h5⟩
      dsimp only
      refine wpS_bind (wpS_mono (wpS_forRange (I := fun x c st'' => st'' = st' ∧ ∃ lo hi, c = (none, lo, hi) ∧ lo ≤ hi ∧ hi ≤ n ∧ hi - lo ≤ n - x ∧ (∀ i, i < lo → F i = true) ∧ ∀ i, hi ≤ i → i < n → F i = false)
        (Q := fun c st'' => st'' = st' ∧ ∃ lo hi, c = (none, lo, hi) ∧ hi ≤ n ∧ (∀ i, i < hi → F i = true) ∧ ∀ i, hi ≤ i → i < n → F i = false) ?bstep ?bfin ⟨rfl, hint + 1 - min q (hint + 1), hint - p, rfl, by omega, by omega, by omega, fun i hi => by
        rcases h5 with z | ⟨z1, z2⟩
        · omega
        · exact mono i (hint - q) (by omega) (by omega) z2, fun i g1 g2 => by
        cases e2 : F i with
        | false => rfl
        | true => rw [mono (hint - p) i (by omega) g2 e2] at h4; cases h4⟩) ?bpost)
      case bfin =>
        rintro c st'' ⟨rfl, lo, hi, rfl, g1, g2, g3, g4, g5⟩
        have : lo = hi := by omega
        subst this
        exact ⟨rfl, lo, lo, rfl, g2, g4, g5⟩
      case bstep =>
        rintro x c st'' _ hxn ⟨rfl, lo, hi, rfl, g1, g2, g3, g4, g5⟩
        dsimp only
        by_cases hq : lo ≥ hi
        · rw [if_pos hq]
          have : lo = hi := by omega
          subst this
          exact wpS_pure ⟨rfl, lo, lo, rfl, g2, g4, g5⟩
        · rw [if_neg hq]
          refine wpS_bind (ask (lo + (hi - lo) / 2) _ (by omega) ?_)
          dsimp only
          cases e1 : F (lo + (hi - lo) / 2) with
          | true =>
            simp only [if_true]
            exact wpS_pure ⟨rfl, lo + (hi - lo) / 2 + 1, hi, rfl, by omega, g2, by omega, fun i hi' => mono i (lo + (hi - lo) / 2) (by omega) (by omega) e1, g5⟩
          | false =>
            simp only [Bool.false_eq_true, if_false]
            refine wpS_pure ⟨rfl, lo, lo + (hi - lo) / 2, rfl, by omega, by omega, by omega, g4, fun i h1 h2 => ?_⟩
            cases e2 : F i with
            | false => rfl
            | true => rw [mono _ i h1 h2 e2] at e1; cases e1
      case bpost =>
        rintro c st'' ⟨rfl, lo, hi, rfl, g2, g4, g5⟩
        exact wpS_pure (h hi g2 g4 g5)
end
end PyProof.Rows
namespace PyProof.Rows
open PySem
section
variable {prog : Program} {w : World} {A : Around} {E : Value → Shared → Prop} {s : Shared}
variable {O : KeyOrd} {k : Keyed → O.α} {P : Keyed → Prop}
abbrev Ord (O : KeyOrd) (k : Keyed → O.α) (l : List Keyed) : Prop := l.Pairwise fun x y => O.kle (k x) (k y)
structure Mg (O : KeyOrd) (k : Keyed → O.α) (T ol ra rb : List Keyed) : Prop where
  perm : (ol ++ (ra ++ rb)).Perm T
  so : Ord O k ol
  sa : Ord O k ra
  sb : Ord O k rb
  le : ∀ x ∈ ol, ∀ y ∈ ra ++ rb, O.kle (k x) (k y)
theorem Mg.as {T ol zs ra rb : List Keyed} (h : Mg O k T ol (zs ++ ra) rb) (hz : ∀ z ∈ zs, ∀ y ∈ rb, O.kle (k z) (k y)) : Mg O k T (ol ++ zs) ra rb := by
  have hs := h.sa
  unfold Ord at hs
  rw [List.pairwise_append] at hs
  refine ⟨?_, ?_, hs.2.1, h.sb, fun x hx y hy => ?_⟩
  · refine List.Perm.trans (List.Perm.of_eq ?_) h.perm
    simp only [List.append_assoc]
  · unfold Ord
    rw [List.pairwise_append]
    exact ⟨h.so, hs.1, fun x hx y hy => h.le x hx y (List.mem_append_left _ (List.mem_append_left _ hy))⟩
  · rcases List.mem_append.mp hx with hx | hx
    · refine h.le x hx y ?_
      rcases List.mem_append.mp hy with hy | hy
      · exact List.mem_append_left _ (List.mem_append_right _ hy)
      · exact List.mem_append_right _ hy
    · rcases List.mem_append.mp hy with hy | hy
      · exact hs.2.2 x hx y hy
      · exact hz x hx y hy
theorem Mg.bs {T ol zs ra rb : List Keyed} (h : Mg O k T ol ra (zs ++ rb)) (hz : ∀ z ∈ zs, ∀ y ∈ ra, O.kle (k z) (k y)) : Mg O k T (ol ++ zs) ra rb := by
  have hs := h.sb
  unfold Ord at hs
  rw [List.pairwise_append] at hs
  refine ⟨?_, ?_, h.sa, hs.2.1, fun x hx y hy => ?_⟩
  · refine List.Perm.trans ?_ h.perm
    rw [List.append_assoc]
    refine List.Perm.append_left _ ?_
    rw [← List.append_assoc, ← List.append_assoc]
    exact List.Perm.append_right _ List.perm_append_comm
  · unfold Ord
    rw [List.pairwise_append]
    exact ⟨h.so, hs.1, fun x hx y hy => h.le x hx y (List.mem_append_right _ (List.mem_append_left _ hy))⟩
  · rcases List.mem_append.mp hx with hx | hx
    · refine h.le x hx y ?_
      rcases List.mem_append.mp hy with hy | hy
      · exact List.mem_append_left _ hy
      · exact List.mem_append_right _ (List.mem_append_right _ hy)
    · rcases List.mem_append.mp hy with hy | hy
      · exact hz x hx y hy
      · exact hs.2.2 x hx y hy
theorem Mg.fin {T ol ra : List Keyed} (h : Mg O k T ol ra []) : (ol ++ ra).Perm T ∧ Ord O k (ol ++ ra) := by
  have h1 := h.perm
  rw [List.append_nil] at h1
  refine ⟨h1, ?_⟩
  unfold Ord
  rw [List.pairwise_append]
  exact ⟨h.so, h.sa, fun x hx y hy => h.le x hx y (List.mem_append_left _ hy)⟩
structure Like (st st' : SortSt) : Prop where
  kind : kindOf st' = kindOf st
  arr : arrOf st' = arrOf st
  pend : pendingOf st' = pendingOf st
  fail : failedOf st' = failedOf st
theorem Like.refl (st : SortSt) : Like st st := ⟨rfl, rfl, rfl, rfl⟩
theorem Like.trans {a b c : SortSt} (h : Like a b) (g : Like b c) : Like a c := ⟨g.kind.trans h.kind, g.arr.trans h.arr, g.pend.trans h.pend, g.fail.trans h.fail⟩
def setG' : Nat → StateT SortSt Sem Unit := sortPriv% PySem.Builtin.setMinGallop
theorem setG_ok {g : Nat} {st : SortSt} {Q : Unit → SortSt → Prop} (h : ∀ st', Like st st' → Q () st') : wpS (model prog w) A E s (setG' g) Q st := wpS_modify (h _ ⟨rfl, rfl, rfl, rfl⟩)
theorem elem_ok {arr : Array Keyed} {i : Nat} {x : Keyed} {st : SortSt} {Q : Keyed → SortSt → Prop} (hx : arr[i]? = some x) (h : Q x st) : wpS (model prog w) A E s (elem' arr i) Q st := by
  rw [elem'_eq, hx]
  exact wpS_pure h
theorem drop_at {a : Array Keyed} {i : Nat} (h : i < a.size) : a.toList.drop i = a[i] :: a.toList.drop (i + 1) := by
  rw [List.drop_eq_getElem_cons (by simpa using h)]; simp
theorem get_at {a : Array Keyed} {i : Nat} (h : i < a.size) : a[i]? = some a[i] := getElem?_pos a i h
def GoodR (O : KeyOrd) (k : Keyed → O.α) (T : List Keyed) (r : Array Keyed) : Prop := r.toList.Perm T ∧ Ord O k r.toList
structure Lo (O : KeyOrd) (k : Keyed → O.α) (a b out : Array Keyed) (ia ib : Nat) : Prop where
  ha : ia + 1 < a.size
  hb : ib < b.size
  mg : Mg O k (a.toList ++ b.toList) out.toList (a.toList.drop ia) (b.toList.drop ib)
theorem ext_list (a : Array Keyed) (i j : Nat) : (a.extract i j).toList = (a.toList.drop i).take (j - i) := by
  rw [Array.toList_extract, List.extract_eq_drop_take]
theorem ext_all (a : Array Keyed) (i : Nat) : (a.extract i a.size).toList = a.toList.drop i := by
  rw [ext_list]
  refine List.take_of_length_le ?_
  rw [List.length_drop, Array.length_toList]; omega
theorem good_done {T : List Keyed} {a b out : Array Keyed} {ia ib : Nat} (h : Mg O k T out.toList (a.toList.drop ia) (b.toList.drop ib)) (hi : ib = b.size) : GoodR O k T (out ++ a.extract ia a.size ++ b.extract ib b.size) := by
  have e : b.toList.drop ib = [] := by rw [hi, ← Array.length_toList, List.drop_length]
  rw [e] at h
  unfold GoodR
  rw [Array.toList_append, Array.toList_append, ext_all, ext_all, e, List.append_nil]
  exact h.fin
theorem good_last {T : List Keyed} {a b out : Array Keyed} {ia ib : Nat} (h : Mg O k T out.toList (a.toList.drop ia) (b.toList.drop ib)) (hz : ∀ z ∈ b.toList.drop ib, ∀ y ∈ a.toList.drop ia, O.kle (k z) (k y)) : GoodR O k T (out ++ b.extract ib b.size ++ a.extract ia a.size) := by
  have h2 : Mg O k T out.toList (a.toList.drop ia) (b.toList.drop ib ++ []) := by rw [List.append_nil]; exact h
  have h3 := (h2.bs hz).fin
  unfold GoodR
  rw [Array.toList_append, Array.toList_append, ext_all, ext_all]
  exact h3
theorem mem_drop_at {a : Array Keyed} {i : Nat} {y : Keyed} (h : y ∈ a.toList.drop i) : ∃ j, i ≤ j ∧ ∃ hj : j < a.size, a[j] = y := by
  obtain ⟨j, hj⟩ := List.getElem?_of_mem h
  rw [List.getElem?_drop] at hj
  obtain ⟨h1, h2⟩ := List.getElem?_eq_some_iff.mp hj
  exact ⟨i + j, by omega, by simpa using h1, by simpa using h2⟩
theorem ord_at {a : Array Keyed} (h : Ord O k a.toList) {i j : Nat} (hij : i ≤ j) (hj : j < a.size) : O.kle (k a[i]) (k a[j]) := by
  rcases Nat.lt_or_ge i j with z | z
  · have := List.pairwise_iff_getElem.mp h i j (by simp; omega) (by simpa using hj) z
    simpa using this
  · have : i = j := by omega
    subst this
    exact KeyOrd.kle_refl _
theorem Mg.pushB {T : List Keyed} {a b out : Array Keyed} {ia ib : Nat} (mg : Mg O k T out.toList (a.toList.drop ia) (b.toList.drop ib)) (sa : Ord O k a.toList) (hib : ib < b.size) (hle : ∀ hia : ia < a.size, O.kle (k b[ib]) (k a[ia])) : Mg O k T (out.push b[ib]).toList (a.toList.drop ia) (b.toList.drop (ib + 1)) := by
  rw [drop_at hib] at mg
  rw [Array.toList_push]
  refine Mg.bs (zs := [b[ib]]) mg fun z hz y hy => ?_
  cases List.mem_singleton.mp hz
  obtain ⟨j, hj, hj2, rfl⟩ := mem_drop_at hy
  exact KeyOrd.kle_trans (hle (by omega)) (ord_at sa hj hj2)
theorem Mg.pushA {T : List Keyed} {a b out : Array Keyed} {ia ib : Nat} (mg : Mg O k T out.toList (a.toList.drop ia) (b.toList.drop ib)) (sb : Ord O k b.toList) (hia : ia < a.size) (hle : ∀ hib : ib < b.size, O.kle (k a[ia]) (k b[ib])) : Mg O k T (out.push a[ia]).toList (a.toList.drop (ia + 1)) (b.toList.drop ib) := by
  rw [drop_at hia] at mg
  rw [Array.toList_push]
  refine Mg.as (zs := [a[ia]]) mg fun z hz y hy => ?_
  cases List.mem_singleton.mp hz
  obtain ⟨j, hj, hj2, rfl⟩ := mem_drop_at hy
  exact KeyOrd.kle_trans (hle (by omega)) (ord_at sb hj hj2)
theorem run_list (a : Array Keyed) (i r : Nat) : a.toList.drop i = (a.toList.drop i).take r ++ a.toList.drop (i + r) := by
  rw [← List.drop_drop, List.take_append_drop]
theorem mem_take_at {a : Array Keyed} {i r : Nat} {y : Keyed} (h : y ∈ (a.toList.drop i).take r) : ∃ j, j < r ∧ ∃ hj : i + j < a.size, a[i + j] = y := by
  obtain ⟨j, hj⟩ := List.getElem?_of_mem h
  rw [List.getElem?_take] at hj
  split at hj
  · rename_i hjr
    rw [List.getElem?_drop] at hj
    obtain ⟨h1, h2⟩ := List.getElem?_eq_some_iff.mp hj
    exact ⟨j, hjr, by simpa using h1, by simpa using h2⟩
  · cases hj
theorem Mg.runA {T : List Keyed} {a b out : Array Keyed} {ia ib r : Nat} (mg : Mg O k T out.toList (a.toList.drop ia) (b.toList.drop ib)) (sb : Ord O k b.toList) (hle : ∀ i, i < r → ∀ (h1 : ia + i < a.size) (h2 : ib < b.size), O.kle (k a[ia + i]) (k b[ib])) : Mg O k T (out ++ a.extract ia (ia + r)).toList (a.toList.drop (ia + r)) (b.toList.drop ib) := by
  rw [run_list a ia r] at mg
  rw [Array.toList_append, ext_list, Nat.add_sub_cancel_left]
  refine mg.as fun z hz y hy => ?_
  obtain ⟨i, hi, h1, rfl⟩ := mem_take_at hz
  obtain ⟨j, hj, hj2, rfl⟩ := mem_drop_at hy
  exact KeyOrd.kle_trans (hle i hi h1 (by omega)) (ord_at sb hj hj2)
theorem Mg.runB {T : List Keyed} {a b out : Array Keyed} {ia ib r : Nat} (mg : Mg O k T out.toList (a.toList.drop ia) (b.toList.drop ib)) (sa : Ord O k a.toList) (hle : ∀ j, j < r → ∀ (h1 : ib + j < b.size) (h2 : ia < a.size), O.kle (k b[ib + j]) (k a[ia])) : Mg O k T (out ++ b.extract ib (ib + r)).toList (a.toList.drop ia) (b.toList.drop (ib + r)) := by
  rw [run_list b ib r] at mg
  rw [Array.toList_append, ext_list, Nat.add_sub_cancel_left]
  refine mg.bs fun z hz y hy => ?_
  obtain ⟨i, hi, h1, rfl⟩ := mem_take_at hz
  obtain ⟨j, hj, hj2, rfl⟩ := mem_drop_at hy
  exact KeyOrd.kle_trans (hle i hi h1 (by omega)) (ord_at sa hj hj2)
theorem mergeLo_ok {a b : Array Keyed} {st : SortSt} {Q : Array Keyed → SortSt → Prop} (asks : Asks prog w A E s O k P) (hk : kindOf st = oneType') (ha : 1 ≤ a.size) (hb : 1 ≤ b.size) (pa : ∀ x ∈ a.toList, P x) (pb : ∀ x ∈ b.toList, P x) (sa : Ord O k a.toList) (sb : Ord O k b.toList)
    (h1 : ∀ y ∈ a.toList, O.kle (k b[0]) (k y)) (hl : ∀ z ∈ b.toList, O.klt (k z) (k a[a.size - 1])) (h : ∀ r st', Like st st' → GoodR O k (a.toList ++ b.toList) r → Q r st') : wpS (model prog w) A E s (mergeLo' a b) Q st := by
  have qa : ∀ {i} (hi : i < a.size), P a[i] := fun hi => pa _ (by simp)
  have qb : ∀ {i} (hi : i < b.size), P b[i] := fun hi => pb _ (by simp)
  have lastA : ∀ {ia ib : Nat}, ia + 1 = a.size → ∀ z ∈ b.toList.drop ib, ∀ y ∈ a.toList.drop ia, O.kle (k z) (k y) := fun {ia ib} e z hz y hy => by
    obtain ⟨j, hj, hj2, rfl⟩ := mem_drop_at hy
    have : j = a.size - 1 := by omega
    subst this
    exact KeyOrd.kle_of_klt (hl z (List.mem_of_mem_drop hz))
  refine wpS_bind (wpS_lift (wpAny_rule ⟨rfl, ?_⟩))
  try dsimp only
  refine wpS_bind (elem_ok (get_at (show 0 < b.size by omega)) ?_)
  have m0 : Mg O k (a.toList ++ b.toList) (#[b[0]] : Array Keyed).toList (a.toList.drop 0) (b.toList.drop 1) := by
    have h0 : Mg O k (a.toList ++ b.toList) [] a.toList ([b[0]] ++ b.toList.drop 1) := by
      have e : [b[0]] ++ b.toList.drop 1 = b.toList := (drop_at (a := b) (i := 0) (by omega)).symm
      rw [e]
      exact ⟨List.Perm.refl _, List.Pairwise.nil, sa, sb, fun x hx => nomatch hx⟩
    exact h0.bs fun z hz y hy => by cases List.mem_singleton.mp hz; exact h1 y hy
  by_cases e1 : b.size = 1
  · rw [if_pos (by simp [e1])]
    exact wpS_pure (h _ _ (Like.refl _) (good_done m0 e1.symm))
  rw [if_neg (by simp; omega)]
  by_cases e2 : a.size = 1
  · rw [if_pos (by simp [e2])]
    exact wpS_pure (h _ _ (Like.refl _) (good_last m0 (lastA (ia := 0) e2.symm)))
  rw [if_neg (by simp; omega)]
  refine wpS_bind (wpS_get ?_)
  try dsimp only
  have inst : ∀ {out : Array Keyed} {ia ib : Nat}, Lo O k a b out ia ib → ia + ib < a.size + b.size := fun h => by have := h.ha; have := h.hb; omega
  refine wpS_bind (wpS_mono (wpS_forRange (I := fun x c st' => Like st st' ∧ ∃ out ia ib mg, c = (none, out, ia, ib, mg) ∧ Lo O k a b out ia ib ∧ x + 1 ≤ ia + ib)
    (Q := fun c st' => Like st st' ∧ ∃ r out ia ib mg, c = (some r, out, ia, ib, mg) ∧ GoodR O k (a.toList ++ b.toList) r) ?step ?fin ⟨Like.refl _, _, 0, 1, _, rfl, ⟨by omega, by omega, m0⟩, by omega⟩) ?post)
  case fin =>
    rintro c st' ⟨_, out, ia, ib, mg, rfl, hL, hx⟩
    have := inst hL
    omega
  case post =>
    rintro c st' ⟨hst, r, out, ia, ib, mg, rfl, hr⟩
    exact wpS_pure (h r st' hst hr)
  case step =>
    rintro x c st' _ hx ⟨hst, out, ia, ib, mg, rfl, hL, hx2⟩
    try dsimp only
    refine wpS_bind (wpS_mono (wpS_forRange (I := fun y c st'' => st'' = st' ∧ ∃ out2 ia2 ib2 ac bc, c = (none, out2, ia2, ib2, ac, bc) ∧ Lo O k a b out2 ia2 ib2 ∧ ia + ib + y ≤ ia2 + ib2)
      (Q := fun c st'' => st'' = st' ∧ ∃ out2 ia2 ib2 ac bc, (c = (none, out2, ia2, ib2, ac, bc) ∧ Lo O k a b out2 ia2 ib2 ∧ ia + ib ≤ ia2 + ib2) ∨ ∃ r, c = (some r, out2, ia2, ib2, ac, bc) ∧ GoodR O k (a.toList ++ b.toList) r) ?istep ?ifin ⟨rfl, out, ia, ib, 0, 0, rfl, hL, by omega⟩) ?ipost)
    case ifin =>
      rintro c st'' ⟨rfl, out2, ia2, ib2, ac, bc, rfl, hL2, hy⟩
      have := inst hL2
      omega
    case istep =>
      rintro y c st'' _ hy ⟨rfl, out2, ia2, ib2, ac, bc, rfl, hL2, hy2⟩
      try dsimp only
      have hia := hL2.ha
      have hib := hL2.hb
      refine wpS_bind (elem_ok (get_at hib) (wpS_bind (elem_ok (get_at (show ia2 < a.size by omega)) (wpS_bind (asks.lt _ _ _ _ (qb hib) (qa _) (by rw [hst.kind]; exact hk) ?_)))))
      try dsimp only
      cases e : O.blt (k b[ib2]) (k a[ia2]) with
      | true =>
        simp only [if_true]
        refine wpS_bind (elem_ok (get_at hib) ?_)
        have mg' := hL2.mg.pushB sa hib fun _ => KeyOrd.kle_of_klt e
        try dsimp only
        by_cases z : ib2 + 1 = b.size
        · rw [if_pos (by simp [z])]
          exact wpS_pure ⟨rfl, _, _, _, _, _, .inr ⟨_, rfl, good_done mg' z⟩⟩
        · rw [if_neg (by simpa using z)]
          by_cases z2 : bc + 1 ≥ mg
          · rw [if_pos z2]
            exact wpS_pure ⟨rfl, _, _, _, _, _, .inl ⟨rfl, ⟨hia, by omega, mg'⟩, by omega⟩⟩
          · rw [if_neg z2]
            exact wpS_pure ⟨rfl, _, _, _, _, _, rfl, ⟨hia, by omega, mg'⟩, by omega⟩
      | false =>
        simp only [Bool.false_eq_true, if_false]
        refine wpS_bind (elem_ok (get_at (show ia2 < a.size by omega)) ?_)
        have mg' := hL2.mg.pushA sb (show ia2 < a.size by omega) fun _ => e
        try dsimp only
        by_cases z : ia2 + 1 + 1 = a.size
        · rw [if_pos (by simp [z])]
          exact wpS_pure ⟨rfl, _, _, _, _, _, .inr ⟨_, rfl, good_last mg' (lastA z)⟩⟩
        · rw [if_neg (by simpa using z)]
          by_cases z2 : ac + 1 ≥ mg
          · rw [if_pos z2]
            exact wpS_pure ⟨rfl, _, _, _, _, _, .inl ⟨rfl, ⟨by omega, hib, mg'⟩, by omega⟩⟩
          · rw [if_neg z2]
            exact wpS_pure ⟨rfl, _, _, _, _, _, rfl, ⟨by omega, hib, mg'⟩, by omega⟩
    case ipost =>
      rintro c st'' ⟨rfl, out2, ia2, ib2, ac, bc, ⟨rfl, hL2, hy⟩ | ⟨r, rfl, hr⟩⟩
      rotate_left
      · exact wpS_pure ⟨hst, r, _, _, _, _, rfl, hr⟩
      try dsimp only
      refine wpS_bind (wpS_lift (wpAny_rule ⟨rfl, ?_⟩))
      try dsimp only
      refine wpS_bind (wpS_mono (wpS_forRange (I := fun y c s2 => Like st s2 ∧ ∃ out3 ia3 ib3 mg3 ac3 bc3, c = (none, out3, ia3, ib3, mg3, ac3, bc3) ∧ Lo O k a b out3 ia3 ib3 ∧ ia2 + ib2 + y ≤ ia3 + ib3)
        (Q := fun c s2 => Like st s2 ∧ ∃ out3 ia3 ib3 mg3 ac3 bc3, (c = (none, out3, ia3, ib3, mg3, ac3, bc3) ∧ Lo O k a b out3 ia3 ib3 ∧ ia2 + ib2 + 1 ≤ ia3 + ib3) ∨ ∃ r, c = (some r, out3, ia3, ib3, mg3, ac3, bc3) ∧ GoodR O k (a.toList ++ b.toList) r) ?gstep ?gfin ⟨hst, out2, ia2, ib2, _, _, _, rfl, hL2, by omega⟩) ?gpost)
      case gfin =>
        rintro c s2 ⟨_, out3, ia3, ib3, mg3, ac3, bc3, rfl, hL3, hy3⟩
        have := inst hL3
        omega
      case gpost =>
        rintro c s2 ⟨hs2, out3, ia3, ib3, mg3, ac3, bc3, ⟨rfl, hL3, hy3⟩ | ⟨r, rfl, hr⟩⟩
        rotate_left
        · exact wpS_pure ⟨hs2, r, _, _, _, _, rfl, hr⟩
        try dsimp only
        refine wpS_bind (wpS_modify ?_)
        exact wpS_pure ⟨hs2.trans ⟨rfl, rfl, rfl, rfl⟩, _, _, _, _, rfl, hL3, by omega⟩
      case gstep =>
        rintro y c s2 _ hy' ⟨hs2, out3, ia3, ib3, mg3, ac3, bc3, rfl, hL3, hy3⟩
        try dsimp only
        have hia := hL3.ha
        have hib := hL3.hb
        (by_cases hz : mg3 > 1) <;> (first | rw [if_pos hz] | rw [if_neg hz])
        all_goals
          refine wpS_bind (setG_ok fun s3 l3 => ?_)
          have hs3 := hs2.trans l3
          refine wpS_bind (elem_ok (get_at hib) (wpS_bind (gallop_ok (F := fun i => if h : ia3 + i < a.size then !(O.blt (k b[ib3]) (k a[ia3 + i])) else false) asks (by rw [hs3.kind]; exact hk) (qb hib) (by omega) (fun i hi => ⟨_, get_at (show ia3 + i < a.size by omega), qa _, by simp only [bey, Bool.false_eq_true, if_false]; rw [dif_pos (by omega)]⟩) (fun i j hij hj e => ?_) fun r hr hlo hhi => ?_)))
          · rw [dif_pos (by omega)] at e ⊢
            rw [Bool.not_eq_true'] at e ⊢
            exact KeyOrd.kle_trans (ord_at sa (show ia3 + i ≤ ia3 + j by omega) (by omega)) e
          have A1 : ∀ i, i < r → ∀ (h1 : ia3 + i < a.size) (h2 : ib3 < b.size), O.kle (k a[ia3 + i]) (k b[ib3]) := fun i hi h1 h2 => by
            have := hlo i hi
            rw [dif_pos h1, Bool.not_eq_true'] at this
            exact this
          have A2 : ∀ h1 : ia3 + r < a.size, O.klt (k b[ib3]) (k a[ia3 + r]) := fun h1 => by
            have := hhi r (Nat.le_refl _) (by omega)
            rw [dif_pos h1, Bool.not_eq_false'] at this
            exact this
          have hra : ia3 + r < a.size := by
            rcases Nat.lt_or_ge (ia3 + r) a.size with z | z
            · exact z
            · have h5 := A1 (a.size - 1 - ia3) (by omega) (by omega) hib
              have h6 := hl b[ib3] (by simp)
              simp only [show ia3 + (a.size - 1 - ia3) = a.size - 1 by omega] at h5
              exact absurd h6 (KeyOrd.not_klt_of_kle h5)
          try dsimp only
          by_cases zr : r > 0
          · rw [if_pos zr]
            have mgA := hL3.mg.runA sb A1
            by_cases za : ia3 + r + 1 = a.size
            · rw [if_pos (by simp [za])]
              exact wpS_pure ⟨hs3, _, _, _, _, _, _, .inr ⟨_, rfl, good_last mgA (lastA za)⟩⟩
            rw [if_neg (by simpa using za), if_neg (by simp; omega)]
            refine wpS_bind (elem_ok (get_at hib) ?_)
            have mgB := mgA.pushB sa hib fun h => KeyOrd.kle_of_klt (A2 h)
            try dsimp only
            by_cases zb : ib3 + 1 = b.size
            · rw [if_pos (by simp [zb])]
              exact wpS_pure ⟨hs3, _, _, _, _, _, _, .inr ⟨_, rfl, good_done mgB zb⟩⟩
            rw [if_neg (by simpa using zb)]
            refine wpS_bind (elem_ok (get_at (show (ia3 + r) < a.size by omega)) (wpS_bind (gallop_ok (F := fun j => if h : ib3 + 1 + j < b.size then O.blt (k b[ib3 + 1 + j]) (k (a[(ia3 + r)]'(by omega))) else false) asks (by rw [hs3.kind]; exact hk) (qa _) (by omega) (fun j hj => ⟨_, get_at (show ib3 + 1 + j < b.size by omega), qb _, by simp only [bey, if_true]; rw [dif_pos (by omega)]⟩) (fun i j hij hj e => ?_) fun r2 hr2 hlo2 hhi2 => ?_)))
            · rw [dif_pos (by omega)] at e ⊢
              exact KeyOrd.klt_of_kle_of_klt (ord_at sb (show ib3 + 1 + i ≤ ib3 + 1 + j by omega) (by omega)) e
            have B1 : ∀ j, j < r2 → ∀ (h1 : ib3 + 1 + j < b.size) (h2 : (ia3 + r) < a.size), O.kle (k b[ib3 + 1 + j]) (k a[(ia3 + r)]) := fun j hj h1 h2 => by
              have := hlo2 j hj
              rw [dif_pos h1] at this
              exact KeyOrd.kle_of_klt this
            have B2 : ∀ h1 : ib3 + 1 + r2 < b.size, O.kle (k (a[(ia3 + r)]'(by omega))) (k b[ib3 + 1 + r2]) := fun h1 => by
              have := hhi2 r2 (Nat.le_refl _) (by omega)
              rw [dif_pos h1] at this
              exact this
            try dsimp only
            by_cases zr2 : r2 > 0
            · rw [if_pos zr2]
              have mgC := mgB.runB sa B1
              by_cases zc : ib3 + 1 + r2 = b.size
              · rw [if_pos (by simp [zc])]
                exact wpS_pure ⟨hs3, _, _, _, _, _, _, .inr ⟨_, rfl, good_done mgC zc⟩⟩
              rw [if_neg (by simpa using zc)]
              refine wpS_bind (elem_ok (get_at (show (ia3 + r) < a.size by omega)) ?_)
              have mgD := mgC.pushA sb (show (ia3 + r) < a.size by omega) B2
              try dsimp only
              by_cases zd : (ia3 + r) + 1 + 1 = a.size
              · rw [if_pos (by simp [zd])]
                exact wpS_pure ⟨hs3, _, _, _, _, _, _, .inr ⟨_, rfl, good_last mgD (lastA zd)⟩⟩
              rw [if_neg (by simpa using zd)]
              split
              · exact wpS_pure ⟨hs3, _, _, _, _, _, _, .inl ⟨rfl, ⟨by omega, by omega, mgD⟩, by omega⟩⟩
              · exact wpS_pure ⟨hs3, _, _, _, _, _, _, rfl, ⟨by omega, by omega, mgD⟩, by omega⟩
            · rw [if_neg zr2]
              have e0 : r2 = 0 := by omega
              subst e0
              refine wpS_bind (elem_ok (get_at (show (ia3 + r) < a.size by omega)) ?_)
              have mgD := mgB.pushA sb (show (ia3 + r) < a.size by omega) B2
              try dsimp only
              by_cases zd : (ia3 + r) + 1 + 1 = a.size
              · rw [if_pos (by simp [zd])]
                exact wpS_pure ⟨hs3, _, _, _, _, _, _, .inr ⟨_, rfl, good_last mgD (lastA zd)⟩⟩
              rw [if_neg (by simpa using zd)]
              split
              · exact wpS_pure ⟨hs3, _, _, _, _, _, _, .inl ⟨rfl, ⟨by omega, by omega, mgD⟩, by omega⟩⟩
              · exact wpS_pure ⟨hs3, _, _, _, _, _, _, rfl, ⟨by omega, by omega, mgD⟩, by omega⟩
          · rw [if_neg zr]
            have e0 : r = 0 := by omega
            subst e0
            refine wpS_bind (elem_ok (get_at hib) ?_)
            have mgB := hL3.mg.pushB sa hib fun h => KeyOrd.kle_of_klt (A2 h)
            try dsimp only
            by_cases zb : ib3 + 1 = b.size
            · rw [if_pos (by simp [zb])]
              exact wpS_pure ⟨hs3, _, _, _, _, _, _, .inr ⟨_, rfl, good_done mgB zb⟩⟩
            rw [if_neg (by simpa using zb)]
            refine wpS_bind (elem_ok (get_at (show ia3 < a.size by omega)) (wpS_bind (gallop_ok (F := fun j => if h : ib3 + 1 + j < b.size then O.blt (k b[ib3 + 1 + j]) (k (a[ia3]'(by omega))) else false) asks (by rw [hs3.kind]; exact hk) (qa _) (by omega) (fun j hj => ⟨_, get_at (show ib3 + 1 + j < b.size by omega), qb _, by simp only [bey, if_true]; rw [dif_pos (by omega)]⟩) (fun i j hij hj e => ?_) fun r2 hr2 hlo2 hhi2 => ?_)))
            · rw [dif_pos (by omega)] at e ⊢
              exact KeyOrd.klt_of_kle_of_klt (ord_at sb (show ib3 + 1 + i ≤ ib3 + 1 + j by omega) (by omega)) e
            have B1 : ∀ j, j < r2 → ∀ (h1 : ib3 + 1 + j < b.size) (h2 : ia3 < a.size), O.kle (k b[ib3 + 1 + j]) (k a[ia3]) := fun j hj h1 h2 => by
              have := hlo2 j hj
              rw [dif_pos h1] at this
              exact KeyOrd.kle_of_klt this
            have B2 : ∀ h1 : ib3 + 1 + r2 < b.size, O.kle (k (a[ia3]'(by omega))) (k b[ib3 + 1 + r2]) := fun h1 => by
              have := hhi2 r2 (Nat.le_refl _) (by omega)
              rw [dif_pos h1] at this
              exact this
            try dsimp only
            by_cases zr2 : r2 > 0
            · rw [if_pos zr2]
              have mgC := mgB.runB sa B1
              by_cases zc : ib3 + 1 + r2 = b.size
              · rw [if_pos (by simp [zc])]
                exact wpS_pure ⟨hs3, _, _, _, _, _, _, .inr ⟨_, rfl, good_done mgC zc⟩⟩
              rw [if_neg (by simpa using zc)]
              refine wpS_bind (elem_ok (get_at (show ia3 < a.size by omega)) ?_)
              have mgD := mgC.pushA sb (show ia3 < a.size by omega) B2
              try dsimp only
              by_cases zd : ia3 + 1 + 1 = a.size
              · rw [if_pos (by simp [zd])]
                exact wpS_pure ⟨hs3, _, _, _, _, _, _, .inr ⟨_, rfl, good_last mgD (lastA zd)⟩⟩
              rw [if_neg (by simpa using zd)]
              split
              · exact wpS_pure ⟨hs3, _, _, _, _, _, _, .inl ⟨rfl, ⟨by omega, by omega, mgD⟩, by omega⟩⟩
              · exact wpS_pure ⟨hs3, _, _, _, _, _, _, rfl, ⟨by omega, by omega, mgD⟩, by omega⟩
            · rw [if_neg zr2]
              have e0 : r2 = 0 := by omega
              subst e0
              refine wpS_bind (elem_ok (get_at (show ia3 < a.size by omega)) ?_)
              have mgD := mgB.pushA sb (show ia3 < a.size by omega) B2
              try dsimp only
              by_cases zd : ia3 + 1 + 1 = a.size
              · rw [if_pos (by simp [zd])]
                exact wpS_pure ⟨hs3, _, _, _, _, _, _, .inr ⟨_, rfl, good_last mgD (lastA zd)⟩⟩
              rw [if_neg (by simpa using zd)]
              split
              · exact wpS_pure ⟨hs3, _, _, _, _, _, _, .inl ⟨rfl, ⟨by omega, by omega, mgD⟩, by omega⟩⟩
              · exact wpS_pure ⟨hs3, _, _, _, _, _, _, rfl, ⟨by omega, by omega, mgD⟩, by omega⟩
end
end PyProof.Rows
namespace PyProof.Rows
open PySem
section
variable {prog : Program} {w : World} {A : Around} {E : Value → Shared → Prop} {s : Shared}
variable {O : KeyOrd} {k : Keyed → O.α} {P : Keyed → Prop}
structure Mh (O : KeyOrd) (k : Keyed → O.α) (T ra rb ol : List Keyed) : Prop where
  perm : ((ra ++ rb) ++ ol).Perm T
  so : Ord O k ol
  sa : Ord O k ra
  sb : Ord O k rb
  le : ∀ x ∈ ra ++ rb, ∀ y ∈ ol, O.kle (k x) (k y)
theorem Mh.as {T ol zs ra rb : List Keyed} (h : Mh O k T (ra ++ zs) rb ol) (hz : ∀ z ∈ zs, ∀ y ∈ rb, O.kle (k y) (k z)) : Mh O k T ra rb (zs ++ ol) := by
  have hs := h.sa
  unfold Ord at hs
  rw [List.pairwise_append] at hs
  refine ⟨?_, ?_, hs.1, h.sb, fun x hx y hy => ?_⟩
  · refine List.Perm.trans ?_ h.perm
    rw [← List.append_assoc]
    refine List.Perm.append_right _ ?_
    rw [List.append_assoc, List.append_assoc]
    exact List.Perm.append_left _ List.perm_append_comm
  · unfold Ord
    rw [List.pairwise_append]
    exact ⟨hs.2.1, h.so, fun x hx y hy => h.le x (List.mem_append_left _ (List.mem_append_right _ hx)) y hy⟩
  · rcases List.mem_append.mp hy with hy | hy
    · rcases List.mem_append.mp hx with hx | hx
      · exact hs.2.2 x hx y hy
      · exact hz y hy x hx
    · refine h.le x ?_ y hy
      rcases List.mem_append.mp hx with hx | hx
      · exact List.mem_append_left _ (List.mem_append_left _ hx)
      · exact List.mem_append_right _ hx
theorem Mh.bs {T ol zs ra rb : List Keyed} (h : Mh O k T ra (rb ++ zs) ol) (hz : ∀ z ∈ zs, ∀ y ∈ ra, O.kle (k y) (k z)) : Mh O k T ra rb (zs ++ ol) := by
  have hs := h.sb
  unfold Ord at hs
  rw [List.pairwise_append] at hs
  refine ⟨?_, ?_, h.sa, hs.1, fun x hx y hy => ?_⟩
  · refine List.Perm.trans (List.Perm.of_eq ?_) h.perm
    simp only [List.append_assoc]
  · unfold Ord
    rw [List.pairwise_append]
    exact ⟨hs.2.1, h.so, fun x hx y hy => h.le x (List.mem_append_right _ (List.mem_append_right _ hx)) y hy⟩
  · rcases List.mem_append.mp hy with hy | hy
    · rcases List.mem_append.mp hx with hx | hx
      · exact hz y hy x hx
      · exact hs.2.2 x hx y hy
    · refine h.le x ?_ y hy
      rcases List.mem_append.mp hx with hx | hx
      · exact List.mem_append_left _ hx
      · exact List.mem_append_right _ (List.mem_append_left _ hx)
theorem Mh.fin {T ol rb : List Keyed} (h : Mh O k T [] rb ol) : (rb ++ ol).Perm T ∧ Ord O k (rb ++ ol) := by
  refine ⟨h.perm, ?_⟩
  unfold Ord
  rw [List.pairwise_append]
  exact ⟨h.sb, h.so, fun x hx y hy => h.le x (List.mem_append_right _ hx) y hy⟩
theorem ext0 (a : Array Keyed) (n : Nat) : (a.extract 0 n).toList = a.toList.take n := by rw [ext_list]; rfl
theorem take_at {a : Array Keyed} {i : Nat} (h : i < a.size) : a.toList.take (i + 1) = a.toList.take i ++ [a[i]] := by
  rw [List.take_add_one]
  have : a.toList[i]? = some a[i] := by simp [h]
  rw [this]; rfl
theorem mem_take0 {a : Array Keyed} {n : Nat} {y : Keyed} (h : y ∈ a.toList.take n) : ∃ j, j < n ∧ ∃ hj : j < a.size, a[j] = y := by
  obtain ⟨j, h1, h2, h3⟩ := mem_take_at (a := a) (i := 0) (r := n) (by simpa using h)
  exact ⟨j, h1, by omega, by simpa using h3⟩
theorem goodh_done {T : List Keyed} {a b out : Array Keyed} {na nb : Nat} (h : Mh O k T (a.toList.take na) (b.toList.take nb) out.toList.reverse) (hi : na = 0) : GoodR O k T (a.extract 0 na ++ b.extract 0 nb ++ out.reverse) := by
  subst hi
  unfold GoodR
  rw [Array.toList_append, Array.toList_append, ext0, ext0, Array.toList_reverse]
  exact h.fin
theorem goodh_first {T : List Keyed} {a b out : Array Keyed} {na nb : Nat} (h : Mh O k T (a.toList.take na) (b.toList.take nb) out.toList.reverse) (hz : ∀ z ∈ a.toList.take na, ∀ y ∈ b.toList.take nb, O.kle (k y) (k z)) : GoodR O k T (b.extract 0 nb ++ a.extract 0 na ++ out.reverse) := by
  have h2 : Mh O k T ([] ++ a.toList.take na) (b.toList.take nb) out.toList.reverse := h
  have h3 := (h2.as hz).fin
  unfold GoodR
  rw [Array.toList_append, Array.toList_append, ext0, ext0, Array.toList_reverse, List.append_assoc]
  exact h3
theorem Mh.pushA {T : List Keyed} {a b out : Array Keyed} {i nb : Nat} (mg : Mh O k T (a.toList.take (i + 1)) (b.toList.take nb) out.toList.reverse) (hi : i < a.size) (hle : ∀ y ∈ b.toList.take nb, O.kle (k y) (k a[i])) : Mh O k T (a.toList.take i) (b.toList.take nb) (out.push a[i]).toList.reverse := by
  rw [take_at hi] at mg
  rw [Array.toList_push, List.reverse_append]
  refine Mh.as (zs := [a[i]]) mg fun z hz y hy => ?_
  cases List.mem_singleton.mp hz
  exact hle y hy
theorem Mh.pushB {T : List Keyed} {a b out : Array Keyed} {na j : Nat} (mg : Mh O k T (a.toList.take na) (b.toList.take (j + 1)) out.toList.reverse) (hj : j < b.size) (hle : ∀ y ∈ a.toList.take na, O.kle (k y) (k b[j])) : Mh O k T (a.toList.take na) (b.toList.take j) (out.push b[j]).toList.reverse := by
  rw [take_at hj] at mg
  rw [Array.toList_push, List.reverse_append]
  refine Mh.bs (zs := [b[j]]) mg fun z hz y hy => ?_
  cases List.mem_singleton.mp hz
  exact hle y hy
theorem take_run (a : Array Keyed) {i n : Nat} (h : i ≤ n) : a.toList.take n = a.toList.take i ++ (a.extract i n).toList := by
  rw [ext_list, show n = i + (n - i) by omega, List.take_add]
  rw [show i + (n - i) - i = n - i by omega]
theorem mem_ext {a : Array Keyed} {i n : Nat} {y : Keyed} (h : y ∈ (a.extract i n).toList) : ∃ j, i ≤ j ∧ j < n ∧ ∃ hj : j < a.size, a[j] = y := by
  rw [ext_list] at h
  obtain ⟨j, h1, h2, h3⟩ := mem_take_at h
  exact ⟨i + j, by omega, by omega, h2, h3⟩
theorem Mh.runA {T : List Keyed} {a b out : Array Keyed} {i na nb : Nat} (mg : Mh O k T (a.toList.take na) (b.toList.take nb) out.toList.reverse) (hi : i ≤ na) (hle : ∀ j, i ≤ j → j < na → ∀ (h1 : j < a.size), ∀ y ∈ b.toList.take nb, O.kle (k y) (k a[j])) : Mh O k T (a.toList.take i) (b.toList.take nb) (out ++ (a.extract i na).reverse).toList.reverse := by
  rw [take_run a hi] at mg
  rw [Array.toList_append, Array.toList_reverse, List.reverse_append, List.reverse_reverse]
  refine mg.as fun z hz y hy => ?_
  obtain ⟨j, h1, h2, h3, rfl⟩ := mem_ext hz
  exact hle j h1 h2 h3 y hy
theorem Mh.runB {T : List Keyed} {a b out : Array Keyed} {i na nb : Nat} (mg : Mh O k T (a.toList.take na) (b.toList.take nb) out.toList.reverse) (hi : i ≤ nb) (hle : ∀ j, i ≤ j → j < nb → ∀ (h1 : j < b.size), ∀ y ∈ a.toList.take na, O.kle (k y) (k b[j])) : Mh O k T (a.toList.take na) (b.toList.take i) (out ++ (b.extract i nb).reverse).toList.reverse := by
  rw [take_run b hi] at mg
  rw [Array.toList_append, Array.toList_reverse, List.reverse_append, List.reverse_reverse]
  refine mg.bs fun z hz y hy => ?_
  obtain ⟨j, h1, h2, h3, rfl⟩ := mem_ext hz
  exact hle j h1 h2 h3 y hy
structure Hi (O : KeyOrd) (k : Keyed → O.α) (a b out : Array Keyed) (na nb : Nat) : Prop where
  ha : 1 ≤ na
  ha2 : na ≤ a.size
  hb : 2 ≤ nb
  hb2 : nb ≤ b.size
  mg : Mh O k (a.toList ++ b.toList) (a.toList.take na) (b.toList.take nb) out.toList.reverse
theorem mergeHi_ok {a b : Array Keyed} {st : SortSt} {Q : Array Keyed → SortSt → Prop} (asks : Asks prog w A E s O k P) (hk : kindOf st = oneType') (ha : 1 ≤ a.size) (hb : 1 ≤ b.size) (pa : ∀ x ∈ a.toList, P x) (pb : ∀ x ∈ b.toList, P x) (sa : Ord O k a.toList) (sb : Ord O k b.toList)
    (h1 : ∀ y ∈ a.toList, O.klt (k b[0]) (k y)) (hl : ∀ z ∈ b.toList, O.kle (k z) (k a[a.size - 1])) (h : ∀ r st', Like st st' → GoodR O k (a.toList ++ b.toList) r → Q r st') : wpS (model prog w) A E s (mergeHi' a b) Q st := by
  have qa : ∀ {i} (hi : i < a.size), P a[i] := fun hi => pa _ (by simp)
  have qb : ∀ {i} (hi : i < b.size), P b[i] := fun hi => pb _ (by simp)
  have firstB : ∀ {na nb : Nat}, nb ≤ 1 → ∀ z ∈ a.toList.take na, ∀ y ∈ b.toList.take nb, O.kle (k y) (k z) := fun {na nb} e z hz y hy => by
    obtain ⟨j, hj, hj2, rfl⟩ := mem_take0 hy
    have : j = 0 := by omega
    subst this
    exact KeyOrd.kle_of_klt (h1 z (List.mem_of_mem_take hz))
  refine wpS_bind (wpS_lift (wpAny_rule ⟨rfl, ?_⟩))
  try dsimp only
  refine wpS_bind (elem_ok (get_at (show a.size - 1 < a.size by omega)) ?_)
  try dsimp only
  have m0 : Mh O k (a.toList ++ b.toList) (a.toList.take (a.size - 1)) (b.toList.take b.size) (#[a[a.size - 1]] : Array Keyed).toList.reverse := by
    have h0 : Mh O k (a.toList ++ b.toList) (a.toList.take (a.size - 1) ++ [a[a.size - 1]]) (b.toList.take b.size) [] := by
      have e : a.toList.take (a.size - 1) ++ [a[a.size - 1]] = a.toList := by
        rw [← take_at (show a.size - 1 < a.size by omega), show a.size - 1 + 1 = a.toList.length by simp; omega, List.take_length]
      have e2 : b.toList.take b.size = b.toList := by rw [← Array.length_toList, List.take_length]
      rw [e, e2]
      exact ⟨by rw [List.append_nil], List.Pairwise.nil, sa, sb, fun x _ y hy => nomatch hy⟩
    exact h0.as fun z hz y hy => by cases List.mem_singleton.mp hz; exact hl y (List.mem_of_mem_take hy)
  by_cases e1 : a.size = 1
  · rw [if_pos (by simp [e1])]
    exact wpS_pure (h _ _ (Like.refl _) (goodh_done m0 (by omega)))
  rw [if_neg (by simp; omega)]
  by_cases e2 : b.size = 1
  · rw [if_pos (by simp [e2])]
    exact wpS_pure (h _ _ (Like.refl _) (goodh_first m0 (firstB (by omega))))
  rw [if_neg (by simp; omega)]
  refine wpS_bind (wpS_get ?_)
  try dsimp only
  have inst : ∀ {out : Array Keyed} {na nb : Nat}, Hi O k a b out na nb → 3 ≤ na + nb := fun h => by have := h.ha; have := h.hb; omega
  refine wpS_bind (wpS_mono (wpS_forRange (I := fun x c st' => Like st st' ∧ ∃ na nb out mg, c = (none, na, nb, out, mg) ∧ Hi O k a b out na nb ∧ na + nb + x + 1 ≤ a.size + b.size)
    (Q := fun c st' => Like st st' ∧ ∃ r na nb out mg, c = (some r, na, nb, out, mg) ∧ GoodR O k (a.toList ++ b.toList) r) ?step ?fin ⟨Like.refl _, a.size - 1, b.size, _, _, rfl, ⟨by omega, by omega, by omega, by omega, m0⟩, by omega⟩) ?post)
  case fin =>
    rintro c st' ⟨_, na, nb, out, mg, rfl, hL, hx⟩
    have := inst hL
    omega
  case post =>
    rintro c st' ⟨hst, r, na, nb, out, mg, rfl, hr⟩
    exact wpS_pure (h r st' hst hr)
  case step =>
    rintro x c st' _ hx ⟨hst, na, nb, out, mg, rfl, hL, hx2⟩
    try dsimp only
    refine wpS_bind (wpS_mono (wpS_forRange (I := fun y c st'' => st'' = st' ∧ ∃ na2 nb2 out2 ac bc, c = (none, na2, nb2, out2, ac, bc) ∧ Hi O k a b out2 na2 nb2 ∧ na2 + nb2 + y ≤ na + nb)
      (Q := fun c st'' => st'' = st' ∧ ∃ na2 nb2 out2 ac bc, (c = (none, na2, nb2, out2, ac, bc) ∧ Hi O k a b out2 na2 nb2 ∧ na2 + nb2 ≤ na + nb) ∨ ∃ r, c = (some r, na2, nb2, out2, ac, bc) ∧ GoodR O k (a.toList ++ b.toList) r) ?istep ?ifin ⟨rfl, na, nb, out, 0, 0, rfl, hL, by omega⟩) ?ipost)
    case ifin =>
      rintro c st'' ⟨rfl, na2, nb2, out2, ac, bc, rfl, hL2, hy⟩
      have := inst hL2
      omega
    case istep =>
      rintro y c st'' _ hy ⟨rfl, na2, nb2, out2, ac, bc, rfl, hL2, hy2⟩
      try dsimp only
      have hna := hL2.ha
      have hna2 := hL2.ha2
      have hnb := hL2.hb
      have hnb2 := hL2.hb2
      obtain ⟨i, rfl⟩ : ∃ i, na2 = i + 1 := ⟨na2 - 1, by omega⟩
      obtain ⟨j, rfl⟩ : ∃ j, nb2 = j + 1 := ⟨nb2 - 1, by omega⟩
      try simp only [Nat.add_sub_cancel]
      refine wpS_bind (elem_ok (get_at (show j < b.size by omega)) (wpS_bind (elem_ok (get_at (show i < a.size by omega)) (wpS_bind (asks.lt _ _ _ _ (qb _) (qa _) (by rw [hst.kind]; exact hk) ?_)))))
      try dsimp only
      cases e : O.blt (k b[j]) (k a[i]) with
      | true =>
        simp only [if_true]
        refine wpS_bind (elem_ok (get_at (show i < a.size by omega)) ?_)
        have mg' := hL2.mg.pushA (show i < a.size by omega) fun y hy => (by
          obtain ⟨m, hm, hm2, rfl⟩ := mem_take0 hy
          exact KeyOrd.kle_of_klt (KeyOrd.klt_of_kle_of_klt (ord_at sb (show m ≤ j by omega) (by omega)) e))
        try dsimp only
        by_cases z : i = 0
        · rw [if_pos (by simp [z])]
          exact wpS_pure ⟨rfl, _, _, _, _, _, .inr ⟨_, rfl, goodh_done mg' z⟩⟩
        · rw [if_neg (by simpa using z)]
          by_cases z2 : ac + 1 ≥ mg
          · rw [if_pos z2]
            exact wpS_pure ⟨rfl, _, _, _, _, _, .inl ⟨rfl, ⟨by omega, by omega, hnb, hnb2, mg'⟩, by omega⟩⟩
          · rw [if_neg z2]
            exact wpS_pure ⟨rfl, _, _, _, _, _, rfl, ⟨by omega, by omega, hnb, hnb2, mg'⟩, by omega⟩
      | false =>
        simp only [Bool.false_eq_true, if_false]
        refine wpS_bind (elem_ok (get_at (show j < b.size by omega)) ?_)
        have mg' := hL2.mg.pushB (show j < b.size by omega) fun y hy => (by
          obtain ⟨m, hm, hm2, rfl⟩ := mem_take0 hy
          exact KeyOrd.kle_trans (ord_at sa (show m ≤ i by omega) (by omega)) e)
        try dsimp only
        by_cases z : j = 1
        · rw [if_pos (by simp [z])]
          exact wpS_pure ⟨rfl, _, _, _, _, _, .inr ⟨_, rfl, goodh_first mg' (firstB (by omega))⟩⟩
        · rw [if_neg (by simpa using z)]
          by_cases z2 : bc + 1 ≥ mg
          · rw [if_pos z2]
            exact wpS_pure ⟨rfl, _, _, _, _, _, .inl ⟨rfl, ⟨hna, hna2, by omega, by omega, mg'⟩, by omega⟩⟩
          · rw [if_neg z2]
            exact wpS_pure ⟨rfl, _, _, _, _, _, rfl, ⟨hna, hna2, by omega, by omega, mg'⟩, by omega⟩
    case ipost =>
      rintro c st'' ⟨rfl, na2, nb2, out2, ac, bc, ⟨rfl, hL2, hy⟩ | ⟨r, rfl, hr⟩⟩
      rotate_left
      · exact wpS_pure ⟨hst, r, _, _, _, _, rfl, hr⟩
      try dsimp only
      refine wpS_bind (wpS_lift (wpAny_rule ⟨rfl, ?_⟩))
      try dsimp only
      refine wpS_bind (wpS_mono (wpS_forRange (I := fun y c s2 => Like st s2 ∧ ∃ na3 nb3 out3 mg3 ac3 bc3, c = (none, na3, nb3, out3, mg3, ac3, bc3) ∧ Hi O k a b out3 na3 nb3 ∧ na3 + nb3 + y ≤ na2 + nb2)
        (Q := fun c s2 => Like st s2 ∧ ∃ na3 nb3 out3 mg3 ac3 bc3, (c = (none, na3, nb3, out3, mg3, ac3, bc3) ∧ Hi O k a b out3 na3 nb3 ∧ na3 + nb3 + 1 ≤ na2 + nb2) ∨ ∃ r, c = (some r, na3, nb3, out3, mg3, ac3, bc3) ∧ GoodR O k (a.toList ++ b.toList) r) ?gstep ?gfin ⟨hst, na2, nb2, out2, _, _, _, rfl, hL2, by omega⟩) ?gpost)
      case gfin =>
        rintro c s2 ⟨_, na3, nb3, out3, mg3, ac3, bc3, rfl, hL3, hy3⟩
        have := inst hL3
        have := hL2.ha2
        have := hL2.hb2
        omega
      case gpost =>
        rintro c s2 ⟨hs2, na3, nb3, out3, mg3, ac3, bc3, ⟨rfl, hL3, hy3⟩ | ⟨r, rfl, hr⟩⟩
        rotate_left
        · exact wpS_pure ⟨hs2, r, _, _, _, _, rfl, hr⟩
        try dsimp only
        refine wpS_bind (wpS_modify ?_)
        exact wpS_pure ⟨hs2.trans ⟨rfl, rfl, rfl, rfl⟩, _, _, _, _, rfl, hL3, by omega⟩
      case gstep =>
        rintro y c s2 _ hy' ⟨hs2, na3, nb3, out3, mg3, ac3, bc3, rfl, hL3, hy3⟩
        try dsimp only
        have hna := hL3.ha
        have hna2 := hL3.ha2
        have hnb := hL3.hb
        have hnb2 := hL3.hb2
        obtain ⟨i, rfl⟩ : ∃ i, na3 = i + 1 := ⟨na3 - 1, by omega⟩
        obtain ⟨j, rfl⟩ : ∃ j, nb3 = j + 1 := ⟨nb3 - 1, by omega⟩
        try simp only [Nat.add_sub_cancel]
        (by_cases hz : mg3 > 1) <;> (first | rw [if_pos hz] | rw [if_neg hz])
        all_goals
          refine wpS_bind (setG_ok fun s3 l3 => ?_)
          have hs3 := hs2.trans l3
          refine wpS_bind (elem_ok (get_at (show j < b.size by omega)) (wpS_bind (gallop_ok (F := fun m => if h : m < a.size then !(O.blt (k (b[j]'(by omega))) (k a[m])) else false) asks (by rw [hs3.kind]; exact hk) (qb _) (by omega) (fun m hm => ⟨_, get_at (show 0 + m < a.size by omega), qa _, by simp only [bey, Bool.false_eq_true, if_false, Nat.zero_add]; rw [dif_pos (by omega)]⟩) (fun m1 m2 hij hj e => ?_) fun r hr hlo hhi => ?_)))
          · rw [dif_pos (by omega)] at e ⊢
            rw [Bool.not_eq_true'] at e ⊢
            exact KeyOrd.kle_trans (ord_at sa hij (by omega)) e
          have A1 : ∀ m, m < r → ∀ h1 : m < a.size, O.kle (k a[m]) (k (b[j]'(by omega))) := fun m hm h1 => by
            have := hlo m hm
            rw [dif_pos h1, Bool.not_eq_true'] at this
            exact this
          have A2 : ∀ m, r ≤ m → m < i + 1 → ∀ h1 : m < a.size, O.klt (k (b[j]'(by omega))) (k a[m]) := fun m hm hm2 h1 => by
            have := hhi m hm hm2
            rw [dif_pos h1, Bool.not_eq_false'] at this
            exact this
          try dsimp only
          by_cases zr : i + 1 - r > 0
          · rw [if_pos zr]
            have mgA := hL3.mg.runA (show r ≤ i + 1 by omega) fun m hm1 hm2 hm3 y hy => (by
              obtain ⟨m', hm', hm2', rfl⟩ := mem_take0 hy
              exact KeyOrd.kle_of_klt (KeyOrd.klt_of_kle_of_klt (ord_at sb (show m' ≤ j by omega) (by omega)) (A2 m hm1 hm2 hm3)))
            by_cases za : r = 0
            · rw [if_pos (by simp [za])]
              exact wpS_pure ⟨hs3, _, _, _, _, _, _, .inr ⟨_, rfl, goodh_done mgA za⟩⟩
            rw [if_neg (by simpa using za)]
            refine wpS_bind (elem_ok (get_at (show j < b.size by omega)) ?_)
            have mgB := mgA.pushB (show j < b.size by omega) fun y hy => (by
              obtain ⟨m, hm, hm2, rfl⟩ := mem_take0 hy
              exact A1 m (by omega) hm2)
            try dsimp only
            by_cases zb : j = 1
            · rw [if_pos (by simp [zb])]
              exact wpS_pure ⟨hs3, _, _, _, _, _, _, .inr ⟨_, rfl, goodh_first mgB (firstB (by omega))⟩⟩
            rw [if_neg (by simpa using zb)]
            obtain ⟨p, hp⟩ : ∃ p, r = p + 1 := ⟨r - 1, by omega⟩
            rw [hp] at mgB ⊢
            try simp only [Nat.add_sub_cancel]
            refine wpS_bind (elem_ok (get_at (show p < a.size by omega)) (wpS_bind (gallop_ok (F := fun m => if h : m < b.size then O.blt (k b[m]) (k (a[p]'(by omega))) else false) asks (by rw [hs3.kind]; exact hk) (qa _) (by omega) (fun m hm => ⟨_, get_at (show 0 + m < b.size by omega), qb _, by simp only [bey, if_true, Nat.zero_add]; rw [dif_pos (by omega)]⟩) (fun m1 m2 hij hj2 e => ?_) fun r2 hr2 hlo2 hhi2 => ?_)))
            · rw [dif_pos (by omega)] at e ⊢
              exact KeyOrd.klt_of_kle_of_klt (ord_at sb hij (by omega)) e
            have C1 : ∀ m, m < r2 → ∀ h1 : m < b.size, O.klt (k b[m]) (k (a[p]'(by omega))) := fun m hm h1 => by
              have := hlo2 m hm
              rw [dif_pos h1] at this
              exact this
            have C2 : ∀ m, r2 ≤ m → m < j → ∀ h1 : m < b.size, O.kle (k (a[p]'(by omega))) (k b[m]) := fun m hm hj2 h1 => by
              have := hhi2 m hm hj2
              rw [dif_pos h1] at this
              exact this
            have hr1 : 1 ≤ r2 := by
              rcases Nat.lt_or_ge 0 r2 with z | z
              · exact z
              · exact absurd (h1 (a[p]'(by omega)) (by simp)) (KeyOrd.not_klt_of_kle (C2 0 (by omega) (by omega) (by omega)))
            try dsimp only
            by_cases zr2 : j - r2 > 0
            · rw [if_pos zr2]
              have mgC := mgB.runB (show r2 ≤ j by omega) fun m hm1 hm2 hm3 y hy => (by
                obtain ⟨m', hm', hm2', rfl⟩ := mem_take0 hy
                exact KeyOrd.kle_trans (ord_at sa (show m' ≤ p by omega) (by omega)) (C2 m hm1 hm2 hm3))
              by_cases zc : r2 = 1
              · rw [if_pos (by simp [zc])]
                exact wpS_pure ⟨hs3, _, _, _, _, _, _, .inr ⟨_, rfl, goodh_first mgC (firstB (by omega))⟩⟩
              rw [if_neg (by simpa using zc), if_neg (by simp; omega)]
              refine wpS_bind (elem_ok (get_at (show p < a.size by omega)) ?_)
              have mgD := mgC.pushA (show p < a.size by omega) fun y hy => (by
                obtain ⟨m, hm, hm2, rfl⟩ := mem_take0 hy
                exact KeyOrd.kle_of_klt (C1 m (by omega) hm2))
              try dsimp only
              by_cases zd : p = 0
              · rw [if_pos (by simp [zd])]
                exact wpS_pure ⟨hs3, _, _, _, _, _, _, .inr ⟨_, rfl, goodh_done mgD zd⟩⟩
              rw [if_neg (by simpa using zd)]
              split
              · exact wpS_pure ⟨hs3, _, _, _, _, _, _, .inl ⟨rfl, ⟨by omega, by omega, by omega, by omega, mgD⟩, by omega⟩⟩
              · exact wpS_pure ⟨hs3, _, _, _, _, _, _, rfl, ⟨by omega, by omega, by omega, by omega, mgD⟩, by omega⟩
            · rw [if_neg zr2]
              have er : r2 = j := by omega
              refine wpS_bind (elem_ok (get_at (show p < a.size by omega)) ?_)
              have mgD := mgB.pushA (show p < a.size by omega) fun y hy => (by
                obtain ⟨m, hm, hm2, rfl⟩ := mem_take0 hy
                exact KeyOrd.kle_of_klt (C1 m (by omega) hm2))
              try dsimp only
              by_cases zd : p = 0
              · rw [if_pos (by simp [zd])]
                exact wpS_pure ⟨hs3, _, _, _, _, _, _, .inr ⟨_, rfl, goodh_done mgD zd⟩⟩
              rw [if_neg (by simpa using zd)]
              split
              · exact wpS_pure ⟨hs3, _, _, _, _, _, _, .inl ⟨rfl, ⟨by omega, by omega, by omega, by omega, mgD⟩, by omega⟩⟩
              · exact wpS_pure ⟨hs3, _, _, _, _, _, _, rfl, ⟨by omega, by omega, by omega, by omega, mgD⟩, by omega⟩
          · rw [if_neg zr]
            have er : r = i + 1 := by omega
            have A1 : ∀ m, m < i + 1 → ∀ h1 : m < a.size, O.kle (k a[m]) (k (b[j]'(by omega))) := fun m hm h1 => A1 m (by omega) h1
            refine wpS_bind (elem_ok (get_at (show j < b.size by omega)) ?_)
            have mgB := hL3.mg.pushB (show j < b.size by omega) fun y hy => (by
              obtain ⟨m, hm, hm2, rfl⟩ := mem_take0 hy
              exact A1 m (by omega) hm2)
            try dsimp only
            by_cases zb : j = 1
            · rw [if_pos (by simp [zb])]
              exact wpS_pure ⟨hs3, _, _, _, _, _, _, .inr ⟨_, rfl, goodh_first mgB (firstB (by omega))⟩⟩
            rw [if_neg (by simpa using zb)]
            obtain ⟨p, hp⟩ : ∃ p, i = p := ⟨i, rfl⟩
            rw [hp] at mgB ⊢
            try simp only [Nat.add_sub_cancel]
            refine wpS_bind (elem_ok (get_at (show p < a.size by omega)) (wpS_bind (gallop_ok (F := fun m => if h : m < b.size then O.blt (k b[m]) (k (a[p]'(by omega))) else false) asks (by rw [hs3.kind]; exact hk) (qa _) (by omega) (fun m hm => ⟨_, get_at (show 0 + m < b.size by omega), qb _, by simp only [bey, if_true, Nat.zero_add]; rw [dif_pos (by omega)]⟩) (fun m1 m2 hij hj2 e => ?_) fun r2 hr2 hlo2 hhi2 => ?_)))
            · rw [dif_pos (by omega)] at e ⊢
              exact KeyOrd.klt_of_kle_of_klt (ord_at sb hij (by omega)) e
            have C1 : ∀ m, m < r2 → ∀ h1 : m < b.size, O.klt (k b[m]) (k (a[p]'(by omega))) := fun m hm h1 => by
              have := hlo2 m hm
              rw [dif_pos h1] at this
              exact this
            have C2 : ∀ m, r2 ≤ m → m < j → ∀ h1 : m < b.size, O.kle (k (a[p]'(by omega))) (k b[m]) := fun m hm hj2 h1 => by
              have := hhi2 m hm hj2
              rw [dif_pos h1] at this
              exact this
            have hr1 : 1 ≤ r2 := by
              rcases Nat.lt_or_ge 0 r2 with z | z
              · exact z
              · exact absurd (h1 (a[p]'(by omega)) (by simp)) (KeyOrd.not_klt_of_kle (C2 0 (by omega) (by omega) (by omega)))
            try dsimp only
            by_cases zr2 : j - r2 > 0
            · rw [if_pos zr2]
              have mgC := mgB.runB (show r2 ≤ j by omega) fun m hm1 hm2 hm3 y hy => (by
                obtain ⟨m', hm', hm2', rfl⟩ := mem_take0 hy
                exact KeyOrd.kle_trans (ord_at sa (show m' ≤ p by omega) (by omega)) (C2 m hm1 hm2 hm3))
              by_cases zc : r2 = 1
              · rw [if_pos (by simp [zc])]
                exact wpS_pure ⟨hs3, _, _, _, _, _, _, .inr ⟨_, rfl, goodh_first mgC (firstB (by omega))⟩⟩
              rw [if_neg (by simpa using zc), if_neg (by simp; omega)]
              refine wpS_bind (elem_ok (get_at (show p < a.size by omega)) ?_)
              have mgD := mgC.pushA (show p < a.size by omega) fun y hy => (by
                obtain ⟨m, hm, hm2, rfl⟩ := mem_take0 hy
                exact KeyOrd.kle_of_klt (C1 m (by omega) hm2))
              try dsimp only
              by_cases zd : p = 0
              · rw [if_pos (by simp [zd])]
                exact wpS_pure ⟨hs3, _, _, _, _, _, _, .inr ⟨_, rfl, goodh_done mgD zd⟩⟩
              rw [if_neg (by simpa using zd)]
              split
              · exact wpS_pure ⟨hs3, _, _, _, _, _, _, .inl ⟨rfl, ⟨by omega, by omega, by omega, by omega, mgD⟩, by omega⟩⟩
              · exact wpS_pure ⟨hs3, _, _, _, _, _, _, rfl, ⟨by omega, by omega, by omega, by omega, mgD⟩, by omega⟩
            · rw [if_neg zr2]
              have er : r2 = j := by omega
              refine wpS_bind (elem_ok (get_at (show p < a.size by omega)) ?_)
              have mgD := mgB.pushA (show p < a.size by omega) fun y hy => (by
                obtain ⟨m, hm, hm2, rfl⟩ := mem_take0 hy
                exact KeyOrd.kle_of_klt (C1 m (by omega) hm2))
              try dsimp only
              by_cases zd : p = 0
              · rw [if_pos (by simp [zd])]
                exact wpS_pure ⟨hs3, _, _, _, _, _, _, .inr ⟨_, rfl, goodh_done mgD zd⟩⟩
              rw [if_neg (by simpa using zd)]
              split
              · exact wpS_pure ⟨hs3, _, _, _, _, _, _, .inl ⟨rfl, ⟨by omega, by omega, by omega, by omega, mgD⟩, by omega⟩⟩
              · exact wpS_pure ⟨hs3, _, _, _, _, _, _, rfl, ⟨by omega, by omega, by omega, by omega, mgD⟩, by omega⟩
end
end PyProof.Rows
namespace PyProof.Rows
open PySem
section
variable {prog : Program} {w : World} {A : Around} {E : Value → Shared → Prop} {s : Shared}
variable {O : KeyOrd} {k : Keyed → O.α} {P : Keyed → Prop}
theorem sets_list : ∀ (ms : List Keyed) (arr : Array Keyed) (o j : Nat), o + j + ms.length ≤ arr.size → ((ms.zipIdx j).foldl (fun a (p : Keyed × Nat) => a.setIfInBounds (o + p.2) p.1) arr).toList = arr.toList.take (o + j) ++ ms ++ arr.toList.drop (o + j + ms.length)
  | [], arr, o, j, h => by simp
  | m :: ms, arr, o, j, h => by
    rw [List.zipIdx_cons, List.foldl_cons]
    have h' : o + j + (ms.length + 1) ≤ arr.size := h
    rw [sets_list ms (arr.setIfInBounds (o + j) m) o (j + 1) (by rw [Array.size_setIfInBounds]; omega)]
    rw [Array.toList_setIfInBounds]
    have e1 : (arr.toList.set (o + j) m).take (o + (j + 1)) = arr.toList.take (o + j) ++ [m] := by
      rw [← Nat.add_assoc, List.take_add_one, List.take_set_of_le (Nat.le_refl _)]
      rw [List.getElem?_set_self (by simp; omega)]; rfl
    have e2 : (arr.toList.set (o + j) m).drop (o + (j + 1) + ms.length) = arr.toList.drop (o + j + (m :: ms).length) := by
      rw [List.drop_set_of_lt (by omega)]
      congr 1
      show _ = o + j + (ms.length + 1)
      omega
    rw [e1, e2, List.append_assoc (arr.toList.take (o + j))]; rfl
theorem mergeAt'_eq (i : Nat) : mergeAt' i = (do
  let s ← get
  let (some (sa, na, power), some (sb, nb, _)) := ((pendingOf s)[i]?, (pendingOf s)[i + 1]?) | unsupported "internal:list.sort.pending"
  set (setPending s (((pendingOf s).setIfInBounds i (sa, na + nb, power)).eraseIdxIfInBounds (i + 1)))
  let some k ← gallop' false (← elem' (arrOf s) sb) (arrOf s) sa na 0 | return false
  let (sa, na) := (sa + k, na - k)
  if na == 0 then return true
  let some nb ← gallop' true (← elem' (arrOf s) (sa + na - 1)) (arrOf s) sb nb (nb - 1) | return false
  if nb == 0 then return true
  let x := (arrOf s).extract sa sb
  let y := (arrOf s).extract sb (sb + nb)
  let merged ← if na ≤ nb then mergeLo' x y else mergeHi' x y
  modify fun s => setArr s (merged.toList.zipIdx.foldl (fun a (p, j) => a.setIfInBounds (sa + j) p) (arrOf s))
  return (failedOf (← get)).isNone) := rfl
theorem mid_at {a : Array Keyed} {pre L post : List Keyed} (e : a.toList = pre ++ (L ++ post)) {i : Nat} (hi : i < L.length) : a[pre.length + i]? = some L[i] := by
  rw [← Array.getElem?_toList, e, List.getElem?_append_right (by omega), show pre.length + i - pre.length = i by omega, List.getElem?_append_left hi]
  exact List.getElem?_eq_getElem hi
theorem ord_idx {L : List Keyed} (h : Ord O k L) {i j : Nat} (hij : i ≤ j) (hj : j < L.length) : O.kle (k L[i]) (k L[j]) := by
  rcases Nat.lt_or_ge i j with z | z
  · exact List.pairwise_iff_getElem.mp h i j (by omega) hj z
  · have : i = j := by omega
    subst this
    exact KeyOrd.kle_refl _
theorem ord_split {L : List Keyed} (h : Ord O k L) (r : Nat) : Ord O k (L.take r) ∧ Ord O k (L.drop r) ∧ ∀ x ∈ L.take r, ∀ y ∈ L.drop r, O.kle (k x) (k y) := by
  have h' := h
  unfold Ord at h'
  rw [← List.take_append_drop r L, List.pairwise_append] at h'
  exact h'
theorem parts_ord {L1 L2 M : List Keyed} {r r2 : Nat} (s1 : Ord O k L1) (s2 : Ord O k L2) (n2 : 0 < L2.length) (hp : M.Perm (L1.drop r ++ L2.take r2)) (hs : Ord O k M) (ha : ∀ x ∈ L1.take r, O.kle (k x) (k L2[0])) (hb : ∀ y ∈ L1, ∀ z ∈ L2.drop r2, O.kle (k y) (k z)) :
    (L1.take r ++ (M ++ L2.drop r2)).Perm (L1 ++ L2) ∧ Ord O k (L1.take r ++ (M ++ L2.drop r2)) := by
  obtain ⟨a1, a2, a3⟩ := ord_split s1 r
  obtain ⟨b1, b2, b3⟩ := ord_split s2 r2
  have h0 : ∀ x ∈ L1.take r, ∀ y ∈ L2, O.kle (k x) (k y) := fun x hx y hy => by
    obtain ⟨j, hj, rfl⟩ := List.getElem_of_mem hy
    exact KeyOrd.kle_trans (ha x hx) (ord_idx s2 (Nat.zero_le j) hj)
  refine ⟨?_, ?_⟩
  · have : (L1.take r ++ (M ++ L2.drop r2)).Perm (L1.take r ++ ((L1.drop r ++ L2.take r2) ++ L2.drop r2)) := List.Perm.append_left _ (List.Perm.append_right _ hp)
    refine this.trans (List.Perm.of_eq ?_)
    rw [List.append_assoc, List.take_append_drop, ← List.append_assoc, List.take_append_drop]
  · unfold Ord
    rw [List.pairwise_append, List.pairwise_append]
    refine ⟨a1, ⟨hs, b2, fun x hx y hy => ?_⟩, fun x hx y hy => ?_⟩
    · rcases List.mem_append.mp (hp.mem_iff.mp hx) with z | z
      · exact hb x (List.mem_of_mem_drop z) y hy
      · exact b3 x z y hy
    · rcases List.mem_append.mp hy with z | z
      · rcases List.mem_append.mp (hp.mem_iff.mp z) with z | z
        · exact a3 x hx y z
        · exact h0 x hx y (List.mem_of_mem_take z)
      · exact h0 x hx y (List.mem_of_mem_drop z)
theorem wpS_set {σ : Type} {M : Model} {x : σ} {Q : PUnit → σ → Prop} {st : σ} (h : Q ⟨⟩ x) : wpS M A E s (set x : StateT σ Sem PUnit) Q st := by
  unfold wpS; rw [StateT.run_set]; exact wpAny_pure ⟨rfl, h⟩
theorem mergeAt_ok {i : Nat} {st : SortSt} {Q : Bool → SortSt → Prop} {pre L1 L2 post : List Keyed} {pw pw2 : Nat} (asks : Asks prog w A E s O k P) (hk : kindOf st = oneType') (hf : failedOf st = none) (pall : ∀ x ∈ (arrOf st).toList, P x)
    (earr : (arrOf st).toList = pre ++ L1 ++ L2 ++ post) (n1 : 1 ≤ L1.length) (n2 : 1 ≤ L2.length) (s1 : Ord O k L1) (s2 : Ord O k L2)
    (p1 : (pendingOf st)[i]? = some (pre.length, L1.length, pw)) (p2 : (pendingOf st)[i + 1]? = some (pre.length + L1.length, L2.length, pw2))
    (h : ∀ M st', kindOf st' = oneType' → failedOf st' = none → pendingOf st' = ((pendingOf st).setIfInBounds i (pre.length, L1.length + L2.length, pw)).eraseIdxIfInBounds (i + 1) → (arrOf st').toList = pre ++ M ++ post → M.Perm (L1 ++ L2) → Ord O k M → Q true st') :
    wpS (model prog w) A E s (mergeAt' i) Q st := by
  rw [mergeAt'_eq]
  refine wpS_bind (wpS_get ?_)
  try dsimp only
  rw [p1, p2]
  try dsimp only
  refine wpS_bind (wpS_set ?_)
  have e1 : (arrOf st).toList = pre ++ (L1 ++ (L2 ++ post)) := by rw [earr]; simp only [List.append_assoc]
  have e2 : (arrOf st).toList = (pre ++ L1) ++ (L2 ++ post) := by rw [earr]; simp only [List.append_assoc]
  have g1 : ∀ {i} (hi : i < L1.length), (arrOf st)[pre.length + i]? = some L1[i] := fun hi => mid_at e1 hi
  have g2 : ∀ {i} (hi : i < L2.length), (arrOf st)[pre.length + L1.length + i]? = some L2[i] := fun hi => by
    have := mid_at e2 hi
    rwa [List.length_append] at this
  have P1 : ∀ {i} (hi : i < L1.length), P L1[i] := fun hi => pall _ (by rw [earr]; simp)
  have P2 : ∀ {i} (hi : i < L2.length), P L2[i] := fun hi => pall _ (by rw [earr]; simp)
  refine wpS_bind (elem_ok (g2 (i := 0) n2) ?_)
  refine wpS_bind (gallop_ok (fun i => if h : i < L1.length then bey O k false L2[0] L1[i] else false) asks hk (P2 n2) (by omega) (fun i hi => ⟨L1[i], g1 hi, P1 hi, by rw [dif_pos hi]⟩) (fun i j hij hj e => ?_) fun r hr hlo hhi => ?_)
  · rw [dif_pos hj] at e
    rw [dif_pos (by omega)]
    unfold bey at e ⊢
    simp only [Bool.false_eq_true, if_false, Bool.not_eq_true'] at e ⊢
    exact KeyOrd.kle_trans (ord_idx s1 hij hj) e
  have A1 : ∀ x ∈ L1.take r, O.kle (k x) (k L2[0]) := fun x hx => by
    obtain ⟨j, hj, rfl⟩ := List.getElem_of_mem hx
    rw [List.length_take] at hj
    have := hlo j (by omega)
    rw [dif_pos (by omega)] at this
    rw [List.getElem_take]
    unfold bey at this
    simp only [Bool.false_eq_true, if_false, Bool.not_eq_true'] at this
    exact this
  have A2 : ∀ j, r ≤ j → ∀ hj : j < L1.length, O.klt (k L2[0]) (k L1[j]) := fun j h1 hj => by
    have := hhi j h1 hj
    rw [dif_pos hj] at this
    unfold bey at this
    simp only [Bool.false_eq_true, if_false, Bool.not_eq_false'] at this
    exact this
  try dsimp only
  by_cases z : L1.length - r = 0
  · rw [if_pos (by simp [z])]
    have hr' : r = L1.length := by omega
    refine wpS_pure (h (L1 ++ L2) _ hk hf rfl (by show (arrOf st).toList = _; rw [earr]; simp only [List.append_assoc]) (List.Perm.refl _) ?_)
    have := (parts_ord (r := r) (r2 := 0) (M := []) s1 s2 n2 (by rw [hr']; simp) List.Pairwise.nil A1 fun y hy z hz => ?_).2
    · rw [hr'] at this; simpa using this
    · rw [List.drop_zero] at hz
      obtain ⟨j, hj, rfl⟩ := List.getElem_of_mem hz
      refine KeyOrd.kle_trans (A1 y (by rw [hr', List.take_length]; exact hy)) (ord_idx s2 (Nat.zero_le j) hj)
  rw [if_neg (by simp; omega)]
  have hla : pre.length + r + (L1.length - r) - 1 = pre.length + (L1.length - 1) := by omega
  rw [hla]
  refine wpS_bind (elem_ok (g1 (i := L1.length - 1) (by omega)) ?_)
  refine wpS_bind (gallop_ok (fun i => if h : i < L2.length then bey O k true (L1[L1.length - 1]'(by omega)) L2[i] else false) asks hk (P1 _) (by omega) (fun i hi => ⟨L2[i], g2 hi, P2 hi, by rw [dif_pos hi]⟩) (fun i j hij hj e => ?_) fun r2 hr2 hlo2 hhi2 => ?_)
  · rw [dif_pos hj] at e
    rw [dif_pos (by omega)]
    unfold bey at e ⊢
    simp only [if_true] at e ⊢
    exact KeyOrd.klt_of_kle_of_klt (ord_idx s2 hij hj) e
  have B1 : ∀ j, j < r2 → ∀ hj : j < L2.length, O.klt (k L2[j]) (k (L1[L1.length - 1]'(by omega))) := fun j h1 hj => by
    have := hlo2 j h1
    rw [dif_pos hj] at this
    unfold bey at this
    simp only [if_true] at this
    exact this
  have B2 : ∀ j, r2 ≤ j → ∀ hj : j < L2.length, O.kle (k (L1[L1.length - 1]'(by omega))) (k L2[j]) := fun j h1 hj => by
    have := hhi2 j h1 hj
    rw [dif_pos hj] at this
    unfold bey at this
    simp only [if_true] at this
    exact this
  try dsimp only
  by_cases z2 : r2 = 0
  · exfalso
    have := A2 (L1.length - 1) (by omega) (by omega)
    exact KeyOrd.not_klt_of_kle (B2 0 (by omega) n2) this
  rw [if_neg (by simpa using z2)]
  have xa : ((arrOf st).extract (pre.length + r) (pre.length + L1.length)).toList = L1.drop r := by
    rw [ext_list, e1, List.drop_append, List.drop_append]
    rw [List.drop_eq_nil_of_le (show pre.length ≤ pre.length + r by omega), List.nil_append, show pre.length + r - pre.length = r by omega, show pre.length + L1.length - (pre.length + r) = (L1.drop r).length by rw [List.length_drop]; omega]
    exact List.take_left
  have xb : ((arrOf st).extract (pre.length + L1.length) (pre.length + L1.length + r2)).toList = L2.take r2 := by
    rw [ext_list, e2, List.drop_left' (by rw [List.length_append]), show pre.length + L1.length + r2 - (pre.length + L1.length) = r2 by omega, List.take_append_of_le_length (by omega)]
  have hb : ∀ y ∈ L1, ∀ z ∈ L2.drop r2, O.kle (k y) (k z) := fun y hy z hz => by
    obtain ⟨i, hi, rfl⟩ := List.getElem_of_mem hy
    obtain ⟨j, hj, rfl⟩ := List.getElem_of_mem hz
    rw [List.length_drop] at hj
    rw [List.getElem_drop]
    exact KeyOrd.kle_trans (ord_idx s1 (show i ≤ L1.length - 1 by omega) (by omega)) (B2 _ (by omega) _)
  have fin : ∀ (m : Array Keyed) (st2 : SortSt), Like (setPending st (((pendingOf st).setIfInBounds i (pre.length, L1.length + L2.length, pw)).eraseIdxIfInBounds (i + 1))) st2 → GoodR O k (L1.drop r ++ L2.take r2) m →
      Q true (setArr st2 (m.toList.zipIdx.foldl (fun a (p, j) => a.setIfInBounds (pre.length + r + j) p) (arrOf st2))) := fun m st2 hl hg => by
    obtain ⟨q1, q2⟩ := parts_ord s1 s2 n2 hg.1 hg.2 A1 hb
    have ml : m.toList.length = (L1.length - r) + r2 := by
      rw [hg.1.length_eq, List.length_append, List.length_drop, List.length_take]; omega
    refine h _ _ (hl.kind.trans hk) (hl.fail.trans hf) hl.pend ?_ q1 q2
    show (m.toList.zipIdx.foldl (fun a (p, j) => a.setIfInBounds (pre.length + r + j) p) (arrOf st2)).toList = _
    have ea : arrOf st2 = arrOf st := hl.arr
    have hz : (arrOf st).size = pre.length + L1.length + L2.length + post.length := by
      rw [← Array.length_toList, earr]; simp only [List.length_append]
    rw [ea]
    refine (sets_list m.toList (arrOf st) (pre.length + r) 0 (by omega)).trans ?_
    rw [ml, e1]
    rw [show pre.length + r + 0 = pre.length + r by omega, List.take_length_add_append, List.take_append_of_le_length (show r ≤ L1.length by omega)]
    rw [show pre.length + r + (L1.length - r + r2) = pre.length + (L1.length + r2) by omega, List.drop_length_add_append, List.drop_length_add_append, List.drop_append_of_le_length (by omega)]
    simp only [List.append_assoc]
  have kk : ∀ st2, Like (setPending st (((pendingOf st).setIfInBounds i (pre.length, L1.length + L2.length, pw)).eraseIdxIfInBounds (i + 1))) st2 → failedOf st2 = none := fun st2 hl => hl.fail.trans hf
  have pa : ∀ x ∈ ((arrOf st).extract (pre.length + r) (pre.length + L1.length)).toList, P x := by
    rw [xa]; intro x hx; exact pall x (by rw [earr]; have := List.mem_of_mem_drop hx; simp [this])
  have pb : ∀ x ∈ ((arrOf st).extract (pre.length + L1.length) (pre.length + L1.length + r2)).toList, P x := by
    rw [xb]; intro x hx; exact pall x (by rw [earr]; have := List.mem_of_mem_take hx; simp [this])
  have na : 1 ≤ ((arrOf st).extract (pre.length + r) (pre.length + L1.length)).size := by rw [← Array.length_toList, xa, List.length_drop]; omega
  have nb : 1 ≤ ((arrOf st).extract (pre.length + L1.length) (pre.length + L1.length + r2)).size := by rw [← Array.length_toList, xb, List.length_take]; omega
  have xl : O.kle (k (L1[L1.length - 1]'(by omega))) (k (((arrOf st).extract (pre.length + r) (pre.length + L1.length))[((arrOf st).extract (pre.length + r) (pre.length + L1.length)).size - 1]'(by omega))) := by
    have e : (((arrOf st).extract (pre.length + r) (pre.length + L1.length))[((arrOf st).extract (pre.length + r) (pre.length + L1.length)).size - 1]'(by omega)) = L1[L1.length - 1]'(by omega) := by
      apply Option.some.inj
      rw [← getElem?_pos, ← Array.getElem?_toList, xa, List.getElem?_drop, ← Array.length_toList, xa, List.length_drop, show r + (L1.length - r - 1) = L1.length - 1 by omega]
      exact List.getElem?_eq_getElem _
    rw [e]; exact KeyOrd.kle_refl _
  have y0 : (((arrOf st).extract (pre.length + L1.length) (pre.length + L1.length + r2))[0]'(by omega)) = L2[0] := by
    apply Option.some.inj
    rw [← getElem?_pos, ← Array.getElem?_toList, xb, List.getElem?_take_of_lt (by omega)]
    exact List.getElem?_eq_getElem _
  have hy0 : ∀ y ∈ ((arrOf st).extract (pre.length + r) (pre.length + L1.length)).toList, O.klt (k (((arrOf st).extract (pre.length + L1.length) (pre.length + L1.length + r2))[0]'(by omega))) (k y) := by
    rw [xa, y0]
    intro y hy
    obtain ⟨j, hj, rfl⟩ := List.getElem_of_mem hy
    rw [List.length_drop] at hj
    rw [List.getElem_drop]
    exact A2 _ (by omega) _
  have hyl : ∀ z ∈ ((arrOf st).extract (pre.length + L1.length) (pre.length + L1.length + r2)).toList, O.klt (k z) (k (((arrOf st).extract (pre.length + r) (pre.length + L1.length))[((arrOf st).extract (pre.length + r) (pre.length + L1.length)).size - 1]'(by omega))) := by
    intro z hz
    refine KeyOrd.klt_of_klt_of_kle ?_ xl
    rw [xb] at hz
    obtain ⟨j, hj, rfl⟩ := List.getElem_of_mem hz
    rw [List.length_take] at hj
    rw [List.getElem_take]
    exact B1 _ (by omega) _
  have sa' : Ord O k ((arrOf st).extract (pre.length + r) (pre.length + L1.length)).toList := by rw [xa]; exact (ord_split s1 r).2.1
  have sb' : Ord O k ((arrOf st).extract (pre.length + L1.length) (pre.length + L1.length + r2)).toList := by rw [xb]; exact (ord_split s2 r2).1
  have tail : ∀ (m : Array Keyed) (st2 : SortSt), Like (setPending st (((pendingOf st).setIfInBounds i (pre.length, L1.length + L2.length, pw)).eraseIdxIfInBounds (i + 1))) st2 → GoodR O k (((arrOf st).extract (pre.length + r) (pre.length + L1.length)).toList ++ ((arrOf st).extract (pre.length + L1.length) (pre.length + L1.length + r2)).toList) m →
      wpS (model prog w) A E s (do
        modify fun s => setArr s (m.toList.zipIdx.foldl (fun a (p, j) => a.setIfInBounds (pre.length + r + j) p) (arrOf s))
        return (failedOf (← get)).isNone) Q st2 := fun m st2 hl hg => by
    rw [xa, xb] at hg
    refine wpS_bind (wpS_modify (wpS_bind (wpS_get (wpS_pure ?_))))
    have : (failedOf (setArr st2 (m.toList.zipIdx.foldl (fun a (p, j) => a.setIfInBounds (pre.length + r + j) p) (arrOf st2)))).isNone = true := by
      show (failedOf st2).isNone = true
      rw [kk st2 hl]; rfl
    rw [this]
    exact fin m st2 hl hg
  by_cases hle : L1.length - r ≤ r2
  · rw [if_pos hle]
    exact wpS_bind (mergeLo_ok asks hk na nb pa pb sa' sb' (fun y hy => KeyOrd.kle_of_klt (hy0 y hy)) hyl tail)
  · rw [if_neg hle]
    exact wpS_bind (mergeHi_ok asks hk na nb pa pb sa' sb' hy0 (fun z hz => KeyOrd.kle_of_klt (hyl z hz)) tail)
end
end PyProof.Rows
namespace PyProof.Rows
open PySem
section
variable {prog : Program} {w : World} {A : Around} {E : Value → Shared → Prop} {s : Shared}
variable {O : KeyOrd} {k : Keyed → O.α} {P : Keyed → Prop}
def KV (O : KeyOrd) (k : Keyed → O.α) (a : Array Keyed) (i : Nat) : O.α := k ((a[i]?).getD (Value.none, Value.none))
theorem KV_congr {a b : Array Keyed} {i j : Nat} (h : a[i]? = b[j]?) : KV O k a i = KV O k b j := by unfold KV; rw [h]
def Up (O : KeyOrd) (k : Keyed → O.α) (a : Array Keyed) (lo hi : Nat) : Prop := ∀ i j, lo ≤ i → i ≤ j → j < hi → O.kle (KV O k a i) (KV O k a j)
def Dn (O : KeyOrd) (k : Keyed → O.α) (a : Array Keyed) (lo hi : Nat) : Prop := ∀ i j, lo ≤ i → i ≤ j → j < hi → O.kle (KV O k a j) (KV O k a i)
theorem KV_bubble {xs : Array Keyed} {src d : Nat} (hs : src < xs.size) (hd : d ≤ src) (i : Nat) :
    KV O k (bubble xs src d) i = if i = src - d then KV O k xs src else if src - d < i ∧ i ≤ src then KV O k xs (i - 1) else KV O k xs i := by
  have e := getElem?_bubble hs d hd i
  by_cases h1 : i = src - d
  · rw [if_pos h1] at e ⊢; exact KV_congr e
  · rw [if_neg h1] at e ⊢
    by_cases h2 : src - d < i ∧ i ≤ src
    · rw [if_pos h2] at e ⊢; exact KV_congr e
    · rw [if_neg h2] at e ⊢; exact KV_congr e
theorem KV_mirror {xs : Array Keyed} {i j : Nat} (hj : j ≤ xs.size) (n : Nat) :
    KV O k (mirror xs i j ((j - i) / 2)) n = if i ≤ n ∧ n < j then KV O k xs (i + j - 1 - n) else KV O k xs n := by
  have e := getElem?_mirror_all (i := i) hj n
  by_cases h1 : i ≤ n ∧ n < j
  · rw [if_pos h1] at e ⊢; exact KV_congr e
  · rw [if_neg h1] at e ⊢; exact KV_congr e
theorem KV_mirror_eq {xs : Array Keyed} {i j : Nat} (hj : j ≤ xs.size) (heq : ∀ n, i ≤ n → n < j → KV O k xs n = KV O k xs (j - 1)) (n : Nat) :
    KV O k (mirror xs i j ((j - i) / 2)) n = KV O k xs n := by
  rw [KV_mirror hj]
  split
  · rw [heq _ (by omega) (by omega), heq n (by omega) (by omega)]
  · rfl
structure Stp (lo : Nat) (st st' : SortSt) : Prop where
  kind : kindOf st' = kindOf st
  pend : pendingOf st' = pendingOf st
  fail : failedOf st' = failedOf st
  perm : (arrOf st').Perm (arrOf st)
  low : ∀ i, i < lo → (arrOf st')[i]? = (arrOf st)[i]?
theorem Stp.refl (lo : Nat) (st : SortSt) : Stp lo st st := ⟨rfl, rfl, rfl, .refl _, fun _ _ => rfl⟩
theorem Stp.trans {lo : Nat} {a b c : SortSt} (h : Stp lo a b) (g : Stp lo b c) : Stp lo a c := ⟨g.kind.trans h.kind, g.pend.trans h.pend, g.fail.trans h.fail, g.perm.trans h.perm, fun i hi => (g.low i hi).trans (h.low i hi)⟩
theorem Stp.size {lo : Nat} {a b : SortSt} (h : Stp lo a b) : (arrOf b).size = (arrOf a).size := h.perm.size_eq
theorem Stp.mirror {lo i j : Nat} {st : SortSt} (hi : lo ≤ i) (hj : j ≤ (arrOf st).size) : Stp lo st (setArr st (mirror (arrOf st) i j ((j - i) / 2))) :=
  ⟨rfl, rfl, rfl, mirror_perm _ _ _ _, fun n hn => (getElem?_mirror_all (i := i) hj n).trans (if_neg (by omega))⟩
theorem Stp.bubble {lo src d : Nat} {st : SortSt} (hs : src < (arrOf st).size) (hd : lo + d ≤ src) : Stp lo st (setArr st (bubble (arrOf st) src d)) :=
  ⟨rfl, rfl, rfl, bubble_perm _ _ _, fun n hn => (getElem?_bubble hs d (by omega) n).trans (by rw [if_neg (by omega), if_neg (by omega)])⟩
structure SB (P : Keyed → Prop) (st : SortSt) : Prop where
  kind : kindOf st = oneType'
  all : ∀ x ∈ (arrOf st).toList, P x
theorem SB.step {lo : Nat} {st st' : SortSt} (h : SB P st) (g : Stp lo st st') : SB P st' := ⟨g.kind.trans h.kind, fun x hx => h.all x ((Array.perm_iff_toList_perm.mp g.perm).mem_iff.mp hx)⟩
theorem ltV {st : SortSt} {i j : Nat} {Q : Option Bool → SortSt → Prop} (asks : Asks prog w A E s O k P) (hb : SB P st) (hi : i < (arrOf st).size) (hj : j < (arrOf st).size) (h : Q (some (O.blt (KV O k (arrOf st) i) (KV O k (arrOf st) j))) st) : wpS (model prog w) A E s (ltAt' i j) Q st := by
  rw [ltAt'_eq]
  refine wpS_bind (wpS_get ?_)
  try dsimp only
  refine wpS_bind (elem_ok (get_at hi) (wpS_bind (elem_ok (get_at hj) (asks.lt _ _ _ _ (hb.all _ (by simp)) (hb.all _ (by simp)) hb.kind ?_))))
  have e1 : KV O k (arrOf st) i = k (arrOf st)[i] := by unfold KV; rw [get_at hi]; rfl
  have e2 : KV O k (arrOf st) j = k (arrOf st)[j] := by unfold KV; rw [get_at hj]; rfl
  rw [← e1, ← e2]
  exact h
theorem rev_ok {st : SortSt} {i j : Nat} {Q : Unit → SortSt → Prop} (h : Q () (setArr st (mirror (arrOf st) i j ((j - i) / 2)))) : wpS (model prog w) A E s (reverseSlice' i j) Q st := by
  rw [reverseSlice'_eq]; exact wpS_modify h
theorem Up.one {a : Array Keyed} {lo : Nat} : Up O k a lo (lo + 1) := fun i j h1 h2 h3 => by
  have : i = j := by omega
  subst this
  exact KeyOrd.kle_refl _
theorem Up.more {a : Array Keyed} {lo n : Nat} (h : Up O k a lo (lo + n)) (hn : 1 ≤ n) (g : O.kle (KV O k a (lo + n - 1)) (KV O k a (lo + n))) : Up O k a lo (lo + (n + 1)) := fun i j h1 h2 h3 => by
  by_cases hj : j < lo + n
  · exact h i j h1 h2 hj
  · have hj' : j = lo + n := by omega
    subst hj'
    by_cases hi : i = lo + n
    · subst hi; exact KeyOrd.kle_refl _
    · exact KeyOrd.kle_trans (h i (lo + n - 1) h1 (by omega) (by omega)) g
theorem Dn.more {a : Array Keyed} {lo n : Nat} (h : Dn O k a lo (lo + n)) (hn : 1 ≤ n) (g : O.kle (KV O k a (lo + n)) (KV O k a (lo + n - 1))) : Dn O k a lo (lo + (n + 1)) := fun i j h1 h2 h3 => by
  by_cases hj : j < lo + n
  · exact h i j h1 h2 hj
  · have hj' : j = lo + n := by omega
    subst hj'
    by_cases hi : i = lo + n
    · subst hi; exact KeyOrd.kle_refl _
    · exact KeyOrd.kle_trans g (h i (lo + n - 1) h1 (by omega) (by omega))
theorem asc_ok {lo a nrem : Nat} {st : SortSt} {Q : Option (Option Nat) × Nat → SortSt → Prop} (asks : Asks prog w A E s O k P) (hb : SB P st) (hn : lo + nrem ≤ (arrOf st).size) (ha : 1 ≤ a) (han : a ≤ nrem) (hs : Up O k (arrOf st) lo (lo + a))
    (h : ∀ n, a ≤ n → n ≤ nrem → Up O k (arrOf st) lo (lo + n) → (n = nrem ∨ O.klt (KV O k (arrOf st) (lo + n)) (KV O k (arrOf st) (lo + n - 1))) → Q (none, n) st) :
    wpS (model prog w) A E s (forIn [a:nrem] ((none, a) : Option (Option Nat) × Nat) fun _ __s => do
      let __x ← ltAt' (lo + __s.snd) (lo + __s.snd - 1)
      match __x with
      | some smaller => if smaller = true then pure (ForInStep.done (none, __s.snd)) else pure (ForInStep.yield (none, __s.snd + 1))
      | _ => pure (ForInStep.done (some none, __s.snd))) Q st := by
  refine wpS_forRange (I := fun x c st' => st' = st ∧ c = (none, x) ∧ Up O k (arrOf st) lo (lo + x)) ?step ?fin ⟨rfl, rfl, hs⟩
  case fin =>
    rintro c st' ⟨rfl, rfl, hs'⟩
    rw [show max a nrem = nrem by omega] at hs' ⊢
    exact h nrem han (Nat.le_refl _) hs' (.inl rfl)
  case step =>
    rintro x c st' hax hxn ⟨rfl, rfl, hs'⟩
    dsimp only
    refine wpS_bind (ltV asks hb (by omega) (by omega) ?_)
    cases e : O.blt (KV O k (arrOf st') (lo + x)) (KV O k (arrOf st') (lo + x - 1)) with
    | true =>
      simp only [if_true]
      exact wpS_pure (h x hax (by omega) hs' (.inr e))
    | false =>
      simp only [Bool.false_eq_true, if_false]
      exact wpS_pure ⟨rfl, rfl, hs'.more (by omega) e⟩
theorem tail_ok {lo n nrem : Nat} {st : SortSt} {Q : Option Nat → SortSt → Prop} (asks : Asks prog w A E s O k P) (hb : SB P st) (hn : lo + nrem ≤ (arrOf st).size) (h1 : 1 ≤ n) (hnn : n ≤ nrem) (hs : Dn O k (arrOf st) lo (lo + n))
    (h : ∀ m st', Stp lo st st' → 1 ≤ m → m ≤ nrem → Up O k (arrOf st') lo (lo + m) → Q (some m) st') :
    wpS (model prog w) A E s (do
      reverseSlice' lo (lo + n)
      let mut n := n
      for _ in [n:nrem] do
        let some smaller ← ltAt' (lo + n) (lo + n - 1) | return none
        if smaller then break
        n := n + 1
      return some n) Q st := by
  refine wpS_bind (rev_ok ?_)
  try dsimp only
  have hst : Stp lo st (setArr st (mirror (arrOf st) lo (lo + n) ((lo + n - lo) / 2))) := Stp.mirror (Nat.le_refl _) (by omega)
  refine wpS_bind (asc_ok asks (hb.step hst) (by rw [hst.size]; exact hn) h1 hnn ?_ fun m hm1 hm2 hsm _ => wpS_pure (h m _ hst (by omega) hm2 hsm))
  intro i j h1 h2 h3
  show O.kle (KV O k (mirror (arrOf st) lo (lo + n) ((lo + n - lo) / 2)) i) (KV O k (mirror (arrOf st) lo (lo + n) ((lo + n - lo) / 2)) j)
  rw [KV_mirror (by omega), KV_mirror (by omega), if_pos (by omega), if_pos (by omega)]
  exact hs _ _ (by omega) (by omega) (by omega)
theorem Dn.congr {a b : Array Keyed} {lo hi : Nat} (h : Dn O k a lo hi) (e : ∀ i, KV O k b i = KV O k a i) : Dn O k b lo hi := fun i j h1 h2 h3 => by rw [e, e]; exact h i j h1 h2 h3
theorem desc_ok {lo n nrem : Nat} {st : SortSt} {Q : Option Nat → SortSt → Prop} (asks : Asks prog w A E s O k P) (hb : SB P st) (hn : lo + nrem ≤ (arrOf st).size) (hnn : n + 1 ≤ nrem) (hs : Dn O k (arrOf st) lo (lo + (n + 1)))
    (h : ∀ m st', Stp lo st st' → 1 ≤ m → m ≤ nrem → Up O k (arrOf st') lo (lo + m) → Q (some m) st') :
    wpS (model prog w) A E s (do
      rule "list.sort.descending-run"
      let mut n := n
      n := n + 1
      let mut neq := 0
      for _ in [n:nrem] do
        let some smaller ← ltAt' (lo + n) (lo + n - 1) | return none
        if smaller then
          if neq > 0 then reverseSlice' (lo + n - (neq + 1)) (lo + n)
          neq := 0
        else
          let some larger ← ltAt' (lo + n - 1) (lo + n) | return none
          if larger then break
          neq := neq + 1
        n := n + 1
      if neq > 0 then reverseSlice' (lo + n - (neq + 1)) (lo + n)
      reverseSlice' lo (lo + n)
      for _ in [n:nrem] do
        let some smaller ← ltAt' (lo + n) (lo + n - 1) | return none
        if smaller then break
        n := n + 1
      return some n) Q st := by
  refine wpS_bind (wpS_lift (wpAny_rule ⟨rfl, ?_⟩))
  try dsimp only
  refine wpS_bind (wpS_mono (wpS_forRange (I := fun x c st' => ∃ neq, c = (none, x, neq) ∧ Stp lo st st' ∧ Dn O k (arrOf st') lo (lo + x) ∧ neq + 1 ≤ x ∧
      (∀ i, lo + x - (neq + 1) ≤ i → i < lo + x → KV O k (arrOf st') i = KV O k (arrOf st') (lo + x - 1)))
      (Q := fun c st' => ∃ x neq, c = (none, x, neq) ∧ n + 1 ≤ x ∧ x ≤ nrem ∧ Stp lo st st' ∧ Dn O k (arrOf st') lo (lo + x) ∧ neq + 1 ≤ x ∧
      (∀ i, lo + x - (neq + 1) ≤ i → i < lo + x → KV O k (arrOf st') i = KV O k (arrOf st') (lo + x - 1))) ?step ?fin ⟨0, rfl, Stp.refl _ _, hs, by omega, fun i h1 h2 => by congr 1; omega⟩) ?post)
  case fin =>
    rintro c st' ⟨neq, rfl, hst, hs', hq, he⟩
    rw [show max (n + 1) nrem = nrem by omega] at hs' hq he ⊢
    exact ⟨nrem, neq, rfl, hnn, Nat.le_refl _, hst, hs', hq, he⟩
  case step =>
    rintro x c st' hax hxn ⟨neq, rfl, hst, hs', hq, he⟩
    try dsimp only
    have hsz := hst.size
    refine wpS_bind (ltV asks (hb.step hst) (by omega) (by omega) ?_)
    try dsimp only
    cases e : O.blt (KV O k (arrOf st') (lo + x)) (KV O k (arrOf st') (lo + x - 1)) with
    | true =>
      simp only [if_true]
      have s2 : Dn O k (arrOf st') lo (lo + (x + 1)) := hs'.more (by omega) (KeyOrd.kle_of_klt e)
      by_cases hneq : neq > 0
      · rw [if_pos hneq]
        exact wpS_bind (rev_ok (wpS_pure ⟨0, rfl, hst.trans (Stp.mirror (by omega) (by omega)), s2.congr (KV_mirror_eq (by omega) he), by omega, fun i h1 h2 => by congr 1; omega⟩))
      · rw [if_neg hneq]
        exact wpS_pure ⟨0, rfl, hst, s2, by omega, fun i h1 h2 => by congr 1; omega⟩
    | false =>
      simp only [Bool.false_eq_true, if_false]
      refine wpS_bind (ltV asks (hb.step hst) (by omega) (by omega) ?_)
      try dsimp only
      cases e2 : O.blt (KV O k (arrOf st') (lo + x - 1)) (KV O k (arrOf st') (lo + x)) with
      | true =>
        simp only [if_true]
        exact wpS_pure ⟨x, neq, rfl, hax, by omega, hst, hs', hq, he⟩
      | false =>
        simp only [Bool.false_eq_true, if_false]
        have heq : KV O k (arrOf st') (lo + x) = KV O k (arrOf st') (lo + x - 1) := O.total _ _ e e2
        refine wpS_pure ⟨neq + 1, rfl, hst, hs'.more (by omega) (by rw [heq]; exact KeyOrd.kle_refl _), by omega, fun i h1 h2 => ?_⟩
        rw [show lo + (x + 1) - 1 = lo + x by omega]
        by_cases hi : i = lo + x
        · subst hi; rfl
        · rw [heq]; exact he i (by omega) (by omega)
  case post =>
    rintro c st' ⟨m, neq, rfl, hm1, hm2, hst, hs', hq, he⟩
    try dsimp only
    have hsz := hst.size
    by_cases hneq : neq > 0
    · rw [if_pos hneq]
      have st2 : Stp lo st' (setArr st' (mirror (arrOf st') (lo + m - (neq + 1)) (lo + m) ((lo + m - (lo + m - (neq + 1))) / 2))) := Stp.mirror (by omega) (by omega)
      refine wpS_bind (rev_ok (tail_ok asks (hb.step (hst.trans st2)) (by rw [(hst.trans st2).size]; exact hn) (by omega) hm2 ?_ fun m2 st3 h3 => h m2 st3 ((hst.trans st2).trans h3)))
      exact hs'.congr (KV_mirror_eq (by omega) he)
    · rw [if_neg hneq]
      exact tail_ok asks (hb.step hst) (by omega) (by omega) hm2 hs' fun m2 st3 h3 => h m2 st3 (hst.trans h3)
theorem countRun_ok {lo nrem : Nat} {st : SortSt} {Q : Option Nat → SortSt → Prop} (asks : Asks prog w A E s O k P) (hb : SB P st) (hn : lo + nrem ≤ (arrOf st).size) (h1 : 1 ≤ nrem)
    (h : ∀ m st', Stp lo st st' → 1 ≤ m → m ≤ nrem → Up O k (arrOf st') lo (lo + m) → Q (some m) st') : wpS (model prog w) A E s (countRun' lo nrem) Q st := by
  rw [countRun'_eq]
  try dsimp only
  refine wpS_bind (asc_ok asks hb hn (Nat.le_refl 1) h1 Up.one fun n hn1 hn2 hsn hor => ?_)
  try dsimp only
  by_cases hnn : n = nrem
  · rw [if_pos (by simpa using hnn)]
    exact wpS_pure (h n st (Stp.refl _ _) hn1 hn2 hsn)
  rw [if_neg (by simpa using hnn)]
  have hlt := hor.resolve_left hnn
  by_cases hgt : n > 1
  · rw [if_pos hgt]
    refine wpS_bind (ltV asks hb (by omega) (by omega) ?_)
    try dsimp only
    cases e : O.blt (KV O k (arrOf st) lo) (KV O k (arrOf st) (lo + n - 1)) with
    | true =>
      simp only [if_true]
      exact wpS_pure (h n st (Stp.refl _ _) hn1 hn2 hsn)
    | false =>
      simp only [Bool.false_eq_true, if_false]
      have hall : ∀ i, lo ≤ i → i < lo + n → KV O k (arrOf st) i = KV O k (arrOf st) (lo + n - 1) := fun i g1 g2 => by
        have a1 := hsn lo i (Nat.le_refl _) g1 g2
        have a2 := hsn i (lo + n - 1) g1 (by omega) (by omega)
        exact KeyOrd.kle_antisymm a2 (KeyOrd.kle_trans e a1)
      have hst : Stp lo st (setArr st (mirror (arrOf st) lo (lo + n) ((lo + n - lo) / 2))) := Stp.mirror (Nat.le_refl _) (by omega)
      have d0 : Dn O k (arrOf st) lo (lo + n) := fun i j g1 g2 g3 => by rw [hall i g1 (by omega), hall j (by omega) g3]; exact KeyOrd.kle_refl _
      refine wpS_bind (rev_ok (desc_ok asks (hb.step hst) (by rw [hst.size]; exact hn) (by omega) ?_ fun m st' h3 => h m st' (hst.trans h3)))
      exact (d0.more hn1 (KeyOrd.kle_of_klt hlt)).congr (KV_mirror_eq (by omega) hall)
  · rw [if_neg hgt]
    have : n = 1 := by omega
    subst this
    refine desc_ok asks hb hn (by omega) ?_ h
    refine Dn.more (n := 1) (fun i j g1 g2 g3 => ?_) (Nat.le_refl _) (KeyOrd.kle_of_klt hlt)
    have : i = j := by omega
    subst this
    exact KeyOrd.kle_refl _
theorem binarySort_ok {lo n ok : Nat} {st : SortSt} {Q : Bool → SortSt → Prop} (asks : Asks prog w A E s O k P) (hb : SB P st) (hn : lo + n ≤ (arrOf st).size) (h1 : 1 ≤ ok) (hok : ok ≤ n) (hs : Up O k (arrOf st) lo (lo + ok))
    (h : ∀ st', Stp lo st st' → Up O k (arrOf st') lo (lo + n) → Q true st') : wpS (model prog w) A E s (binarySort' lo n ok) Q st := by
  rw [binarySort'_eq]
  try dsimp only
  refine wpS_bind (wpS_mono (wpS_forRange (I := fun m c st' => c = (none, ()) ∧ Stp lo st st' ∧ Up O k (arrOf st') lo (lo + m))
    (Q := fun c st' => c = (none, ()) ∧ Stp lo st st' ∧ Up O k (arrOf st') lo (lo + n)) ?step ?fin ?init) ?post)
  case post =>
    rintro c st' ⟨rfl, hst, hs'⟩
    exact wpS_pure (h st' hst hs')
  case init => exact ⟨rfl, Stp.refl _ _, by rw [show max ok 1 = ok by omega]; exact hs⟩
  case fin =>
    rintro c st' ⟨hc, hst, hs'⟩
    refine ⟨hc, hst, ?_⟩
    rwa [show max (max ok 1) n = n by omega] at hs'
  case step =>
    rintro m c st' hak hkn ⟨rfl, hst, hs'⟩
    have hsz := hst.size
    try dsimp only
    refine wpS_bind (wpS_mono (wpS_forRange (I := fun x c st'' => st'' = st' ∧ ∃ l r, c = (none, l, r) ∧ l ≤ r ∧ r ≤ m ∧ r - l ≤ m - x ∧
        (∀ i, lo ≤ i → i < lo + l → O.kle (KV O k (arrOf st') i) (KV O k (arrOf st') (lo + m))) ∧ (∀ i, lo + r ≤ i → i < lo + m → O.klt (KV O k (arrOf st') (lo + m)) (KV O k (arrOf st') i)))
      (Q := fun c st'' => st'' = st' ∧ ∃ l r, c = (none, l, r) ∧ l ≤ m ∧
        (∀ i, lo ≤ i → i < lo + l → O.kle (KV O k (arrOf st') i) (KV O k (arrOf st') (lo + m))) ∧ (∀ i, lo + l ≤ i → i < lo + m → O.klt (KV O k (arrOf st') (lo + m)) (KV O k (arrOf st') i))) ?istep ?ifin ?iinit) ?ipost)
    case iinit => exact ⟨rfl, 0, m, rfl, by omega, by omega, by omega, fun i hi => by omega, fun i h1 h2 => by omega⟩
    case ifin =>
      rintro c st'' ⟨rfl, l, r, rfl, hlr, hrk, hm, hlo, hhi⟩
      have : l = r := by omega
      subst this
      exact ⟨rfl, l, l, rfl, hrk, hlo, hhi⟩
    case istep =>
      rintro x c st'' _ hxk ⟨rfl, l, r, rfl, hlr, hrk, hm, hlo, hhi⟩
      try dsimp only
      by_cases hge : l ≥ r
      · rw [if_pos hge]
        have : l = r := by omega
        subst this
        exact wpS_pure ⟨rfl, l, l, rfl, hrk, hlo, hhi⟩
      · rw [if_neg hge]
        refine wpS_bind (ltV asks (hb.step hst) (by omega) (by omega) ?_)
        try dsimp only
        cases e : O.blt (KV O k (arrOf st'') (lo + m)) (KV O k (arrOf st'') (lo + (l + r) / 2)) with
        | true =>
          simp only [if_true]
          exact wpS_pure ⟨rfl, l, (l + r) / 2, rfl, by omega, by omega, by omega, hlo, fun i h1 h2 => KeyOrd.klt_of_klt_of_kle e (hs' _ _ (by omega) h1 h2)⟩
        | false =>
          simp only [Bool.false_eq_true, if_false]
          exact wpS_pure ⟨rfl, (l + r) / 2 + 1, r, rfl, by omega, by omega, by omega, fun i h0 h1 => KeyOrd.kle_trans (hs' i (lo + (l + r) / 2) h0 (by omega) (by omega)) e, hhi⟩
    case ipost =>
      rintro c st'' ⟨rfl, l, r, rfl, hlk, hlo, hhi⟩
      try dsimp only
      rw [moveDown'_eq]
      refine wpS_bind (wpS_modify (wpS_pure ⟨rfl, hst.trans (Stp.bubble (by omega) (by omega)), ?_⟩))
      intro i j h0 hij hj
      show O.kle (KV O k (bubble (arrOf st'') (lo + m) (lo + m - (lo + l))) i) (KV O k (bubble (arrOf st'') (lo + m) (lo + m - (lo + l))) j)
      rw [KV_bubble (by omega) (by omega), KV_bubble (by omega) (by omega), show lo + m - (lo + m - (lo + l)) = lo + l by omega]
      repeat' split
      all_goals first
        | (exfalso; omega)
        | exact KeyOrd.kle_refl _
        | exact hlo _ (by omega) (by omega)
        | exact KeyOrd.kle_of_klt (hhi _ (by omega) (by omega))
        | exact hs' _ _ (by omega) (by omega) (by omega)
end
end PyProof.Rows
namespace PyProof.Rows
open PySem
section
variable {prog : Program} {w : World} {A : Around} {E : Value → Shared → Prop} {s : Shared}
variable {O : KeyOrd} {k : Keyed → O.α} {P : Keyed → Prop}
theorem KV_list {a : Array Keyed} {L : List Keyed} {lo n : Nat} (e : (a.toList.drop lo).take n = L) (hn : lo + n ≤ a.size) {i : Nat} (hi : i < n) : a[lo + i]? = L[i]? := by
  rw [← e, List.getElem?_take_of_lt hi, List.getElem?_drop, Array.getElem?_toList]
theorem Up.ord {a : Array Keyed} {lo n : Nat} (h : Up O k a lo (lo + n)) (hn : lo + n ≤ a.size) : Ord O k ((a.toList.drop lo).take n) := by
  refine List.pairwise_iff_getElem.mpr fun i j hi hj hij => ?_
  have hj' : j < n := by rw [List.length_take] at hj; omega
  have := h (lo + i) (lo + j) (by omega) (by omega) (by omega)
  unfold KV at this
  rw [KV_list rfl hn (by omega), KV_list rfl hn hj', List.getElem?_eq_getElem hi, List.getElem?_eq_getElem hj] at this
  exact this
theorem Ord.up {a : Array Keyed} {pre M post : List Keyed} (e : a.toList = pre ++ (M ++ post)) (h : Ord O k M) : Up O k a pre.length (pre.length + M.length) := fun i j h1 h2 h3 => by
  obtain ⟨i', rfl⟩ : ∃ i', i = pre.length + i' := ⟨i - pre.length, by omega⟩
  obtain ⟨j', rfl⟩ : ∃ j', j = pre.length + j' := ⟨j - pre.length, by omega⟩
  unfold KV
  rw [mid_at e (show i' < M.length by omega), mid_at e (show j' < M.length by omega)]
  exact ord_idx h (by omega) _
theorem parts4 (l : List Keyed) (a b c : Nat) : l = l.take a ++ (l.drop a).take b ++ (l.drop (a + b)).take c ++ l.drop (a + b + c) := by
  rw [List.append_assoc, List.append_assoc, ← List.drop_drop (i := c) (j := a + b), List.take_append_drop, ← List.drop_drop (i := b) (j := a), List.take_append_drop, List.take_append_drop]
theorem mergeAtR {i : Nat} {st : SortSt} {Q : Bool → SortSt → Prop} {ps qs : List (Nat × Nat × Nat)} {s1 n1 w1 n2 w2 : Nat} (asks : Asks prog w A E s O k P) (hb : SB P st) (hf : failedOf st = none)
    (hp : (pendingOf st).toList = ps ++ (s1, n1, w1) :: (s1 + n1, n2, w2) :: qs) (hi : i = ps.length) (l1 : 1 ≤ n1) (l2 : 1 ≤ n2) (hz : s1 + n1 + n2 ≤ (arrOf st).size) (u1 : Up O k (arrOf st) s1 (s1 + n1)) (u2 : Up O k (arrOf st) (s1 + n1) (s1 + n1 + n2))
    (h : ∀ st', SB P st' → failedOf st' = none → (pendingOf st').toList = ps ++ (s1, n1 + n2, w1) :: qs → (arrOf st').Perm (arrOf st) → Up O k (arrOf st') s1 (s1 + (n1 + n2)) → (∀ j, j < s1 ∨ s1 + n1 + n2 ≤ j → (arrOf st')[j]? = (arrOf st)[j]?) → Q true st') :
    wpS (model prog w) A E s (mergeAt' i) Q st := by
  have hl : (arrOf st).toList.length = (arrOf st).size := Array.length_toList
  have ea := parts4 (arrOf st).toList s1 n1 n2
  have lp : ((arrOf st).toList.take s1).length = s1 := by rw [List.length_take]; omega
  have lL1 : (((arrOf st).toList.drop s1).take n1).length = n1 := by rw [List.length_take, List.length_drop]; omega
  have lL2 : (((arrOf st).toList.drop (s1 + n1)).take n2).length = n2 := by rw [List.length_take, List.length_drop]; omega
  have q1 : (pendingOf st)[i]? = some (s1, n1, w1) := by
    rw [← Array.getElem?_toList, hp, hi, List.getElem?_append_right (Nat.le_refl _), Nat.sub_self]; rfl
  have q2 : (pendingOf st)[i + 1]? = some (s1 + n1, n2, w2) := by
    rw [← Array.getElem?_toList, hp, hi, List.getElem?_append_right (by omega), show ps.length + 1 - ps.length = 1 by omega]; rfl
  refine mergeAt_ok asks hb.kind hf hb.all ea (by omega) (by omega) (u1.ord (by omega)) (u2.ord (by omega)) (pw := w1) (pw2 := w2) (by rw [lp, lL1]; exact q1) (by rw [lp, lL1, lL2]; exact q2) fun M st' k1 k2 k3 k4 k5 k6 => ?_
  have lM : M.length = n1 + n2 := by rw [k5.length_eq, List.length_append, lL1, lL2]
  have k4' : (arrOf st').toList = (arrOf st).toList.take s1 ++ (M ++ (arrOf st).toList.drop (s1 + n1 + n2)) := by rw [k4, List.append_assoc]
  have pm : (arrOf st').toList.Perm (arrOf st).toList := by
    rw [k4]
    refine List.Perm.trans (List.Perm.append_right _ (List.Perm.append_left _ k5)) (List.Perm.of_eq ?_)
    rw [← List.append_assoc]
    exact ea.symm
  have up := Ord.up k4' k6
  rw [lp, lM] at up
  refine h st' ⟨k1, fun x hx => hb.all x (pm.mem_iff.mp hx)⟩ k2 ?_ (Array.perm_iff_toList_perm.mpr pm) up fun j hj => ?_
  · rw [k3, lp, lL1, lL2, Array.toList_eraseIdxIfInBounds, Array.toList_setIfInBounds, hp, hi]
    rw [List.set_append_right _ _ (Nat.le_refl _), Nat.sub_self, List.eraseIdx_append_of_length_le (by omega), show ps.length + 1 - ps.length = 1 by omega]
    rfl
  · rw [← Array.getElem?_toList, ← Array.getElem?_toList, k4']
    rcases hj with hj | hj
    · rw [List.getElem?_append_left (by omega), List.getElem?_take_of_lt hj]
    · rw [List.getElem?_append_right (by omega), lp, List.getElem?_append_right (by omega), lM, List.getElem?_drop]
      congr 1
      omega
def Runs : List (Nat × Nat × Nat) → Nat → Nat → Prop
  | [], a, b => a = b
  | (s, n, _) :: r, a, b => s = a ∧ 1 ≤ n ∧ Runs r (a + n) b
theorem Runs.le : ∀ {l : List (Nat × Nat × Nat)} {a b : Nat}, Runs l a b → a + l.length ≤ b
  | [], a, b, h => by have : a = b := h; subst this; exact Nat.le_refl _
  | (s, n, w) :: r, a, b, h => by have := h.2.2.le; have := h.2.1; show a + (r.length + 1) ≤ b; omega
theorem Runs.split : ∀ {l r : List (Nat × Nat × Nat)} {a b : Nat}, Runs (l ++ r) a b → ∃ c, Runs l a c ∧ Runs r c b
  | [], r, a, b, h => ⟨a, rfl, h⟩
  | (s, n, w) :: l, r, a, b, h => by
    obtain ⟨c, h1, h2⟩ := Runs.split h.2.2
    exact ⟨c, ⟨h.1, h.2.1, h1⟩, h2⟩
theorem Runs.join : ∀ {l r : List (Nat × Nat × Nat)} {a b c : Nat}, Runs l a c → Runs r c b → Runs (l ++ r) a b
  | [], r, a, b, c, h, g => by have : a = c := h; subst this; exact g
  | (s, n, w) :: l, r, a, b, c, h, g => ⟨h.1, h.2.1, h.2.2.join g⟩
theorem Runs.mem : ∀ {l : List (Nat × Nat × Nat)} {a b : Nat}, Runs l a b → ∀ p ∈ l, a ≤ p.1 ∧ p.1 + p.2.1 ≤ b
  | (s, n, w) :: r, a, b, h, p, hp => by
    rcases List.mem_cons.mp hp with rfl | hp
    · have := h.2.2.le
      have := h.1
      exact ⟨by show a ≤ s; omega, by show s + n ≤ b; omega⟩
    · have := h.2.2.mem p hp
      exact ⟨by omega, this.2⟩
structure RI (O : KeyOrd) (k : Keyed → O.α) (P : Keyed → Prop) (a₀ : Array Keyed) (lo : Nat) (st : SortSt) : Prop where
  sb : SB P st
  fail : failedOf st = none
  perm : (arrOf st).Perm a₀
  runs : Runs (pendingOf st).toList 0 lo
  up : ∀ p ∈ (pendingOf st).toList, Up O k (arrOf st) p.1 (p.1 + p.2.1)
theorem Up.congr {a b : Array Keyed} {lo hi : Nat} (h : Up O k a lo hi) (e : ∀ i, lo ≤ i → i < hi → b[i]? = a[i]?) : Up O k b lo hi := fun i j h1 h2 h3 => by
  rw [KV_congr (e i h1 (by omega)), KV_congr (e j (by omega) h3)]
  exact h i j h1 h2 h3
theorem RI.step {a₀ : Array Keyed} {lo : Nat} {st st' : SortSt} (h : RI O k P a₀ lo st) (g : Stp lo st st') : RI O k P a₀ lo st' :=
  ⟨h.sb.step g, g.fail.trans h.fail, g.perm.trans h.perm, by rw [g.pend]; exact h.runs, fun p hp => by
    rw [g.pend] at hp
    have := h.runs.mem p hp
    exact (h.up p hp).congr fun i _ h2 => g.low i (by omega)⟩
theorem two_of (l : List (Nat × Nat × Nat)) {i : Nat} (h : i + 2 ≤ l.length) : ∃ x y, l = l.take i ++ x :: y :: l.drop (i + 2) := by
  refine ⟨l[i], l[i + 1], ?_⟩
  have e1 : l.drop i = l[i] :: l.drop (i + 1) := List.drop_eq_getElem_cons (by omega)
  have e2 : l.drop (i + 1) = l[i + 1] :: l.drop (i + 2) := List.drop_eq_getElem_cons (by omega)
  rw [← e2, ← e1, List.take_append_drop]
theorem mergeAtI {a₀ : Array Keyed} {lo i : Nat} {st : SortSt} {Q : Bool → SortSt → Prop} (asks : Asks prog w A E s O k P) (h : RI O k P a₀ lo st) (hlo : lo ≤ a₀.size) (hi : i + 2 ≤ (pendingOf st).size)
    (g : ∀ st', RI O k P a₀ lo st' → (pendingOf st').size + 1 = (pendingOf st).size → (∀ j, lo ≤ j → (arrOf st')[j]? = (arrOf st)[j]?) → Q true st') : wpS (model prog w) A E s (mergeAt' i) Q st := by
  have hl : (pendingOf st).toList.length = (pendingOf st).size := Array.length_toList
  obtain ⟨⟨s1, n1, w1⟩, ⟨s2, n2, w2⟩, e⟩ := two_of (pendingOf st).toList (i := i) (by omega)
  have hr := h.runs
  rw [e] at hr
  obtain ⟨c, r1, r2⟩ := hr.split
  obtain ⟨rfl, l1, e2, l2, r3⟩ := r2
  subst e2
  have b3 := r3.le
  have lt : ((pendingOf st).toList.take i).length = i := by rw [List.length_take]; omega
  have hu := h.up
  rw [e] at hu
  have u1 := hu (s1, n1, w1) (by simp)
  have u2 := hu (s1 + n1, n2, w2) (by simp)
  have hsz := h.perm.size_eq
  refine mergeAtR asks h.sb h.fail e lt.symm l1 l2 (by omega) u1 u2 fun st' k1 k2 k3 k4 k5 k6 => ?_
  refine g st' ⟨k1, k2, k4.trans h.perm, ?_, fun p hp => ?_⟩ ?_ fun j hj => k6 j (.inr (by omega))
  · rw [k3]
    exact r1.join ⟨rfl, by omega, by rw [← Nat.add_assoc]; exact r3⟩
  · rw [k3] at hp
    rcases List.mem_append.mp hp with hp | hp
    · have := r1.mem p hp
      exact (hu p (List.mem_append_left _ hp)).congr fun j h1 h2 => k6 j (.inl (by omega))
    · rcases List.mem_cons.mp hp with rfl | hp
      · exact k5
      · have := r3.mem p hp
        exact (hu p (List.mem_append_right _ (List.mem_cons_of_mem _ (List.mem_cons_of_mem _ hp)))).congr fun j h1 h2 => k6 j (.inr (by omega))
  · have e3 := congrArg List.length k3
    have e4 := congrArg List.length e
    simp only [List.length_append, List.length_cons, Array.length_toList] at e3 e4
    omega
end
end PyProof.Rows
namespace PyProof.Rows
open PySem
section
variable {prog : Program} {w : World} {A : Around} {E : Value → Shared → Prop} {s : Shared}
variable {O : KeyOrd} {k : Keyed → O.α} {P : Keyed → Prop}
theorem RI.push {a₀ : Array Keyed} {lo n : Nat} {st : SortSt} (h : RI O k P a₀ lo st) (hn : 1 ≤ n) (u : Up O k (arrOf st) lo (lo + n)) : RI O k P a₀ (lo + n) (setPending st ((pendingOf st).push (lo, n, 0))) := by
  have e : (pendingOf (setPending st ((pendingOf st).push (lo, n, 0)))).toList = (pendingOf st).toList ++ [(lo, n, 0)] := Array.toList_push
  refine ⟨⟨h.sb.kind, h.sb.all⟩, h.fail, h.perm, ?_, fun p hp => ?_⟩
  · rw [e]; exact h.runs.join ⟨rfl, hn, rfl⟩
  · rw [e] at hp
    rcases List.mem_append.mp hp with hp | hp
    · exact h.up p hp
    · cases List.mem_singleton.mp hp
      exact u
theorem Runs.last : ∀ {l : List (Nat × Nat × Nat)} {a b : Nat} (pw i : Nat), Runs l a b → Runs (l.modify i fun (st, len, _) => (st, len, pw)) a b
  | [], a, b, pw, i, h => by rw [List.modify_nil]; exact h
  | (s, n, w) :: r, a, b, pw, 0, h => by rw [List.modify_zero_cons]; exact h
  | (s, n, w) :: r, a, b, pw, i + 1, h => by rw [List.modify_succ_cons]; exact ⟨h.1, h.2.1, h.2.2.last pw i⟩
theorem mem_modify : ∀ {l : List (Nat × Nat × Nat)} {pw i : Nat} {p : Nat × Nat × Nat}, p ∈ (l.modify i fun (st, len, _) => (st, len, pw)) → ∃ q ∈ l, q.1 = p.1 ∧ q.2.1 = p.2.1
  | [], pw, i, p, h => by rw [List.modify_nil] at h; cases h
  | (s, n, w) :: r, pw, 0, p, h => by
    rw [List.modify_zero_cons] at h
    rcases List.mem_cons.mp h with rfl | h
    · exact ⟨_, List.mem_cons_self, rfl, rfl⟩
    · exact ⟨p, List.mem_cons_of_mem _ h, rfl, rfl⟩
  | (s, n, w) :: r, pw, i + 1, p, h => by
    rw [List.modify_succ_cons] at h
    rcases List.mem_cons.mp h with rfl | h
    · exact ⟨_, List.mem_cons_self, rfl, rfl⟩
    · obtain ⟨q, h1, h2⟩ := mem_modify h
      exact ⟨q, List.mem_cons_of_mem _ h1, h2⟩
theorem RI.pow {a₀ : Array Keyed} {lo pw : Nat} {st : SortSt} (h : RI O k P a₀ lo st) : RI O k P a₀ lo (setPending st ((pendingOf st).modify ((pendingOf st).size - 1) fun (st, len, _) => (st, len, pw))) := by
  have e : (pendingOf (setPending st ((pendingOf st).modify ((pendingOf st).size - 1) fun (st, len, _) => (st, len, pw)))).toList = (pendingOf st).toList.modify ((pendingOf st).size - 1) fun (st, len, _) => (st, len, pw) := Array.toList_modify
  refine ⟨⟨h.sb.kind, h.sb.all⟩, h.fail, h.perm, ?_, fun p hp => ?_⟩
  · rw [e]; exact h.runs.last _ _
  · rw [e] at hp
    obtain ⟨q, h1, h2, h3⟩ := mem_modify hp
    rw [← h2, ← h3]
    exact h.up q h1
set_option hygiene false in
local macro_rules | `(tactic| sizeOf_list_dec) => `(tactic| (
  refine wpS_bind (wpS_get ?_)
  try dsimp only
  cases (pendingOf st9).back? with
  | none => exact wpS_bind (wpS_modify (wpS_pure (g _ (h.push hn u))))
  | some p =>
    obtain ⟨s1, n1, w1⟩ := p
    try dsimp only
    generalize power' (arrOf st).size (2 * s1 + n1) (2 * s1 + n1 + n1 + n) (arrOf st).size = pw
    refine wpS_bind (wpS_mono (wpS_forRange (I := fun x c st' => c = (none, ()) ∧ RI O k P (arrOf st) lo st' ∧ Up O k (arrOf st') lo (lo + n))
      (Q := fun c st' => c = (none, ()) ∧ RI O k P (arrOf st) lo st' ∧ Up O k (arrOf st') lo (lo + n)) ?nstep ?nfin ⟨rfl, h, u⟩) ?npost)
    case nfin => exact fun c st' h => h
    case npost =>
      rintro c st' ⟨rfl, h', u'⟩
      try dsimp only
      exact wpS_bind (wpS_modify (wpS_bind (wpS_modify (wpS_pure (g _ (h'.pow.push hn u'))))))
    case nstep =>
      rintro x c st' _ _ ⟨rfl, h', u'⟩
      refine wpS_bind (wpS_get ?_)
      try dsimp only
      by_cases hz : (pendingOf st').size > 1
      · rw [if_pos hz]
        cases e : (pendingOf st')[(pendingOf st').size - 2]? with
        | none => exact wpS_pure ⟨rfl, h', u'⟩
        | some p =>
          obtain ⟨s2, n2, w2⟩ := p
          try dsimp only
          by_cases hw : w2 ≤ pw
          · rw [if_pos hw]
            exact wpS_pure ⟨rfl, h', u'⟩
          · rw [if_neg hw]
            refine wpS_bind (mergeAtI asks h' (by omega) (by omega) fun st3 k1 k2 k3 => ?_)
            simp only [Bool.not_true, Bool.false_eq_true, if_false]
            exact wpS_pure ⟨rfl, k1, u'.congr fun j h1 _ => k3 j h1⟩
      · rw [if_neg hz]
        exact wpS_pure ⟨rfl, h', u'⟩))
theorem sortRuns_ok {st : SortSt} {Q : Unit → SortSt → Prop} (asks : Asks prog w A E s O k P) (hb : SB P st) (hf : failedOf st = none) (hp : pendingOf st = #[]) (h2 : 2 ≤ (arrOf st).size)
    (h : ∀ st', failedOf st' = none → (arrOf st').Perm (arrOf st) → Ord O k (arrOf st').toList → Q () st') : wpS (model prog w) A E s sortRuns' Q st := by
  rw [sortRuns'_eq]
  refine wpS_bind (wpS_get ?_)
  try dsimp only
  have i0 : RI O k P (arrOf st) 0 st := ⟨hb, hf, .refl _, by rw [hp]; rfl, fun p hp' => by rw [hp] at hp'; cases hp'⟩
  generalize minRun' (arrOf st).size (arrOf st).size 0 = mr
  refine wpS_bind (wpS_mono (wpS_forRange
    (I := fun x c st' => ∃ lo, c = (none, lo) ∧ x ≤ lo ∧ lo ≤ (arrOf st).size ∧ RI O k P (arrOf st) lo st')
    (Q := fun c st' => c = (none, (arrOf st).size) ∧ RI O k P (arrOf st) (arrOf st).size st') ?step ?fin ⟨0, rfl, by omega, by omega, i0⟩) ?post)
  case fin =>
    rintro c st' ⟨lo, rfl, h1, h3, h4⟩
    have : lo = (arrOf st).size := by omega
    subst this
    exact ⟨rfl, h4⟩
  case step =>
    rintro x c st' _ hx ⟨lo, rfl, h1, h3, h4⟩
    try dsimp only
    have hsz := h4.perm.size_eq
    by_cases hlo : lo ≥ (arrOf st).size
    · rw [if_pos hlo]
      have : lo = (arrOf st).size := by omega
      subst this
      exact wpS_pure ⟨rfl, h4⟩
    rw [if_neg hlo]
    refine wpS_bind (countRun_ok asks h4.sb (by omega) (by omega) fun n st2 g1 g2 g3 g4 => ?_)
    try dsimp only
    have g1s := g1.size
    by_cases hm : n < mr
    · rw [if_pos hm]
      refine wpS_bind (wpS_lift (wpAny_rule ⟨rfl, ?_⟩))
      try dsimp only
      refine wpS_bind (binarySort_ok asks (h4.sb.step g1) (by omega) g2 (by omega) g4 fun st9 g5 u => ?_)
      simp only [Bool.not_true, Bool.false_eq_true, if_false]
      have hn : 1 ≤ min ((arrOf st).size - lo) mr := by omega
      have h9 := (h4.step g1).step g5
      have g : ∀ st4, RI O k P (arrOf st) (lo + min ((arrOf st).size - lo) mr) st4 → ∃ lo', ((none, lo + min ((arrOf st).size - lo) mr) : Option PUnit × Nat) = (none, lo') ∧ x + 1 ≤ lo' ∧ lo' ≤ (arrOf st).size ∧ RI O k P (arrOf st) lo' st4 := fun st4 g7 => ⟨_, rfl, by omega, by omega, g7⟩
      replace h := h9
      generalize min ((arrOf st).size - lo) mr = n at *
      sizeOf_list_dec
    · rw [if_neg hm]
      have hn := g2
      have h9 := h4.step g1
      have g : ∀ st4, RI O k P (arrOf st) (lo + n) st4 → ∃ lo', ((none, lo + n) : Option PUnit × Nat) = (none, lo') ∧ x + 1 ≤ lo' ∧ lo' ≤ (arrOf st).size ∧ RI O k P (arrOf st) lo' st4 := fun st4 g7 => ⟨_, rfl, by omega, by omega, g7⟩
      replace h := h9
      have u := g4
      clear h9 g4 g1
      revert u h
      generalize st2 = st9
      intro h u
      sizeOf_list_dec
  case post =>
    rintro c st' ⟨rfl, hD⟩
    try dsimp only
    refine wpS_bind (wpS_mono (wpS_forRange (I := fun x c st2 => c = (none, ()) ∧ RI O k P (arrOf st) (arrOf st).size st2 ∧ ((pendingOf st2).size + x ≤ (arrOf st).size ∨ (pendingOf st2).size ≤ 1))
      (Q := fun c st2 => c = (none, ()) ∧ RI O k P (arrOf st) (arrOf st).size st2 ∧ (pendingOf st2).size ≤ 1) ?fstep ?ffin ?finit) ?fpost)
    case finit =>
      have := hD.runs.le
      rw [Array.length_toList] at this
      exact ⟨rfl, hD, .inl (by omega)⟩
    case ffin =>
      rintro c st2 ⟨rfl, h1, h3⟩
      exact ⟨rfl, h1, by omega⟩
    case fstep =>
      rintro x c st2 _ hx ⟨rfl, h1, h3⟩
      refine wpS_bind (wpS_get ?_)
      try dsimp only
      by_cases hz : (pendingOf st2).size ≤ 1
      · rw [if_pos hz]
        exact wpS_pure ⟨rfl, h1, hz⟩
      · rw [if_neg hz]
        have go : ∀ i, i + 2 ≤ (pendingOf st2).size → wpS (model prog w) A E s (mergeAt' i) (fun b st3 => b = true ∧ RI O k P (arrOf st) (arrOf st).size st3 ∧ ((pendingOf st3).size + (x + 1) ≤ (arrOf st).size ∨ (pendingOf st3).size ≤ 1)) st2 := fun i hi =>
          mergeAtI asks h1 (Nat.le_refl _) hi fun st3 k1 k2 k3 => ⟨rfl, k1, by omega⟩
        refine wpS_bind (wpS_mono (go _ ?_) ?_)
        · generalize Option.any _ _ = b
          cases b
          · show (pendingOf st2).size - 2 + 2 ≤ _; omega
          · show (pendingOf st2).size - 2 - 1 + 2 ≤ _; omega
        · rintro b st3 ⟨rfl, k1, k2⟩
          simp only [Bool.not_true, Bool.false_eq_true, if_false]
          exact wpS_pure ⟨rfl, k1, k2⟩
    case fpost =>
      rintro c st2 ⟨rfl, h1, h3⟩
      try dsimp only
      refine wpS_pure (h st2 h1.fail h1.perm ?_)
      have hr := h1.runs
      have hl : (pendingOf st2).toList.length = (pendingOf st2).size := Array.length_toList
      have hu := h1.up
      have hsz := h1.perm.size_eq
      generalize (pendingOf st2).toList = l at hr hl hu
      match l, hr, hl, hu with
      | [], hr, hl, hu => have : 0 = (arrOf st).size := hr; omega
      | [(a, n, b)], hr, hl, hu =>
        obtain ⟨rfl, _, e⟩ := hr
        have e' : 0 + n = (arrOf st).size := e
        have u := hu (0, n, b) (by simp)
        have := Up.ord (lo := 0) (n := n) u (by omega)
        rw [List.drop_zero, List.take_of_length_le (by rw [Array.length_toList]; omega)] at this
        exact this
      | p :: q :: r, hr, hl, hu => simp only [List.length_cons] at hl; omega
end
end PyProof.Rows
namespace PySem
open AutoSeq1 (wpAny_loadPart')
open MeetsSeq MeetsSeq3
open PyProof.Rows
theorem ints_at : ∀ {vs : List Value} {ns : List Int} {i : Nat} {n : Int}, IntsAre vs ns → ns[i]? = some n → ∃ t, vs[i]? = some (.int n t)
  | _, _, _, _, .nil, h => by cases h
  | _, _, 0, _, .cons n t _, h => by cases h; exact ⟨t, rfl⟩
  | _, _, i + 1, _, .cons n t r, h => ints_at (i := i) r h
theorem ints_len : ∀ {vs : List Value} {ns : List Int}, IntsAre vs ns → vs.length = ns.length
  | _, _, .nil => rfl
  | _, _, .cons n t r => by simp [ints_len r]
theorem lt_loop (l b : Addr) (xs ys : List Nat) (items items2 : List Value) (n n2 : Nat) (dd dd2 : Option Addr) (sl sl2 : Array (Option Value)) (h1 : IntsAre items (xs.map Int.ofNat)) (h2 : IntsAre items2 (ys.map Int.ofNat)) (k : Nat) :
    ∀ i : Nat, items.length - i = k → i ≤ items.length → Meets (Builtin.«list.__eq__.loop» ⟨[.ref l, .ref b, rawInt i, rawInt 0], []⟩)
      (fun _ R s => s.heap.get? l = some { cls := .type "list", dict := dd, data := .seq items.toArray n, slots := sl } ∧ s.heap.get? b = some { cls := .type "list", dict := dd2, data := .seq items2.toArray n2, slots := sl2 } ∧
        R (.ok (.ret (.bool (decide (xs.drop i < ys.drop i))))) s) := by
  have e1 := ints_len h1
  have e2 := ints_len h2
  rw [List.length_map] at e1 e2
  induction k with
  | zero =>
    intro i hk hle prog w A R s h
    obtain ⟨hp, g, d, tk, os⟩ := s; obtain ⟨hl, hb, h⟩ := h
    wp_walk using wpAny_loadPart' hl, wpAny_loadPart' hb
    have hi1 : items.toArray[((i : Nat) : Int).toNat]? = none := by simp; omega
    have hd : xs.drop i = [] := by rw [List.drop_eq_nil_iff]; omega
    rw [hi1]
    have key : decide (items.toArray.size < items2.toArray.size) = decide (xs.drop i < ys.drop i) := by
      rw [hd, List.size_toArray, List.size_toArray]
      rcases Nat.lt_or_ge i ys.length with z | z
      · have a1 : items.length < items2.length := by omega
        have a2 : ([] : List Nat) < ys.drop i := by rw [List.drop_eq_getElem_cons z]; exact List.nil_lt_cons _ _
        rw [decide_eq_true a1, decide_eq_true a2]
      · rw [List.drop_eq_nil_of_le z]
        simp; omega
    cases items2.toArray[((i : Nat) : Int).toNat]? with
    | none =>
      wp_walk using wpAny_loadPart' hl, wpAny_loadPart' hb
      show R (.ok (.ret (.bool (decide (items.toArray.size < items2.toArray.size))))) _
      rw [key]; exact h
    | some y =>
      wp_walk using wpAny_loadPart' hl, wpAny_loadPart' hb
      show R (.ok (.ret (.bool (decide (items.toArray.size < items2.toArray.size))))) _
      rw [key]; exact h
  | succ k ih =>
    intro i hk hle prog w A R s h
    obtain ⟨hp, g, d, tk, os⟩ := s; obtain ⟨hl, hb, h⟩ := h
    wp_walk using wpAny_loadPart' hl, wpAny_loadPart' hb
    have hlt : i < xs.length := by omega
    obtain ⟨t, ht⟩ := ints_at (i := i) (n := Int.ofNat xs[i]) h1 (by simp [hlt])
    have hi1 : items.toArray[((i : Nat) : Int).toNat]? = some (.int (Int.ofNat xs[i]) t) := by simpa using ht
    have hd := List.drop_eq_getElem_cons hlt
    have hc : ((i : Int) + 1) = ((i + 1 : Nat) : Int) := by push_cast; rfl
    rw [hi1]
    rcases Nat.lt_or_ge i ys.length with z | z
    · obtain ⟨u, hu⟩ := ints_at (i := i) (n := Int.ofNat ys[i]) h2 (by simp [z])
      have hi2 : items2.toArray[((i : Nat) : Int).toNat]? = some (.int (Int.ofNat ys[i]) u) := by simpa using hu
      rw [hi2]
      refine wpAny_bind (EqGives.int _ _ _ _ prog w _ _ _ _ ?_)
      rw [hd, List.drop_eq_getElem_cons z] at h
      by_cases hb' : xs[i] = ys[i]
      · have : ((Int.ofNat xs[i] : Int) == Int.ofNat ys[i]) = true := by rw [hb']; simp
        rw [this]
        wp_walk
        rw [hc]
        refine ⟨plainId_quiet plain_eq_loop _, codeAny_builtin entry_eq_loop ?_⟩
        rw [Around.under_plainId plain_eq_loop _]
        refine ih (i + 1) (by omega) (by omega) prog w A R _ ⟨hl, hb, ?_⟩
        have e3 : decide (xs[i] :: xs.drop (i + 1) < ys[i] :: ys.drop (i + 1)) = decide (xs.drop (i + 1) < ys.drop (i + 1)) := by
          apply decide_eq_decide.mpr
          rw [List.cons_lt_cons_iff]
          exact ⟨fun q => q.elim (fun q => by omega) (·.2), fun q => .inr ⟨hb', q⟩⟩
        rw [e3] at h
        exact h
      · have : ((Int.ofNat xs[i] : Int) == Int.ofNat ys[i]) = false := by simp; omega
        rw [this]
        wp_walk using wpAny_loadPart' hl, wpAny_loadPart' hb
        rw [hi1, hi2]
        refine wpAny_bind (wpAny_lt_int (wpAny_pure ?_))
        have e3 : decide ((Int.ofNat xs[i] : Int) < Int.ofNat ys[i]) = decide (xs[i] :: xs.drop (i + 1) < ys[i] :: ys.drop (i + 1)) := by
          apply decide_eq_decide.mpr
          rw [List.cons_lt_cons_iff]
          exact ⟨fun q => .inl (Int.ofNat_lt.mp q), fun q => q.elim (fun q => Int.ofNat_lt.mpr q) fun q => absurd q.1 hb'⟩
        rw [e3]
        exact h
    · have hi2 : items2.toArray[((i : Nat) : Int).toNat]? = none := by simp; omega
      rw [hi2]
      wp_walk using wpAny_loadPart' hl, wpAny_loadPart' hb
      show R (.ok (.ret (.bool (decide (items.toArray.size < items2.toArray.size))))) _
      have key : decide (items.toArray.size < items2.toArray.size) = decide (xs.drop i < ys.drop i) := by
        rw [hd, List.drop_eq_nil_of_le z, List.size_toArray, List.size_toArray]
        simp; omega
      rw [key]; exact h
theorem list_lt (l b : Addr) (xs ys : List Nat) (items items2 : List Value) (n n2 : Nat) (dd dd2 : Option Addr) (sl sl2 : Array (Option Value)) (h1 : IntsAre items (xs.map Int.ofNat)) (h2 : IntsAre items2 (ys.map Int.ofNat)) :
    Meets (Builtin.«list.__lt__» ⟨[.ref l, .ref b], []⟩)
      (fun _ R s => s.heap.get? l = some { cls := .type "list", dict := dd, data := .seq items.toArray n, slots := sl } ∧ s.heap.get? b = some { cls := .type "list", dict := dd2, data := .seq items2.toArray n2, slots := sl2 } ∧
        R (.ok (.ret (.bool (decide (xs < ys))))) s) := by
  intro prog w A R s h
  obtain ⟨hp, g, d, tk, os⟩ := s; obtain ⟨hl, hb, h⟩ := h
  have f3 := AutoSeq1.sub_list_list
  wp_walk using wpAny_loadPart' hl, wpAny_loadPart' hb
  refine ⟨plainId_quiet plain_eq_loop _, codeAny_builtin entry_eq_loop ?_⟩
  rw [Around.under_plainId plain_eq_loop _]
  exact lt_loop l b xs ys items items2 n n2 dd dd2 sl sl2 h1 h2 _ 0 rfl (Nat.zero_le _) prog w A R _ ⟨hl, hb, by simpa using h⟩
end PySem
namespace PyProof.Rows
open PySem PySem.W
def KeyAt (h : Heap) (v : Value) (ns : List Nat) : Prop := ∃ q its n, v = .ref q ∧ h.get? q = some (seqObj "list" (List.toArray its) n) ∧ IntsAre its (ns.map Int.ofNat)
def kOf (h : Heap) (p : Keyed) : List Nat := match p.1 with
  | .ref q => (match h.get? q with
    | some o => (match o.data with
      | .seq xs _ => xs.toList.map fun v => (numOf v).toNat
      | _ => [])
    | none => [])
  | _ => []
theorem nums_back : ∀ {its : List Value} {ns : List Nat}, IntsAre its (ns.map Int.ofNat) → its.map (fun v => (numOf v).toNat) = ns
  | _, [], h => by cases h; rfl
  | _, n :: ns, h => by
    cases h with
    | cons _ t r => rw [List.map_cons, nums_back r]; rfl
theorem KeyAt.kOf {h : Heap} {v x : Value} {ns : List Nat} (H : KeyAt h v ns) : kOf h (v, x) = ns := by
  obtain ⟨q, its, n, rfl, e, r⟩ := H
  unfold PyProof.Rows.kOf
  simp only [e]
  exact nums_back r
section
variable {prog : Program} {w : World} {A : Around} {E : Value → Shared → Prop} {s : Shared}
theorem oneLt_lists {a b : Addr} {xs ys : List Nat} {items items2 : List Value} {n n2 : Nat} {Q : Bool → Shared → Prop} (hu : A.units < cLine) (h1 : IntsAre items (xs.map Int.ofNat)) (h2 : IntsAre items2 (ys.map Int.ofNat)) (ha : s.heap.get? a = some (seqObj "list" items.toArray n)) (hb : s.heap.get? b = some (seqObj "list" items2.toArray n2))
    (h : Q (decide (xs < ys)) s) : wpAny (model prog w) A (oneLt' true (.ref a) (.ref b)) Q E s := by
  rw [oneLt'_eq]
  simp only [if_true]
  refine wpAny_bind (wpAny_cRoomFor hu ?_)
  refine wpAny_bind (wpAny_callSpecialIfBound?_slot (T := "list") ⟨_, ha, rfl⟩ PySem.F.slot_list_lt (call_meets PySem.F.slot_list_lt ⟨_, ha, rfl⟩ PySem.F.entry_list_lt (PySem.F.args_list_lt_2 _ _) (list_lt a b xs ys items items2 n n2 none none #[] #[] h1 h2) ⟨ha, hb, ?_⟩))
  exact wpAny_truthy_bool h
theorem asks_lists (hu : A.units < cLine) : Asks prog w A E s strKind.toKeyOrd (kOf s.heap) (fun p => ∃ ns, KeyAt s.heap p.1 ns) := by
  refine ⟨fun x y st Q px py hk h => ?_⟩
  obtain ⟨xs, q, its, n, e1, e2, e3⟩ := px
  obtain ⟨ys, q', its', n', e1', e2', e3'⟩ := py
  obtain ⟨x1, x2⟩ := x
  obtain ⟨y1, y2⟩ := y
  cases (show x1 = .ref q from e1)
  cases (show y1 = .ref q' from e1')
  rw [lt'_eq]
  refine wpS_bind (wpS_get ?_)
  rw [hk, keyLt'_oneType]
  refine wpS_bind (wpS_lift (wpAny_attempt (oneLt_lists hu e3 e3' e2 e2' ⟨rfl, ?_⟩)))
  have f1 : kOf s.heap (Value.ref q, x2) = xs := KeyAt.kOf ⟨q, its, n, rfl, e2, e3⟩
  have f2 : kOf s.heap (Value.ref q', y2) = ys := KeyAt.kOf ⟨q', its', n', rfl, e2', e3'⟩
  rw [f1, f2] at h
  exact wpS_pure h
theorem sort_endL {a kS : Addr} {vs : List Value} {keys : Array Value} {rk : List (List Nat)} {e e1 : Nat} {P : PySem.Fin → Shared → Prop} (hu : A.units < cLine) (ho : s.heap.get? a = some (seqObj "list" #[] e1)) (hkS : s.heap.get? kS = some (seqObj "list" keys e)) (hka : kS ≠ a)
    (hk : ∀ (i : Nat) (v : Value), keys[i]? = some v → ∃ ns, rk[i]? = some ns ∧ KeyAt s.heap v ns) (hlen : keys.size = vs.length) (hl2 : rk.length = vs.length) (hbig : vs.length ≤ sizeLine)
    (h : ∀ (ps : List (List Nat × Value)), ps.Perm (rk.zip vs) → ps.Pairwise (fun p q => ¬ q.1 < p.1) → P (.done (.ret .none)) { s with heap := (s.heap.update kS (Obj.mapSeq fun _ => (#[] : Array Value))).update a (Obj.mapSeq fun _ => (ps.map Prod.snd).toArray) }) :
    wpAny (model prog w) A (ksk_end a false vs.toArray e1 (.ref kS) keys) P E s := by
  have hzs : (keys.zip vs.toArray).size = vs.length := by rw [Array.size_zip, hlen, List.size_toArray, Nat.min_self]
  have hmem : ∀ p ∈ (keys.zip vs.toArray).toList, ∃ ns, KeyAt s.heap p.1 ns := fun p hp => by
    rw [ksk_zip] at hp
    obtain ⟨x, y⟩ := p
    obtain ⟨i, hi⟩ := List.getElem?_of_mem (List.of_mem_zip hp).1
    rw [Array.getElem?_toList] at hi
    obtain ⟨ns, _, z⟩ := hk i x hi
    exact ⟨ns, z⟩
  have hz : (keys.toList.zip vs).map (fun p : Keyed => (kOf s.heap p, p.2)) = rk.zip vs := by
    apply List.ext_getElem?
    intro i
    rw [List.getElem?_map]
    rcases Nat.lt_or_ge i vs.length with z | z
    · have hk1 : keys[i]? = some (keys[i]'(by omega)) := getElem?_pos keys i _
      obtain ⟨ns, r1, r2⟩ := hk i _ hk1
      have : keys.toList[i]? = some (keys[i]'(by omega)) := by rw [Array.getElem?_toList]; exact hk1
      rw [(List.getElem?_zip_eq_some (z := (keys[i]'(by omega), vs[i]))).mpr ⟨this, List.getElem?_eq_getElem z⟩, (List.getElem?_zip_eq_some (z := (ns, vs[i]))).mpr ⟨r1, List.getElem?_eq_getElem z⟩]
      show some (kOf s.heap _, _) = _
      rw [r2.kOf]
    · rw [List.getElem?_eq_none (by rw [List.length_zip, Array.length_toList]; omega), List.getElem?_eq_none (by rw [List.length_zip]; omega)]
      rfl
  have fin : ∀ st : SortSt, failedOf st = none → (arrOf st).Perm (keys.zip vs.toArray) → Ord strKind.toKeyOrd (kOf s.heap) (arrOf st).toList → wpAny (model prog w) A (ksk_tail a false e1 (.ref kS) st) P E s := fun st hf hp hs => by
    have hp' : (arrOf st).toList.Perm (keys.toList.zip vs) := by rw [← ksk_zip]; exact Array.perm_iff_toList_perm.mp hp
    have hsz2 : (arrOf st).size = vs.length := by rw [hp.size_eq, hzs]
    have q := h ((arrOf st).toList.map (fun p : Keyed => (kOf s.heap p, p.2))) (by rw [← hz]; exact hp'.map _) (by
      rw [List.pairwise_map]
      refine hs.imp fun {x y} hxy => ?_
      exact of_decide_eq_false hxy)
    have eo : (((arrOf st).toList.map (fun p : Keyed => (kOf s.heap p, p.2))).map Prod.snd).toArray = (arrOf st).map (·.2) := by
      apply Array.toList_inj.mp
      rw [Array.toList_map, List.map_map]; rfl
    rw [eo] at q
    have na1 : (s.heap.update kS (Obj.mapSeq fun _ => (#[] : Array Value))).get? a = some (seqObj "list" #[] e1) := ((Heap.SameBut.update s.heap kS (Obj.mapSeq fun _ => (#[] : Array Value))).2 a hka.symm).trans ho
    unfold ksk_tail
    try dsimp only
    refine wpAny_bind (listUpdate_at hkS rfl ?_ (by rw [hlen]; exact hbig) (Nat.zero_le _))
    refine wpAny_bind (wpAny_letGo ?_)
    refine wpAny_bind (seqEpoch_at na1 rfl ?_)
    refine wpAny_bind (listUpdate_at na1 rfl ?_ (Nat.zero_le _) (by simp only [Bool.false_eq_true, if_false, Array.size_map]; rw [hsz2]; omega))
    rw [hf]
    simp only [bne_self_eq_false, Bool.false_eq_true, if_false]
    exact wpAny_pure q
  unfold ksk_end
  try dsimp only
  simp only [Bool.false_eq_true, if_false]
  by_cases h2 : vs.toArray.size < 2
  · rw [if_pos h2, if_pos h2]
    refine wpAny_bind (wpAny_pure ?_)
    rw [StateT.run_pure]
    refine wpAny_bind (wpAny_pure ?_)
    try dsimp only
    refine fin _ rfl (Array.Perm.refl _) ?_
    show Ord _ _ (keys.zip vs.toArray).toList
    have hl : (keys.zip vs.toArray).toList.length < 2 := by rw [Array.length_toList, hzs]; rw [List.size_toArray] at h2; exact h2
    match (keys.zip vs.toArray).toList, hl with
    | [], _ => exact List.Pairwise.nil
    | [p], _ => exact List.pairwise_singleton _ _
    | _ :: _ :: _, hl => (simp only [List.length_cons] at hl; omega)
  · rw [if_neg h2, if_neg h2]
    rw [List.size_toArray] at h2
    have ek : keys = keys.toList.toArray := rfl
    rw [show keyKind' keys = keyKind' keys.toList.toArray from rfl]
    refine wpAny_bind (kas_kind (T := .type "list") (by rw [Array.length_toList]; omega) (fun v hv => ?_) rfl rfl ?_)
    · obtain ⟨i, hi⟩ := List.getElem?_of_mem hv
      rw [Array.getElem?_toList] at hi
      obtain ⟨ns, _, q, its, n, rfl, z, _⟩ := hk i v hi
      exact kitAt_ty _ _ ⟨_, z, rfl⟩
    refine wpAny_bind (wpAny_mono (sortRuns_ok (O := strKind.toKeyOrd) (k := kOf s.heap) (P := fun p => ∃ ns, KeyAt s.heap p.1 ns) (st := SortSt.mk' oneType' (keys.zip vs.toArray) #[] 7 none)
      (Q := fun _ st' => (arrOf st').Perm (keys.zip vs.toArray) ∧ failedOf st' = none ∧ Ord strKind.toKeyOrd (kOf s.heap) (arrOf st').toList)
      (asks_lists hu) ⟨rfl, hmem⟩ rfl rfl (by show 2 ≤ (keys.zip vs.toArray).size; rw [hzs]; omega) fun st' a1 a2 a3 => ⟨a2, a1, a3⟩) ?_ fun _ _ e => e)
    rintro ⟨⟨⟩, st'⟩ s' ⟨rfl, hp, hf, hs⟩
    exact fin st' hf hp hs
end
end PyProof.Rows
namespace L2
open PySem PySem.Spec PyProof.Rows
section
variable {X : Cx} {pins : List (Addr × Obj)} {σ : St} {H : Hp} {s : Shared}
abbrev Cx.in2 (X : Cx) : Cx := { X with A := X.A.in1.in1 }
theorem Inv.in2 (I : Inv X pins σ H s) : Inv X.in2 pins σ H s :=
  ⟨⟨I.ok.mod, I.ok.kind, I.ok.glob, I.ok.blt, I.ok.above, I.ok.inj, I.ok.has, I.ok.cab, I.ok.hd, I.ok.frames, I.ok.stk, I.ok.exf, I.ok.bs, I.ok.bsz, I.ok.noex, I.ok.exfs, I.ok.funs, I.ok.frf⟩, I.os, I.bare, I.base, I.loc, I.cell, I.free, I.freeC, I.pin, I.hok, I.len⟩
theorem Inv.out2 (I : Inv X.in2 pins σ H s) : Inv X pins σ H s :=
  ⟨⟨I.ok.mod, I.ok.kind, I.ok.glob, I.ok.blt, I.ok.above, I.ok.inj, I.ok.has, I.ok.cab, I.ok.hd, I.ok.frames, I.ok.stk, I.ok.exf, I.ok.bs, I.ok.bsz, I.ok.noex, I.ok.exfs, I.ok.funs, I.ok.frf⟩, I.os, I.bare, I.base, I.loc, I.cell, I.free, I.freeC, I.pin, I.hok, I.len⟩
def cxLam (X : Cx) (N : List Str) (qual : Str) (scope : Scope) (f : Addr) (cd : Value) (cl : List (Str × Addr)) (s : Shared) (H : Hp) : Cx where
  prog := X.prog
  w := X.w
  K := X.K
  mg := X.mg
  base := X.base
  A := X.A.deeper (PySem.W.envX qual scope s.heap.objs.size f cd cl)
  N := N
  s₀ := s
  H₀ := H
  env := PySem.W.envX qual scope s.heap.objs.size f cd cl
  outer := X.stack
  stack := PySem.W.envX qual scope s.heap.objs.size f cd cl :: X.stack
  ex := []
  fn := fun _ => false
  calm := true
  pn := []
  xe := fun _ _ => False
theorem lam_call {x y : Str} {cc f c' : Addr} {qual : Str} {params : Arguments} {body : Expr} {scope : Scope} {pm ctv u uy : Value} {v vy : V} {te : TE} {Q : VK} {E : Value → Shared → Prop} (I : Inv X pins σ H s) (hc : X.calm = true) (hroom : X.A.depth < recursionLimit)
    (ho : s.heap.get? f = some (PySem.W.kla_obj "<lambda>" qual params body scope [(y, cc)] pm c' ctv)) (hcd : s.heap.CodeRec (.ref c') qual) (hk : scope.kind = .function) (hco : scope.isCoroutine = false) (hgen : scope.isGenerator = false)
    (hxl : scope.names.lookup x = some .local) (hyf : scope.names.lookup y = some .free) (hnc : ∀ z ∈ scope.names, z.2 ≠ .cell) (hof : ∀ z, scope.names.lookup z = some .free → z = y) (hxy : x ≠ y)
    (hbind : bindArgs (PySem.W.kla_fn "<lambda>" qual params body scope [(y, cc)] pm (.ref c') ctv) ⟨[u], []⟩ = pure [(x, u)])
    (hcell : s.heap.IsCell cc (some uy)) (hfc : H cc = none) (rv : RelV v u) (ry : RelV vy uy)
    (hb : PE (cxLam X [x, y] qual scope f (.ref c') [(y, cc)] s H) body te) (hq : te [some v, some vy] H Q) :
    wpAny (model X.prog X.w) X.A (call (.ref f) [u]) (EP X pins σ Q) E s := by
  refine wpAny_call (PySem.W.kla_callFunE hroom ho rfl hco hgen rfl hcd ?_)
  rw [hbind]
  refine wpAny_pure (wpAny_newFunctionEnv hnc (fun z hz => by cases List.mem_singleton.mp hz; exact hxl) (fun h₁ hns hsb => ⟨I.nolimit.fresh _ hsb, ?_⟩) hk)
  have hk₁ : ∀ b o, s.heap.get? b = some o → h₁.get? b = some o := fun b o e => hsb.extBut b o (Nat.ne_of_lt (Heap.lt_size e)) (Heap.get?_push_of_some _ e)
  have hlc : ∀ z c, ([(y, cc)] : List (Str × Addr)).lookup z = some c → z = y ∧ c = cc := fun z c e => by
    rw [List.lookup_cons] at e
    cases q : z == y with
    | true => rw [q] at e; cases e; exact ⟨eq_of_beq q, rfl⟩
    | false => rw [q] at e; cases e
  have hly : ([(y, cc)] : List (Str × Addr)).lookup y = some cc := by simp
  have noA : ∀ b : Addr, b ∉ ([] : List Addr) := fun b z => nomatch z
  have IL : Inv (cxLam X [x, y] qual scope f (.ref c') [(y, cc)] s H) [] [some v, some vy] H { s with heap := h₁, toks := s.toks + 1 } := by
    refine ⟨⟨I.ok.mod, hk, rfl, rfl, Nat.le_refl _, fun z z' c h1 h2 => ?_, fun z hz => ?_, fun z c h => (nomatch h), fun _ => I.ok.hd hc, Around.frames_deeper I.ok.frames, .inr ⟨rfl, rfl⟩, fun b z => absurd z (noA b), I.bs, Nat.le_trans I.ok.bsz I.sz, fun b _ _ => noA b, fun b z => absurd z (noA b), I.stack, I.stkFree⟩,
      rfl, I.bare, Un.kept hk₁, ⟨_, hns, fun i z v' h1 h2 h3 => ?_⟩, fun z c h => ?_, I.hok.fresh (Nat.le_refl _), fun z c h => ?_, fun p hp => absurd (show p ∈ ([] : List (Addr × Obj)) from hp) (by simp), I.hok.kept hk₁, rfl⟩
    · rw [(hlc z c h1).1, (hlc z' c h2).1]
    · rcases hz with hz | hz
      · exact absurd rfl (hnc _ (PySem.mem_of_lookup (show scope.names.lookup z = some .cell from hz)))
      · rw [hof z hz]; exact ⟨cc, hly⟩
    · match i, h1, h2 with
      | 0, h1, h2 =>
        cases h1; cases h2
        exact ⟨u, rv, .inl ⟨hxl, by simp⟩⟩
      | 1, h1, h2 =>
        cases h1; cases h2
        obtain ⟨o, e1, e2⟩ := hcell
        exact ⟨uy, ry, .inr ⟨.inr hyf, cc, hly, o, hk₁ _ _ e1, e2⟩⟩
      | i + 2, h1, h2 => cases h1
    · obtain ⟨rfl, rfl⟩ := hlc z c h
      obtain ⟨o, e1, e2⟩ := hcell
      exact ⟨_, o, hk₁ _ _ e1, e2⟩
    · rw [(hlc z c h).2]; exact hfc
  refine PySem.W.kla_codeExpr (wpAny_mono (hb [] _ _ H Q IL hq) (fun u' s' hs => ?_) fun e s' z => (show False from z).elim)
  obtain ⟨v', H', J, r', q'⟩ := hs
  exact I.after ⟨v', H', J.os, J.bare, J.base, J.hok, r', q'⟩
end
end L2
namespace L2
open PySem PySem.Spec PyProof.Rows
def codeHO (c' : Addr) (qual : Str) : HO := .ext fun h => h.CodeRec (.ref c') qual
def TB (P : Addr) (pos : Pos) (qual : Str) (H : Hp) : Prop := H P = some (.tbl #[]) ∨ ∃ c', H P = some (.tbl #[rawInt pos.line, rawInt pos.col, .ref c']) ∧ H c' = some (codeHO c' qual)
def BM (mg : Str → Option Value) (h : Heap) : Prop := ∃ bm ob, mg "__builtins__" = some (.ref bm) ∧ bm ≠ builtinsNs ∧ h.get? bm = some ob ∧ ob.cls = .type "module" ∧ ob.dict = some builtinsNs ∧ ob.data = .plain
def SameT (P : Addr) (H H' : Hp) : Prop := ∀ a o, a ≠ P → H a = some o → H' a = some o
theorem SameT.trans {P : Addr} {H H1 H2 : Hp} (a : SameT P H H1) (b : SameT P H1 H2) : SameT P H H2 := fun c o n e => b c o n (a c o n e)
theorem SameT.of {P : Addr} {H H' : Hp} (h : Same H H') : SameT P H H' := fun a o _ e => h a o e
theorem TB.same {P : Addr} {pos : Pos} {qual : Str} {H H' : Hp} (t : TB P pos qual H) (h : Same H H') : TB P pos qual H' := by
  rcases t with t | ⟨c', t1, t2⟩
  · exact .inl (h _ _ t)
  · exact .inr ⟨c', h _ _ t1, h _ _ t2⟩
section
variable {X : Cx} {pins : List (Addr × Obj)} {σ : St} {H : Hp} {s : Shared}
theorem codeHO_ok {P : Program} {w : World} {H : Hp} {h : Heap} {c' : Addr} {qual : Str} (r : h.CodeRec (.ref c') qual) : ObjOk P w H h c' (codeHO c' qual) := by
  refine ⟨r, ?_, fun h1 h2 p k => ?_⟩
  · obtain ⟨c, o, vs, t, e, g, _⟩ := r
    cases e
    exact ⟨o, g⟩
  · obtain ⟨c, o, vs, t, e, g, r⟩ := p
    cases e
    exact ⟨_, o, vs, t, rfl, k _ g, r⟩
theorem lam_make {c P : Addr} {params : Arguments} {body : Expr} {scope : Scope} {pos : Pos} {clos : List (Str × Addr)} {Q : Value → Shared → Prop} (I : Inv X pins σ H s) (hdef : defaultsOf params X.env = ([], [])) (hcl : closureFor scope X.env = pure clos)
    (hcode : X.env.code = .ref c) (C : PySem.W.CodeHd X.base c P) (hB : BM X.mg X.base) (T : TB P pos (X.env.qual ++ "<lambda>") H)
    (h : ∀ f c' ctv H' s', Inv X (pins ++ [(f, PySem.W.kla_obj "<lambda>" (X.env.qual ++ "<lambda>") params body scope clos ((X.mg "__name__").getD .none) c' ctv)]) σ H' s' → H' P = some (.tbl #[rawInt pos.line, rawInt pos.col, .ref c']) → H' c' = some (codeHO c' (X.env.qual ++ "<lambda>")) → SameT P H H' → Q (.ref f) s') :
    wpAny (model X.prog X.w) X.A (eval (.Lambda params body scope pos) X.env) Q X.xe s := by
  refine PySem.W.kla_eval hdef ?_
  have hg : s.heap.Ns mainGlobals X.mg := I.ok.mod.glob.keeps I.bk
  have C' := C.keeps I.bk
  obtain ⟨bm, ob, b1, b2, b3, b4, b5, b6⟩ := hB
  have b3' := I.bk _ _ b3
  have hPn : H P ≠ none := by
    rcases T with T | ⟨c', T, _⟩ <;> rw [T] <;> exact fun z => nomatch z
  have neP : ∀ b, H b = none → b ≠ P := fun b n z => hPn (z ▸ n)
  have hbP : bm ≠ P := neP _ (I.bs _ _ b3).2
  have hbG : bm ≠ mainGlobals := fun q => by
    obtain ⟨o, es, ep, e, hd, _⟩ := hg
    rw [q, e] at b3'; cases b3'; rw [hd] at b6; cases b6
  have hgP : mainGlobals ≠ P := by
    obtain ⟨o, es, ep, e, hd, _⟩ := I.ok.mod.glob
    exact neP _ (I.bs _ _ e).2
  rcases T with T | ⟨c', T1, T2⟩
  · have hP : s.heap.get? P = some (PySem.W.tabObj #[]) := I.hok P _ T
    refine PySem.W.kla_makeFunction (mg := X.mg) hcl I.ok.glob hg hcode C' hP trivial rfl hgP ⟨bm, ob, b1, b2, hbG, hbP, b3', b4, b5, b6⟩ fun c' ctv h' tk hx hge hlt hrec htb => ?_
    have hfc : H c' = none := I.hok.fresh hge
    have hcP : c' ≠ P := neP _ hfc
    have hsz : s.heap.objs.size ≤ h'.objs.size := Nat.le_trans hge (Nat.le_of_lt hlt)
    have kp : ∀ b o, b ≠ P → s.heap.get? b = some o → (h'.push (PySem.W.kla_obj "<lambda>" (X.env.qual ++ "<lambda>") params body scope clos ((X.mg "__name__").getD .none) c' ctv)).get? b = some o := fun b o n e => Heap.get?_push_of_some _ (hx b o n e)
    have hP2 : (upd (upd H P (.tbl #[rawInt pos.line, rawInt pos.col, .ref c'])) c' (codeHO c' (X.env.qual ++ "<lambda>"))) P = some (.tbl #[rawInt pos.line, rawInt pos.col, .ref c']) := by rw [upd_ne hcP.symm, upd_same]
    have sm : SameT P H (upd (upd H P (.tbl #[rawInt pos.line, rawInt pos.col, .ref c'])) c' (codeHO c' (X.env.qual ++ "<lambda>"))) := fun b o n e => by
      rw [upd_ne (fun z => by subst z; rw [hfc] at e; cases e), upd_ne n]; exact e
    have hfree : ∀ b, H b = none → b ≠ c' → (upd (upd H P (.tbl #[rawInt pos.line, rawInt pos.col, .ref c'])) c' (codeHO c' (X.env.qual ++ "<lambda>"))) b = none := fun b n nc => by
      rw [upd_ne nc, upd_ne (neP b n)]; exact n
    have I2 : Inv X pins σ (upd (upd H P (.tbl #[rawInt pos.line, rawInt pos.col, .ref c'])) c' (codeHO c' (X.env.qual ++ "<lambda>"))) { s with heap := h'.push (PySem.W.kla_obj "<lambda>" (X.env.qual ++ "<lambda>") params body scope clos ((X.mg "__name__").getD .none) c' ctv), toks := tk } := by
      refine I.step (g' := s.gens) (d' := s.drawn) (ch := []) (fun _ z => nomatch z) (fun b o _ _ _ e n => kp b o (neP b n) e) (fun b o _ _ _ e n => ⟨o.slots, kp b o (neP b n) e⟩) (fun b o _ e n => hfree b n (Nat.ne_of_lt (Nat.lt_of_lt_of_le (Heap.lt_size e) hge))) (fun b o _ e => ?_)
        (fun b xs e => sm b _ (fun z => by subst z; rw [T] at e; cases e) e) (fun b o u e => sm b _ (fun z => by subst z; rw [T] at e; cases e) e) (fun b ps e => ?_) (fun m hm => (hm.extBut hx (neP _ I.free)).push _) (fun a o e => ?_) I.bare
      · by_cases hb : b = P
        · subst hb; exact ⟨_, Heap.get?_push_of_some _ htb⟩
        · exact ⟨o, kp b o hb e⟩
      · by_cases hb : b = P
        · subst hb
          rw [T] at e; cases e
          exact ⟨#[rawInt pos.line, rawInt pos.col, .ref c'], by rw [Array.empty_append]; exact hP2⟩
        · exact ⟨#[], by rw [Array.append_empty]; exact sm b _ hb e⟩
      · by_cases ha : a = c'
        · subst ha
          rw [upd_same] at e; cases e
          exact codeHO_ok (hrec.push _)
        · rw [upd_ne ha] at e
          by_cases hb : a = P
          · subst hb
            rw [upd_same] at e; cases e
            exact Heap.get?_push_of_some _ htb
          · rw [upd_ne hb] at e
            refine (I.hok a o e).stay (fun b u hb' q => kp b u ?_ q) (fun b q => sm b _ (fun z => by subst z; rw [T] at q; cases q) q) fun b xs q => sm b _ (fun z => by subst z; rw [T] at q; cases q) q
            rcases hb' with rfl | q2
            · exact hb
            · exact fun z => by subst z; rw [T] at q2; cases q2
    have hfz : H h'.objs.size = none := I.hok.fresh hsz
    obtain ⟨f0, f1, f2, _⟩ := I.fpOk (b := h'.objs.size) hsz hfz
    refine h h'.objs.size c' ctv _ _ (I2.pins_of fun p hp => ?_) hP2 upd_same sm
    rcases List.mem_append.mp hp with z | z
    · exact I2.pin p (List.mem_append_right _ z)
    · cases List.mem_singleton.mp z
      exact ⟨Heap.get?_push_size _ rfl, hfree _ hfz (Nat.ne_of_gt hlt), f1, f2, fun v e => nomatch e⟩
  · have hP : s.heap.get? P = some (PySem.W.tabObj #[rawInt pos.line, rawInt pos.col, .ref c']) := I.hok P _ T1
    refine PySem.W.kla_makeFunctionHit (mg := X.mg) (cv := .ref c') hcl I.ok.glob hg hcode C' hP (by simp [TriplesOk, rawInt]) (by simp [codeAmong, rawInt]) ⟨bm, ob, b1, b2, hbG, hbP, b3', b4, b5, b6⟩ fun ctv h' tk hk hsz => ?_
    have I2 : Inv X pins σ H { s with heap := h'.push (PySem.W.kla_obj "<lambda>" (X.env.qual ++ "<lambda>") params body scope clos ((X.mg "__name__").getD .none) c' ctv), toks := tk } := I.kept (t' := tk) fun b u e => Heap.get?_push_of_some _ (hk b u e)
    have hfz : H h'.objs.size = none := I.hok.fresh hsz
    obtain ⟨f0, f1, f2, _⟩ := I.fpOk (b := h'.objs.size) hsz hfz
    refine h h'.objs.size c' ctv _ _ (I2.pins_of fun p hp => ?_) T1 T2 (fun _ _ _ e => e)
    rcases List.mem_append.mp hp with z | z
    · exact I2.pin p (List.mem_append_right _ z)
    · cases List.mem_singleton.mp z
      exact ⟨Heap.get?_push_size _ rfl, hfz, f1, f2, fun v e => nomatch e⟩
end
end L2
namespace L2
open PySem PySem.Spec PyProof.Rows
def decT : Value → List Nat
  | .str x _ => x.cps.toList
  | _ => []
theorem vals_dec : ∀ {ls : List (List Nat)} {its : List Value}, Vals (ls.map vt) its → its.map decT = ls ∧ ∀ u ∈ its, ∃ l t, u = .str (tx l) t
  | [], _, r => by cases r; exact ⟨rfl, fun u h => nomatch h⟩
  | l :: ls, _, r => by
    cases r with
    | cons a b =>
      obtain ⟨t, rfl⟩ := a
      obtain ⟨e, k⟩ := vals_dec b
      refine ⟨by rw [List.map_cons, e]; rfl, fun u hu => ?_⟩
      rcases List.mem_cons.mp hu with rfl | hu
      · exact ⟨l, t, rfl⟩
      · exact k u hu
theorem vals_of_dec : ∀ {us : List Value}, (∀ u ∈ us, ∃ l t, u = Value.str (tx l) t) → Vals ((us.map decT).map vt) us
  | [], _ => .nil
  | u :: us, h => by
    obtain ⟨l, t, rfl⟩ := h _ (List.mem_cons_self ..)
    exact .cons ⟨t, rfl⟩ (vals_of_dec fun v hv => h v (List.mem_cons_of_mem _ hv))
theorem valsRefs : ∀ {qs : List Addr} {us : List Value}, Vals (qs.map V.ref) us → us = qs.map Value.ref
  | [], _, r => by cases r; rfl
  | q :: qs, _, r => by
    cases r with
    | cons a b => rw [List.map_cons, ← valsRefs b]; cases a; rfl
theorem refsVals (qs : List Addr) : Vals (qs.map V.ref) (qs.map Value.ref) := by
  induction qs with
  | nil => exact .nil
  | cons q qs ih => exact .cons rfl ih
section
variable {X : Cx} {pins : List (Addr × Obj)} {σ : St} {H : Hp} {s : Shared}
structure Made (H H2 : Hp) (kS : Addr) (rk : List Nat → List Nat) (ls : List (List Nat)) (qs : List Addr) (i : Nat) : Prop where
  same : Same H H2
  len : qs.length = i
  st : H2 kS = some (.lst (qs.map V.ref))
  key : ∀ (j : Nat) (q : Addr) (l : List Nat), qs[j]? = some q → ls[j]? = some l → H2 q = some (.lst ((rk l).map fun n => V.int (Int.ofNat n))) ∧ q ≠ kS
theorem call_sortK {p f : Addr} {ls : List (List Nat)} {rk : List Nat → List Nat} {Q : VK} (I : Inv X pins σ H s) (hu : X.A.in1.in1.units < cLine) (hp : SqL X.K H p (ls.map vt)) (hlen : ls.length ≤ 100000)
    (turn : ∀ (pl : List (Addr × Obj)) (s2 : Shared) (H2 : Hp) (l : List Nat) (u : Value), l ∈ ls → Inv X.in2 (pins ++ pl) σ H2 s2 → Same H H2 → RelV (vt l) u →
      wpAny (model X.prog X.w) X.A.in1.in1 (call (.ref f) [u]) (EP X.in2 (pins ++ pl) σ (fun v H3 => ∃ q, v = .ref q ∧ H2 q = none ∧ Same H2 H3 ∧ H3 q = some (.lst ((rk l).map fun n => V.int (Int.ofNat n))))) (fun _ _ => False) s2)
    (h : ∀ (r : Addr) (ls' : List (List Nat)) (H' : Hp), ls'.Perm ls → ls'.Pairwise (fun a b => ¬ rk b < rk a) → Same H H' → H r = none → H' r = some (.lst (ls'.map vt)) → Q (.ref r) H') :
    wpAny (model X.prog X.w) X.A (call (.builtin "sorted") [.ref p] [(Str.ofString "key", .ref f)]) (EP X pins σ Q) X.xe s := by
  obtain ⟨its, rv, pl, hz⟩ := I.list hp
  have hl := pl.isList
  obtain ⟨hdec, hstr⟩ := vals_dec rv
  have hil : its.length = ls.length := by have := rv.length; rw [List.length_map] at this; omega
  have sz := sizeLine_eq
  refine call_function_entry_kw kind_sorted plain_sorted entry_sorted (ksk_s1 _ _) ?_
  unfold Builtin.«sorted»
  refine wpAny_bind (m := checkCount "sorted" 1 1 _) (wpAny_pure ?_)
  refine wpAny_bind (collect_list hl ?_ (by omega))
  refine wpAny_bind (wpAny_newList ?_ (by omega))
  have hsz : ((s.heap.push (seqObj "list" #[] 0)).update s.heap.objs.size (Obj.mapSeq (· ++ its.toArray))).objs.size = s.heap.objs.size + 1 := by
    rw [Heap.size_update, size_push']
  have hoL : (((s.heap.push (seqObj "list" #[] 0)).update s.heap.objs.size (Obj.mapSeq (· ++ its.toArray))).push (seqObj "list" its.toArray 0)).get? (s.heap.objs.size + 1) = some (seqObj "list" its.toArray 0) := by
    rw [← hsz]; exact Heap.get?_push_size _ rfl
  have keep : ∀ b o, s.heap.get? b = some o → (((s.heap.push (seqObj "list" #[] 0)).update s.heap.objs.size (Obj.mapSeq (· ++ its.toArray))).push (seqObj "list" its.toArray 0)).get? b = some o := fun b o q => by
    have hlt : b < s.heap.objs.size := Heap.lt_size q
    rw [Heap.get?_push_ne _ _ _ (by rw [hsz]; exact Nat.ne_of_lt (Nat.lt_succ_of_lt hlt)), Heap.get?_update_ne _ _ _ _ (Nat.ne_of_lt hlt), Heap.get?_push_ne _ _ _ (Nat.ne_of_lt hlt)]
    exact q
  show wpAny _ _ _ _ _ { s with heap := ((s.heap.push (seqObj "list" #[] 0)).update s.heap.objs.size (Obj.mapSeq (· ++ its.toArray))).push (seqObj "list" its.toArray 0) }
  rw [hsz]
  have hsz2 : (((s.heap.push (seqObj "list" #[] 0)).update s.heap.objs.size (Obj.mapSeq (· ++ its.toArray))).push (seqObj "list" its.toArray 0)).objs.size = s.heap.objs.size + 2 := by rw [size_push', hsz]
  generalize (((s.heap.push (seqObj "list" #[] 0)).update s.heap.objs.size (Obj.mapSeq (· ++ its.toArray))).push (seqObj "list" its.toArray 0)) = g at hoL keep hsz2 ⊢
  refine wpAny_bind (wpAny_holding (wpAny_call_entry_kw slot_list_sort ⟨_, hoL, rfl⟩ entry_list_sort ?body (ksk_l1 _ _)))
  show wpAny (model X.prog X.w) X.A.in1.in1 (Builtin.«list.sort» ⟨[.ref (s.heap.objs.size + 1)], [(Str.ofString "key", .ref f)]⟩) _ _ _
  rw [ksk_t1]
  have haz : s.heap.objs.size ≤ s.heap.objs.size + 1 := Nat.le_succ _
  generalize s.heap.objs.size + 1 = a at hoL haz ⊢
  have haL : a < g.objs.size := Heap.lt_size hoL
  obtain ⟨e1, ho1⟩ : ∃ e1, (g.update a (Obj.mapSeq fun _ => (#[] : Array Value))).get? a = some (seqObj "list" #[] e1) := ⟨_, get?_update_seq hoL fun _ => #[]⟩
  have keep1 : ∀ b o, s.heap.get? b = some o → (g.update a (Obj.mapSeq fun _ => (#[] : Array Value))).get? b = some o := fun b o q =>
    (Heap.get?_update_ne _ _ _ _ (Nat.ne_of_lt (Nat.lt_of_lt_of_le (Heap.lt_size q) haz))).trans (keep b o q)
  unfold PyProof.Rows.ksk_tree
  refine wpAny_bind (listItems_at hoL rfl ?_)
  refine wpAny_bind (listUpdate_at hoL rfl ?_ (by rw [List.size_toArray]; omega) (Nat.zero_le _))
  refine wpAny_bind (seqEpoch_at ho1 rfl ?_)
  refine wpAny_bind (wpAny_newTuple ?_ (by show its.length ≤ _; omega))
  refine wpAny_bind (wpAny_newList ?_ (Nat.zero_le _))
  refine wpAny_holding ?_
  show wpAny (model X.prog X.w) X.A.in1.in1 _ _ _ { s with heap := ((g.update a (Obj.mapSeq fun _ => (#[] : Array Value))).push (seqObj "tuple" its.toArray 0)).push (seqObj "list" #[] 0) }
  have hkz : s.heap.objs.size + 2 ≤ ((g.update a (Obj.mapSeq fun _ => (#[] : Array Value))).push (seqObj "tuple" its.toArray 0)).objs.size := by rw [size_push', Heap.size_update, hsz2]; omega
  have hka : a < ((g.update a (Obj.mapSeq fun _ => (#[] : Array Value))).push (seqObj "tuple" its.toArray 0)).objs.size := by rw [size_push', Heap.size_update]; omega
  have hoK : (((g.update a (Obj.mapSeq fun _ => (#[] : Array Value))).push (seqObj "tuple" its.toArray 0)).push (seqObj "list" #[] 0)).get? ((g.update a (Obj.mapSeq fun _ => (#[] : Array Value))).push (seqObj "tuple" its.toArray 0)).objs.size = some (seqObj "list" #[] 0) := Heap.get?_push_size _ rfl
  have hoA : (((g.update a (Obj.mapSeq fun _ => (#[] : Array Value))).push (seqObj "tuple" its.toArray 0)).push (seqObj "list" #[] 0)).get? a = some (seqObj "list" #[] e1) := Heap.get?_push_of_some _ (Heap.get?_push_of_some _ ho1)
  have keep2 : ∀ b o, s.heap.get? b = some o → (((g.update a (Obj.mapSeq fun _ => (#[] : Array Value))).push (seqObj "tuple" its.toArray 0)).push (seqObj "list" #[] 0)).get? b = some o := fun b o q => Heap.get?_push_of_some _ (Heap.get?_push_of_some _ (keep1 b o q))
  generalize ((g.update a (Obj.mapSeq fun _ => (#[] : Array Value))).push (seqObj "tuple" its.toArray 0)).objs.size = kS at hkz hka hoK ⊢
  generalize (((g.update a (Obj.mapSeq fun _ => (#[] : Array Value))).push (seqObj "tuple" its.toArray 0)).push (seqObj "list" #[] 0)) = g2 at hoK hoA keep2 ⊢
  have hkS0 : s.heap.objs.size ≤ kS := by omega
  have fa := I.fpOk (b := a) haz (I.hok.fresh haz)
  have I2 : Inv X.in2 (pins ++ [(a, seqObj "list" #[] e1)]) σ (upd H kS (.lst ([].map V.ref))) { s with heap := g2 } := by
    have I1 : Inv X pins σ (upd H kS (.lst ([].map V.ref))) { s with heap := g2 } := I.laid (t' := s.toks) keep2 hkS0 ⟨Nat.zero_le _, [], 0, .nil, hoK⟩
    refine (I1.pins_of fun q hq => ?_).in2
    rcases List.mem_append.mp hq with z | z
    · exact I1.pin q (List.mem_append_right _ z)
    · cases List.mem_singleton.mp z
      refine ⟨hoA, ?_, fa.2.1, fa.2.2.1, fun v e => nomatch e⟩
      rw [upd_ne (Nat.ne_of_lt hka)]
      exact fa.1
  have hnk : H kS = none := I.hok.fresh hkS0
  unfold PyProof.Rows.ksk_rest
  refine wpAny_bind (wpAny_rule ?_)
  rw [List.forIn_toArray]
  refine wpAny_bind (ksk_fold (fun i s' => ∃ H2 qs, Inv X.in2 (pins ++ [(a, seqObj "list" #[] e1)]) σ H2 s' ∧ Made H H2 kS rk ls qs i) its 0 _ ⟨_, [], I2, ⟨same_new hnk _, rfl, upd_same, fun j q l e => by cases e⟩⟩ ?step ?done)
  case step =>
    rintro j x s' hx ⟨H2, qs, J, M⟩
    simp only [Nat.zero_add] at M ⊢
    have hj : j < its.length := (List.getElem?_eq_some_iff.mp hx).1
    have hjl : j < ls.length := by omega
    obtain ⟨u, hu', ru⟩ := rv.get (show (ls.map vt)[j]? = some (vt ls[j]) by rw [List.getElem?_map, List.getElem?_eq_getElem hjl]; rfl)
    rw [hx] at hu'; cases hu'
    refine wpAny_bind (wpAny_attempt (wpAny_mono (turn _ s' H2 ls[j] x (List.getElem_mem _) J M.same ru) (fun v s'' he => ?_) fun _ _ hF => hF.elim))
    obtain ⟨v', H3, J3, r3, q, rfl, hq, sm, hk3⟩ := he
    cases r3
    have hS3 := sm _ _ M.st
    obtain ⟨hz3, its3, n3, r33, e33⟩ := J3.hok kS _ hS3
    have e3 := valsRefs r33
    have hqk : q ≠ kS := fun z => by rw [z, M.st] at hq; cases hq
    subst e3
    try dsimp only
    have hql := M.len
    refine wpAny_bind (listUpdate_at e33 rfl ?_ (by rw [List.size_toArray, List.length_map]; omega) (by rw [Array.size_push, List.size_toArray, List.length_map]; omega))
    obtain ⟨c2, hc2⟩ : ∃ c2, (s''.heap.update kS (Obj.mapSeq (·.push (.ref q)))).get? kS = some (seqObj "list" ((qs.map Value.ref).toArray.push (.ref q)) c2) := ⟨_, get?_update_seq e33 (·.push (.ref q))⟩
    have J4 : Inv X.in2 (pins ++ [(a, seqObj "list" #[] e1)]) σ (upd H3 kS (.lst ((qs ++ [q]).map V.ref))) { s'' with heap := s''.heap.update kS (Obj.mapSeq (·.push (.ref q))) } := by
      refine J3.write (t' := s''.toks) (by rw [hS3]; trivial) (.inl rfl) (fun b u hb e => (Heap.get?_update_ne _ _ _ _ hb).trans e) ⟨_, hc2⟩ ⟨by rw [List.length_map, List.length_append]; simp only [List.length_cons, List.length_nil]; omega, (qs ++ [q]).map Value.ref, c2, refsVals _, ?_⟩
      rw [hc2, List.map_append]
      simp [seqObj]
    refine wpAny_pure ⟨rfl, _, qs ++ [q], J4, ⟨fun b o e => ?_, by rw [List.length_append, hql]; rfl, upd_same, fun i q' l e1 e2 => ?_⟩⟩
    · have := sm _ _ (M.same b o e)
      rw [upd_ne (fun z => by subst z; rw [hnk] at e; cases e)]
      exact this
    · rcases Nat.lt_or_ge i qs.length with z | z
      · rw [List.getElem?_append_left z] at e1
        obtain ⟨k1, k2⟩ := M.key i q' l e1 e2
        rw [upd_ne k2]
        exact ⟨sm _ _ k1, k2⟩
      · rw [List.getElem?_append_right z] at e1
        have hi : i - qs.length = 0 := by
          rcases Nat.eq_zero_or_pos (i - qs.length) with z' | z'
          · exact z'
          · obtain ⟨m, hm⟩ : ∃ m, i - qs.length = m + 1 := ⟨i - qs.length - 1, by omega⟩
            rw [hm] at e1; cases e1
        rw [hi] at e1; cases e1
        have hij : i = j := by omega
        subst hij
        rw [List.getElem?_eq_getElem hjl] at e2; cases e2
        rw [upd_ne hqk]
        exact ⟨hk3, hqk⟩
  case done =>
    rintro s' ⟨H2, qs, J, M⟩
    rw [Nat.zero_add] at M
    have hql := M.len
    obtain ⟨hz3, its3, n3, r33, e33⟩ := J.hok kS _ M.st
    have e3 := valsRefs r33
    subst e3
    refine wpAny_bind (listItems_at e33 rfl ?_)
    have hpa := (J.pin (a, seqObj "list" #[] e1) (List.mem_append_right _ (List.mem_append_right _ (List.mem_singleton.mpr rfl))))
    refine sort_endL (rk := ls.map rk) hu hpa.1 e33 (Nat.ne_of_gt hka) (fun i v hv => ?_) (by rw [List.size_toArray, List.length_map]; omega) (by rw [List.length_map]; omega) (by omega) fun ps hp1 hp2 => ⟨_, rfl, ?_⟩
    · have hi : i < qs.length := by
        rcases Nat.lt_or_ge i qs.length with z | z
        · exact z
        · rw [List.getElem?_toArray, List.getElem?_eq_none (by rw [List.length_map]; exact z)] at hv; cases hv
      rw [List.getElem?_toArray, List.getElem?_map, List.getElem?_eq_getElem hi] at hv
      cases hv
      have hil' : i < ls.length := by omega
      obtain ⟨k1, _⟩ := M.key i qs[i] ls[i] (List.getElem?_eq_getElem hi) (List.getElem?_eq_getElem hil')
      obtain ⟨_, its4, n4, r4, e4⟩ := J.hok _ _ k1
      refine ⟨rk ls[i], by rw [List.getElem?_map, List.getElem?_eq_getElem hil']; rfl, qs[i], its4, n4, rfl, e4, ?_⟩
      have := intsAre_of (ns := (rk ls[i]).map Int.ofNat) (us := its4) (by rw [List.map_map]; exact r4)
      exact this
    · refine wpAny_pure ⟨_, rfl, ?_⟩
      have hrel : ∀ p ∈ (ls.map rk).zip its, p.1 = rk (decT p.2) ∧ p.2 ∈ its := by
        rw [← hdec, List.map_map, List.zip_map_left]
        intro p hp
        obtain ⟨⟨u, v⟩, hq, rfl⟩ := List.mem_map.mp hp
        have h1 : u = v ∧ u ∈ its := mem_zip_self hq
        exact ⟨by show rk (decT u) = rk (decT v); rw [h1.1], by show v ∈ its; rw [← h1.1]; exact h1.2⟩
      have hout : ∀ u ∈ ps.map Prod.snd, ∃ l t, u = Value.str (tx l) t := fun u hu => by
        obtain ⟨p, hp', rfl⟩ := List.mem_map.mp hu
        exact hstr _ (hrel p (hp1.mem_iff.mp hp')).2
      have hperm : ((ps.map Prod.snd).map decT).Perm ls := by
        have h1 := (hp1.map Prod.snd).map decT
        rw [List.map_snd_zip (by rw [List.length_map]; omega), hdec] at h1
        exact h1
      have hord : ((ps.map Prod.snd).map decT).Pairwise (fun a b => ¬ rk b < rk a) := by
        rw [List.pairwise_map, List.pairwise_map]
        refine hp2.imp_of_mem fun {p q} hp' hq' hr => ?_
        rw [(hrel p (hp1.mem_iff.mp hp')).1, (hrel q (hp1.mem_iff.mp hq')).1] at hr
        exact hr
      have hol : (ps.map Prod.snd).length = ls.length := by have := hperm.length_eq; rw [List.length_map] at this; exact this
      obtain ⟨c2, hc2⟩ : ∃ c2, (s'.heap.update kS (Obj.mapSeq fun _ => (#[] : Array Value))).get? kS = some (seqObj "list" #[] c2) := ⟨_, get?_update_seq e33 fun _ => #[]⟩
      have J5 : Inv X.in2 (pins ++ [(a, seqObj "list" #[] e1)]) σ (upd H2 kS (.lst [])) { s' with heap := s'.heap.update kS (Obj.mapSeq fun _ => (#[] : Array Value)) } :=
        J.write (t' := s'.toks) (by rw [M.st]; trivial) (.inl rfl) (fun b u hb e => (Heap.get?_update_ne _ _ _ _ hb).trans e) ⟨_, hc2⟩ ⟨Nat.zero_le _, [], c2, .nil, hc2⟩
      have haK : a ≠ kS := Nat.ne_of_lt hka
      have na1 : (s'.heap.update kS (Obj.mapSeq fun _ => (#[] : Array Value))).get? a = some (seqObj "list" #[] e1) := (Heap.get?_update_ne _ _ _ _ haK).trans hpa.1
      obtain ⟨c3, hc3⟩ : ∃ c3, ((s'.heap.update kS (Obj.mapSeq fun _ => (#[] : Array Value))).update a (Obj.mapSeq fun _ => (ps.map Prod.snd).toArray)).get? a = some (seqObj "list" (ps.map Prod.snd).toArray c3) := ⟨_, get?_update_seq na1 fun _ => (ps.map Prod.snd).toArray⟩
      have hfa : (upd H2 kS (.lst [])) a = none := by rw [upd_ne haK]; exact hpa.2.1
      have J6 : Inv X pins σ (upd H2 kS (.lst [])) { s' with heap := (s'.heap.update kS (Obj.mapSeq fun _ => (#[] : Array Value))).update a (Obj.mapSeq fun _ => (ps.map Prod.snd).toArray) } :=
        (J5.unpinned.out2).turned (t' := s'.toks) (fun b o hb e => (Heap.get?_update_ne _ _ _ _ hb).trans e) hfa fa.2.1 fa.2.2.2.1 fa.2.2.2.2.1 fa.2.2.2.2.2
      have J7 := J6.adopt (a := a) (o := .lst (((ps.map Prod.snd).map decT).map vt)) hfa (by
        cases q : X.s₀.heap.get? a with
        | none => rfl
        | some o => exact absurd (Nat.lt_of_lt_of_le (Heap.lt_size q) (Nat.le_trans I.sz haz)) (Nat.lt_irrefl _)) fa.2.1.symm fa.2.2.2.2.1 fa.2.2.2.2.2 ⟨by rw [List.length_map, List.length_map]; omega, _, c3, vals_of_dec hout, hc3⟩
      refine ⟨.ref a, _, J7, rfl, h a _ _ hperm hord (fun b o e => ?_) fa.1 upd_same⟩
      rw [upd_ne (fun z => by subst z; rw [fa.1] at e; cases e), upd_ne (fun z => by subst z; rw [hnk] at e; cases e)]
      exact M.same b o e
end
end L2
namespace L2
open PySem PySem.Spec PyProof.Rows
def tSortK (K : PySem.W.Frag) (P : Addr) (lpos : Pos) (qual : Str) (i0 : Nat) (rk : List Nat → List Nat) (te : TA) (tb : TE) : TE := fun σ H Q => te σ H fun xs H1 => ∃ (p : Addr) (ls : List (List Nat)) (vy : V), xs = [.ref p] ∧ SqL K H1 p (ls.map vt) ∧ ls.length ≤ 100000 ∧ TB P lpos qual H1 ∧ σ[i0]? = some (some vy) ∧
  (∀ l ∈ ls, ∀ H2, SameT P H1 H2 → tb [some (vt l), some vy] H2 (fun v H3 => ∃ q, v = .ref q ∧ H2 q = none ∧ Same H2 H3 ∧ H3 q = some (.lst ((rk l).map fun n => V.int (Int.ofNat n))))) ∧
  ∀ (r : Addr) (ls' : List (List Nat)) (H' : Hp), ls'.Perm ls → ls'.Pairwise (fun a b => ¬ rk b < rk a) → SameT P H1 H' → H1 r = none → H' r = some (.lst (ls'.map vt)) → TB P lpos qual H' → Q (.ref r) H'
theorem SqL.sameT {K : PySem.W.Frag} {P p : Addr} {H H' : Hp} {xs : List V} (h : SqL K H p xs) (hP : ∃ ps, H P = some (.tbl ps)) (s : SameT P H H') : SqL K H' p xs := by
  obtain ⟨ps, hP⟩ := hP
  rcases h with (h | ⟨o, h⟩) | h
  · exact .inl (.inl (s _ _ (fun z => by subst z; rw [hP] at h; cases h) h))
  · exact .inl (.inr ⟨o, s _ _ (fun z => by subst z; rw [hP] at h; cases h) h⟩)
  · exact .inr h
theorem TB.tbl {P : Addr} {pos : Pos} {qual : Str} {H : Hp} (t : TB P pos qual H) : ∃ ps, H P = some (.tbl ps) := by
  rcases t with t | ⟨c', t, _⟩
  · exact ⟨_, t⟩
  · exact ⟨_, t⟩
section
variable {X : Cx}
theorem pe_sortK {x y : Str} {params : Arguments} {body : Expr} {scope : Scope} {lpos p pos kpos : Pos} {e : Expr} {te : TA} {tb : TE} {c P : Addr} {i0 : Nat} {rk : List Nat → List Nat}
    (hu : X.A.in1.in1.units < cLine) (hdp : X.A.in1.in1.depth < recursionLimit) (hc : X.calm = true) (hg : Gl X "sorted") (hm : X.mg "sorted" = none) (ha : PA X [e] te)
    (hdef : defaultsOf params X.env = ([], [])) (hcl : ∀ cc, X.env.cells.lookup y = some cc → closureFor scope X.env = pure [(y, cc)])
    (hN : X.N[i0]? = some y) (hky : X.env.kindOf y = some .cell) (hcode : X.env.code = .ref c) (C : PySem.W.CodeHd X.base c P) (hB : BM X.mg X.base)
    (hk : scope.kind = .function) (hco : scope.isCoroutine = false) (hgen : scope.isGenerator = false) (hxl : scope.names.lookup x = some .local) (hyf : scope.names.lookup y = some .free) (hnc : ∀ z ∈ scope.names, z.2 ≠ .cell)
    (hof : ∀ z, scope.names.lookup z = some .free → z = y) (hxy : x ≠ y)
    (hbind : ∀ cl pm cd ct u, bindArgs (PySem.W.kla_fn "<lambda>" (X.env.qual ++ "<lambda>") params body scope cl pm cd ct) ⟨[u], []⟩ = pure [(x, u)])
    (hb : ∀ f c' cl s H, PE (cxLam X.in2 [x, y] (X.env.qual ++ "<lambda>") scope f (.ref c') cl s H) body tb)
    (he : backTo pos (starEach [e] X.env) = (false, eval e X.env) :: backTo pos (starEach [] X.env) := by rfl) (hpl : (backTo pos (starEach [e] X.env)).any (·.1) = false := by rfl) :
    PE X (.Call (.Name "sorted" p) [e] [⟨some "key", .Lambda params body scope lpos, kpos⟩] pos) (tSortK X.K P lpos (X.env.qual ++ "<lambda>") i0 rk te tb) := by
  intro pins s σ H Q I h
  refine wpAny_Call_Name_kw (ld_blt I hg hm (u := .builtin "sorted") rfl ?_)
  refine callWith_kw (thn (ha pos pins s σ H _ I h) fun us s1 ⟨vs, H1, I1, r1, q1⟩ => ?_) he hpl
  obtain ⟨p0, ls, vy, rfl, hp, hlen, T, hy, turn, fin⟩ := q1
  obtain ⟨u, rfl, ru⟩ := vals1 r1
  cases (show u = Value.ref p0 from ru)
  show wpAny _ _ (evalAll ((do let v ← eval (.Lambda params body scope lpos) X.env; standAt pos; pure v) :: [])) _ _ s1
  obtain ⟨cc, hcc⟩ := I1.ok.has y (.inl hky)
  refine wpAny_evalAll_cons (wpAny_bind (lam_make I1 hdef (hcl cc hcc) hcode C hB T fun f c' ctv H2 s2 J hT1 hT2 sm => wpAny_bind (wpAny_standAt (wpAny_pure (wpAny_evalAll_nil ?_)))))
  show wpAny _ _ (call (.builtin "sorted") [.ref p0] [(Str.ofString "key", .ref f)]) _ _ s2
  have T2 : TB P lpos (X.env.qual ++ "<lambda>") H2 := .inr ⟨c', hT1, hT2⟩
  refine thn (call_sortK (rk := rk) (Q := Q) J hu (hp.sameT T.tbl sm) hlen (fun pl s3 H3 l u hl J3 sm3 ru => ?_) fun r ls' H' a1 a2 a3 a4 a5 => ?_) fun v s' ⟨v', H', J', r', q'⟩ => ⟨v', H', J'.unpinned, r', q'⟩
  · have hf := (J3.pin (f, _) (List.mem_append_right _ (List.mem_append_left _ (List.mem_append_right _ (List.mem_singleton.mpr rfl))))).1
    obtain ⟨m, _, hloc⟩ := J3.loc
    obtain ⟨uy, ry, hlk⟩ := hloc i0 y vy hN hy (.inr (.inl hky))
    have hcell : s3.heap.IsCell cc (some uy) := by
      rcases hlk with ⟨z, _⟩ | ⟨_, c2, z1, z2⟩
      · rw [show X.in2.env.kindOf y = some .cell from hky] at z; cases z
      · rw [show X.in2.env.cells.lookup y = some cc from hcc] at z1; cases z1; exact z2
    refine lam_call (X := X.in2) (x := x) (y := y) (vy := vy) (te := tb) J3 hc hdp hf ?_ hk hco hgen hxl hyf hnc hof hxy (hbind _ _ _ _ _) hcell (J3.freeC y cc hcc) ru ry (hb _ _ _ _ _) (turn l hl H3 (sm.trans (.of sm3)))
    exact (J3.hok c' _ (sm3 _ _ hT2)).1
  · refine fin r ls' H' a1 a2 (sm.trans (.of a3)) ?_ a5 (T2.same a3)
    cases q : H1 r with
    | none => rfl
    | some o =>
      by_cases hr : r = P
      · subst hr; rw [hT1] at a4; cases a4
      · rw [sm _ _ hr q] at a4; cases a4
end
end L2
namespace L2
open PySem PySem.Spec PyProof.Rows
theorem vals_pt : ∀ {xs : List V} {us : List Value}, us.length = xs.length → (∀ (j : Nat) (u : Value), us[j]? = some u → ∃ v, xs[j]? = some v ∧ RelV v u) → Vals xs us
  | [], [], _, _ => .nil
  | x :: xs, u :: us, hl, h => by
    obtain ⟨v, e, r⟩ := h 0 u rfl
    cases (Option.some.inj e)
    exact .cons r (vals_pt (by simpa using hl) fun j u hu => h (j + 1) u hu)
  | [], _ :: _, hl, _ => by simp at hl
  | _ :: _, [], hl, _ => by simp at hl
theorem kv_at : ∀ {kvs : List (Key × V)} {vs : List (Key × Value)}, KV kvs vs → ∀ (j : Nat) (k : Key) (x : Value), vs[j]? = some (k, x) → ∃ y, kvs[j]? = some (k, y)
  | kvs, [], h, j, k, x, e => by cases e
  | kvs, (c, d) :: vs, h, j, k, x, e => by
    cases h with
    | @cons p q _ _ hq ht =>
      cases j with
      | zero =>
        obtain ⟨a, b⟩ := p
        cases e
        have hk : a = c := hq.1
        exact ⟨b, by rw [← hk]; rfl⟩
      | succ j => exact kv_at ht j k x e
section
variable {X : Cx}
theorem callListD (hc : X.calm = true) : CallR X (.type "list") (fun xs H Q => ∃ p kvs, xs = [.ref p] ∧ H p = some (.dK kvs) ∧ ∀ l, H l = none → Q (.ref l) (upd H l (.lst (kvs.map fun p => kV p.1)))) := by
  intro pins s σ H xs us Q I r h
  obtain ⟨p, kvs, rfl, e, q⟩ := h
  obtain ⟨u, rfl, ru⟩ := vals1 r
  cases ru
  obtain ⟨hl, lo, vs, hkv, hD⟩ := dk_of I.hok e
  obtain ⟨ep, hat⟩ := hD.dictAt
  have hlen : kvs.length = vs.length := Paired.length hkv
  refine PySem.W.kdl_call (PySem.W.kdl_dict (knd := mixKind X.prog X.w) (kvs := vs) (ep := ep) lo) (I.ok.hd hc) hat (by omega) fun h' tk acc' c' hk hD' hacc => ?_
  refine ⟨.ref s.heap.objs.size, _, I.laid (t' := tk) (o := .lst (kvs.map fun p => kV p.1)) hk (Nat.le_refl _) ⟨by rw [List.length_map]; exact hl, acc'.toList, c', ?_, by simpa using hD'⟩, rfl, q _ (I.hok.fresh (Nat.le_refl _))⟩
  refine vals_pt (by rw [Array.length_toList, List.length_map, hacc.1, hlen]) fun j u hu => ?_
  obtain ⟨k, x, hx, hku⟩ := hacc.2 j u (by rw [← Array.getElem?_toList]; exact hu)
  obtain ⟨y, hy⟩ := kv_at hkv j k x hx
  exact ⟨kV k, by rw [List.getElem?_map, hy]; rfl, keyIs_rel hku⟩
end
structure TabX (K : PySem.W.Frag) (mg : Str → Option Value) (base : Heap) (x : Str) (c T : Addr) : Prop where
  kin : K.In base
  ns : base.Ns mainGlobals mg
  tab : PySem.W.tabIn K x = some (c, T)
  hd : PySem.W.CodeHd base c T
  bm : BM mg base
theorem TabX.code {K : PySem.W.Frag} {mg : Str → Option Value} {base : Heap} {x x' qual : Str} {c T f : Addr} {st : Stmt} {fd : FuncData} (X : TabX K mg base x c T) (hm : mg x = some (.ref f)) (F : Fun K x' qual st f fd) : fd.code = .ref c := by
  obtain ⟨oc, od, kV, doc, pm, an, cdv, ct, osl, e, lk, hcd⟩ := F.ex
  exact PySem.W.law_code X.kin X.ns X.tab hm (X.kin _ _ lk) rfl
section
variable {P : Program} {w : World} {K : PySem.W.Frag} {mg : Str → Option Value} {base : Heap}
theorem Fun.okc {x qual : Str} {st : Stmt} {f : Addr} {fd : FuncData} {N ps : List Str} {k : Nat} {sp : Sp} (F : Fun K x qual st f fd) (S : FnScope N ps (defScope st)) (len : ∀ vs H Q E, sp vs H Q E → vs.length = ps.length)
    (hbody : ∀ (cdv : Value) (A : Around) (outer : List Env) (s : Shared) (H : Hp) (vs : List V) (Q : VK) (E : XK), fd.code = cdv → Room k (A.deeper (envOfC qual (defScope st) s.heap.objs.size f cdv)) → sp vs H Q E →
      ∃ t, PSs (cxOf (CX1 P w) P w K mg base N qual (defScope st) f cdv A outer s H E).nox (defBody st) t ∧ t { nx := fun _ H' => Q .non H', rt := Q } (start N vs) H) : FnOk P w K mg base (CX1 P w) (k + 1) f fd ps sp := by
  obtain ⟨oc, od, kV, doc, pm, an, cdv, ct, osl, rfl, lk, hcd⟩ := F.ex
  refine fn_of lk hcd S len fun A outer s H vs Q E hr hsp => ?_
  obtain ⟨t, h, q⟩ := hbody cdv A outer s H vs Q E rfl hr hsp
  exact ⟨t, h.nox, q⟩
end
theorem law_callT {P : Program} {w : World} {K : PySem.W.Frag} {mg mb : Str → Option Value} {CX : CXT} {k : Nat} {fa a c T : Addr} {fd : FuncData} {x : Str} {sp : Sp} {s₁ : Shared} {vs : List Value} {ns : List Int}
    (KX : K.In s₁.heap) (hnt : PySem.W.noTabs K = true) (hns : s₁.heap.Ns mainGlobals mg) (hb : s₁.heap.Ns builtinsNs mb) (hbb : ∀ x : Str, x ≠ "__name__" → mb x = bootBuiltins x) (hlim : s₁.heap.NoLimit) (hg : s₁.gens = #[])
    (ha : s₁.heap.get? a = some { cls := .type "list", data := .seq vs.toArray }) (hi : IntsAre vs ns) (hl : ns.length ≤ sizeLine) (hr : Room k callerA)
    (C : PySem.W.CodeHd s₁.heap c T) (hT : s₁.heap.get? T = some (PySem.W.tabObj #[])) (hB : BM mg s₁.heap)
    (F : ∀ base : Heap, K.In base → base.Ns mainGlobals mg → PySem.W.CodeHd base c T → BM mg base → FnOk P w K mg base CX k fa fd [x] sp) (hbind : ∀ (s : Shared) (u : Value), BindsTo s fd ⟨[u], []⟩ [(x, u)])
    (hsp : ∀ H : Hp, SqL K H a (ns.map V.int) → H T = some (.tbl #[]) → sp [.ref a] H (fun v _ => v = .bl true) fun _ _ _ => False)
    (hCX : ∀ H e s', CX [] H s₁ (fun _ _ _ => False) e s' → False) :
    codeAny (model P w) callerA (.call (.ref fa) ⟨[.ref a], []⟩) (fun r s' => r = .ok (.ret (.bool true)) ∧ OldK s₁.heap s'.heap ∧ s'.os = s₁.os ∧ AllBare s'.gens) s₁ := by
  have rv := vals_ints hi
  have lenV := hi.length
  have hTa : a ≠ T := fun z => by
    subst z
    rw [ha] at hT
    have := Option.some.inj hT
    cases this
  have core : ∀ H : Hp, (∀ b, b ≠ a → b ≠ T → H b = none) → H T = some (.tbl #[]) → (H a = none ∨ ∃ o xs, H a = some (.frz o (.lst xs))) → SqL K H a (ns.map V.int) → HOk P w H s₁.heap → (H a ≠ none → K.lookup a = none) →
      codeAny (model P w) callerA (.call (.ref fa) ⟨[.ref a], []⟩) (fun r s' => r = .ok (.ret (.bool true)) ∧ OldK s₁.heap s'.heap ∧ s'.os = s₁.os ∧ AllBare s'.gens) s₁ := by
    intro H hA hHT hHa hS hok hK
    have base_of : ∀ {b : Addr} {o : Obj}, s₁.heap.get? b = some o → H b = none → (hidT s₁.heap H).get? b = some o := fun e n => hidT_get e n
    have out : ∀ {b : Addr} {o : Obj}, s₁.heap.get? b = some o → (b = a → False) → (b = T → False) → H b = none := fun _ h1 h2 => hA _ h1 h2
    have noA : ∀ {b : Addr} {o : Obj} {es : Array DictEntry} {ep : Nat}, s₁.heap.get? b = some o → o.data = .dict es ep → H b = none := fun {b o es ep} e d => by
      refine hA b (fun z => ?_) (fun z => ?_)
      · subst z; rw [ha] at e; cases e
        have d' : Data.seq vs.toArray _ = Data.dict es ep := d
        cases d'
      · subst z; rw [hT] at e; cases e
        have d' : Data.fields #[] = Data.dict es ep := d
        cases d'
    have noC : ∀ {b : Addr} {o : Obj} {n : String}, s₁.heap.get? b = some o → o.cls = .type n → n ≠ "list" → H b = none := fun {b o n} e d hn => by
      refine hA b (fun z => ?_) (fun z => ?_)
      · subst z; rw [ha] at e; cases e
        have d' : Value.type "list" = Value.type n := d
        cases d'; exact hn rfl
      · subst z; rw [hT] at e; cases e
        have d' : Value.none = Value.type n := d
        cases d'
    have nsK : ∀ {b : Addr} {m : Str → Option Value}, s₁.heap.Ns b m → (hidT s₁.heap H).Ns b m := fun {b m} ⟨o, es, ep, e, d, r⟩ => ⟨o, es, ep, base_of e (noA e d), d, r⟩
    have hKb : K.In (hidT s₁.heap H) := fun b o e => base_of (KX b o e) (by
      by_cases hb : b = a
      · subst hb
        cases q : H b with
        | none => rfl
        | some u => rw [hK (by rw [q]; simp)] at e; cases e
      · refine hA b hb fun hb2 => ?_
        subst hb2
        have e2 := KX _ _ e
        rw [hT] at e2
        have h2 := List.all_eq_true.mp hnt (b, o) (PySem.W.mem_of_lookupK e)
        cases e2
        exact absurd (show false = true from h2) Bool.false_ne_true)
    have hM : Mod K mg (hidT s₁.heap H) := ⟨hKb, nsK hns, ⟨mb, nsK hb, hbb⟩, let ⟨mc, h1, h2⟩ := hlim; ⟨mc, nsK h1, h2⟩⟩
    have e0 : Env0 P w K mg (hidT s₁.heap H) callerA [] s₁ H := ⟨rfl, hM, fun b o e => of_hidT e, Nat.le_of_eq (hidT_size _ _), trivial, fun b hb => absurd (show b ∈ ([] : List Addr) from hb) (by simp), hok, .of_eq hg⟩
    have hC : PySem.W.CodeHd (hidT s₁.heap H) c T := let ⟨o, us, file, tf, flags, tg, inF, text, tt, e, cl, r⟩ := C; ⟨o, us, file, tf, flags, tg, inF, text, tt, base_of e (noC e cl (by decide)), cl, r⟩
    have hBm : BM mg (hidT s₁.heap H) := let ⟨bm, ob, b1, b2, b3, b4, r⟩ := hB; ⟨bm, ob, b1, b2, base_of b3 (noC b3 b4 (by decide)), b4, r⟩
    refine codeAny_mono ((F _ hKb (nsK hns) hC hBm).run callerA [] s₁ H ⟨[.ref a], []⟩ [.ref a] [.ref a] _ _ hr e0 (hbind s₁ (.ref a)) (.cons rfl .nil) (hsp H hS hHT)) fun r s' h => ?_
    cases r with
    | error e => exact (hCX H e s' h).elim
    | ok fl =>
      cases fl with
      | next => exact False.elim h
      | brk => exact False.elim h
      | cont => exact False.elim h
      | ret u =>
        obtain ⟨v, H', os, bare, un, hok', r', q⟩ := h
        have q' : v = .bl true := q
        subst q'
        obtain rfl : u = Value.bool true := r'
        obtain ⟨more, hm⟩ := un.tbls T #[] hHT
        have hT2 : s'.heap.get? T = some (PySem.W.tabObj (#[] ++ more)) := hok' T _ hm
        have kp : ∀ b o, b ≠ T → s₁.heap.get? b = some o → s'.heap.get? b = some o := fun b o hb e => by
          by_cases hba : b = a
          · subst hba
            rcases hHa with z | ⟨ob, xs, z⟩
            · exact un.keep b o e z (by intro z; exact absurd (show b ∈ ([] : List Addr) from z) (by simp)) (by simp)
            · have z2 := un.frzs b ob _ z
              obtain ⟨e1, _⟩ := hok b _ z
              obtain ⟨e2, _⟩ := hok' b _ z2
              rw [e] at e1; cases e1
              exact e2
          · exact un.keep b o e (hA b hba hb) (by intro z; exact absurd (show b ∈ ([] : List Addr) from z) (by simp)) (by simp)
        refine ⟨rfl, ⟨fun b o e => ?_, fun b o e => ?_⟩, os, bare⟩
        · by_cases hb : b = T
          · subst hb
            rw [hT] at e; cases e
            exact .inr (.inl ⟨(C.tab hT).isCodeTable, rfl, #[], more, rfl, hT2⟩)
          · exact .inl (kp b o hb e)
        · by_cases hb : b = T
          · subst hb; exact ⟨_, hT2⟩
          · exact ⟨o, kp b o hb e⟩
  cases hk : K.lookup a with
  | some o =>
    have e := KX a o hk
    rw [ha] at e
    cases e
    refine core (fun b => if b = T then some (.tbl #[]) else none) (fun b _ h => if_neg h) (if_pos rfl) (.inl (if_neg hTa)) (.inr ⟨_, vs.toArray, _, hk, rfl, rfl, rfl, by rw [List.size_toArray, lenV]; exact hl, by simpa using rv⟩) (fun b u z => ?_) fun z => absurd (if_neg hTa) z
    by_cases hb : b = T
    · have z' := (if_pos hb).symm.trans z
      cases z'
      subst hb
      exact hT
    · have z' := (if_neg hb).symm.trans z
      cases z'
  | none =>
    refine core (fun b => if b = T then some (.tbl #[]) else if b = a then some (.frz { cls := .type "list", data := .seq vs.toArray } (.lst (ns.map V.int))) else none) (fun b h1 h2 => (if_neg h2).trans (if_neg h1)) (if_pos rfl) (.inr ⟨_, _, (if_neg hTa).trans (if_pos rfl)⟩)
      (.inl (.inr ⟨{ cls := .type "list", data := .seq vs.toArray }, (if_neg hTa).trans (if_pos rfl)⟩)) (fun b u z => ?_) fun _ => hk
    by_cases hb : b = T
    · have z' := (if_pos hb).symm.trans z
      cases z'
      subst hb
      exact hT
    · have z1 := (if_neg hb).symm.trans z
      by_cases hb2 : b = a
      · have z' := (if_pos hb2).symm.trans z1
        cases z'
        subst hb2
        exact ⟨ha, by rw [List.length_map]; exact hl, vs, _, rv, ha⟩
      · have z' := (if_neg hb2).symm.trans z1
        cases z'
theorem walk_t {l : PySem.W.OpenLaw} {n k : Nat} {q : Program} {loose : List Str} {XP : (Str → Option Value) → Heap → Prop} {YP : World → Heap → Prop} {d : DefRec} {K : Params → PySem.W.Frag} {CX : World → CXT} {sp : World → Addr → Sp} {x fn : Str}
    (hn : l.most = some n) (hn2 : n ≤ sizeLine) (hdf : d.params.defaults = []) (hr : Room k callerA)
    (hY : ∀ (w : World) (h : Heap), YP w h → (K w.params).In h) (hnt : ∀ w : World, PySem.W.noTabs (K w.params) = true) (hdr : ((recsOf q).find? (fun e => e.name == fn)).isSome = true) (htab : ∀ w : World, (PySem.W.tabIn (K w.params) fn).isSome = true)
    (F : ∀ (w : World) (mg : Str → Option Value) (fa : Addr) (h : Heap) (c T : Addr), (K w.params).In h → h.Ns mainGlobals mg → mg d.name = some (.ref fa) → PySem.W.tabIn (K w.params) fn = some (c, T) →
      ∃ fd : FuncData, (∀ (s : Shared) (u : Value), BindsTo s fd ⟨[u], []⟩ [(x, u)]) ∧
        ∀ base : Heap, TabX (K w.params) mg base fn c T → FnOk l.prog w (K w.params) mg base (CX w) k fa fd [x] (sp w T))
    (hsp : ∀ (w : World) (H : Hp) (a T : Addr) (ns : List Int), ns.length ≤ n → (∀ n ∈ ns, Small n) → SqL (K w.params) H a (ns.map V.int) → H T = some (.tbl #[]) → sp w T [.ref a] H (fun v _ => v = .bl true) fun _ _ _ => False)
    (hCX : ∀ (w : World) (H : Hp) (s : Shared) (e : Value) (s' : Shared), CX w [] H s (fun _ _ _ => False) e s' → False) :
    PySem.W.WalkO q loose XP YP l.row.toRowW d [] (fun f vs => PySem.call f vs) := by
  intro w s₀ s₁ mg mb G Y fa o pm cd doc dV kV ho hd hcd hD hmg hg args vals as hpre hlay hrd hwl hlo
  obtain rfl : dV = .none := PySem.W.Dflts.none hD hdf
  obtain rfl : kV = .none := PySem.W.Dflts.noKw hD
  obtain ⟨a, vs, ns, rfl, rfl, hobj, hints, hlen⟩ := Att.script_of hn hpre hwl
  have KX := hY w _ Y
  obtain ⟨⟨c, T⟩, hct⟩ := Option.isSome_iff_exists.mp (htab w)
  obtain ⟨dr, hdr'⟩ := Option.isSome_iff_exists.mp hdr
  obtain ⟨hC, hT⟩ := PySem.W.tab_of G.T KX hdr' hct
  obtain ⟨fd, hb, hF⟩ := F w mg fa _ c T KX G.T.g hmg hct
  have hc := law_callT KX (hnt w) G.T.g G.T.b G.T.builtins G.T.nolimit hg hobj hints (Nat.le_trans hlen hn2) hr hC hT G.T.bmain (fun base h1 h2 h3 h4 => hF base ⟨h1, h2, hct, h3, h4⟩) hb (fun H hS hHT => hsp w H a T ns hlen (script_layable hlay) hS hHT) fun H e s' => hCX w H s₁ e s'
  refine PySem.W.enter_call (codeAny_mono hc fun r s' hq => ?_)
  obtain ⟨rfl, h2, h3, h4⟩ := hq
  exact ⟨.inl ⟨.bool true, .bool true, [], rfl, fun _ => rfl, .bool true, Att.post_true l _, fun _ => ⟨List.Pairwise.nil, fun _ hm => (nomatch hm)⟩⟩, h2, h3, h4⟩
end L2
namespace Bp
end Bp
namespace Bp
open PySem PySem.Spec PyProof.Rows L2
def top (i : Nat) : Stmt := PySem.Challenge.pw_boughpress_k13_whole_knots_part_the_plac.main.body.getD i (.Pass ⟨0, 0, 0, 0⟩)
abbrev s_checked : Stmt := top 7
abbrev s_rank : Stmt := top 8
abbrev s_elders_at : Stmt := top 10
abbrev s_elders : Stmt := top 11
abbrev s_is_knot : Stmt := top 13
abbrev s_checked_knot : Stmt := top 14
abbrev s_path_knots : Stmt := top 15
abbrev s_no_counts : Stmt := top 16
abbrev s_count_table : Stmt := top 17
abbrev s_counts : Stmt := top 18
abbrev s_in_order : Stmt := top 19
abbrev s_knots : Stmt := top 20
abbrev s_L_cell_at : Stmt := top 22
abbrev s_L_signs : Stmt := top 23
abbrev s_L_frame : Stmt := top 24
abbrev s_L_text : Stmt := top 25
abbrev s_L_ahead : Stmt := top 26
abbrev s_L_rising : Stmt := top 27
abbrev s_L_parted : Stmt := top 28
abbrev s_L_refused : Stmt := top 29
abbrev s_law : Stmt := top 30
theorem sc_checked : FnScope ["frame", "text", "letters", "sign"] ["frame", "text"] (defScope s_checked) := ⟨rfl, rfl, rfl, by decide +kernel, rfl, by decide +kernel, by decide +kernel⟩
theorem sc_rank : FnScope ["frame", "text", "letters"] ["frame", "text"] (defScope s_rank) := ⟨rfl, rfl, rfl, by decide +kernel, rfl, by decide +kernel, by decide +kernel⟩
theorem sc_elders_at : FnScope ["frame", "text", "at", "first_letter", "depth", "near"] ["frame", "text", "at"] (defScope s_elders_at) := ⟨rfl, rfl, rfl, by decide +kernel, rfl, by decide +kernel, by decide +kernel⟩
theorem sc_elders : FnScope ["frame", "text", "at"] ["frame", "text", "at"] (defScope s_elders) := ⟨rfl, rfl, rfl, by decide +kernel, rfl, by decide +kernel, by decide +kernel⟩
theorem sc_is_knot : FnScope ["frame", "text", "letters"] ["frame", "text"] (defScope s_is_knot) := ⟨rfl, rfl, rfl, by decide +kernel, rfl, by decide +kernel, by decide +kernel⟩
theorem sc_checked_knot : FnScope ["frame", "knot"] ["frame", "knot"] (defScope s_checked_knot) := ⟨rfl, rfl, rfl, by decide +kernel, rfl, by decide +kernel, by decide +kernel⟩
theorem sc_path_knots : FnScope ["frame", "text", "at", "path"] ["frame", "text", "at"] (defScope s_path_knots) := ⟨rfl, rfl, rfl, by decide +kernel, rfl, by decide +kernel, by decide +kernel⟩
theorem sc_no_counts : FnScope ["frame"] ["frame"] (defScope s_no_counts) := ⟨rfl, rfl, rfl, by decide +kernel, rfl, by decide +kernel, by decide +kernel⟩
theorem sc_count_table : FnScope ["frame", "text", "letters", "table", "at", "sign", "knot"] ["frame", "text"] (defScope s_count_table) := ⟨rfl, rfl, rfl, by decide +kernel, rfl, by decide +kernel, by decide +kernel⟩
theorem sc_counts : FnScope ["frame", "text", "knot"] ["frame", "text", "knot"] (defScope s_counts) := ⟨rfl, rfl, rfl, by decide +kernel, rfl, by decide +kernel, by decide +kernel⟩
theorem sc_in_order : FnScope ["frame", "texts"] ["frame", "texts"] (defScope s_in_order) := ⟨rfl, rfl, rfl, by decide +kernel, rfl, by decide +kernel, by decide +kernel⟩
theorem sc_knots : FnScope ["frame", "text"] ["frame", "text"] (defScope s_knots) := ⟨rfl, rfl, rfl, by decide +kernel, rfl, by decide +kernel, by decide +kernel⟩
theorem sc_L_cell_at : FnScope ["script", "k"] ["script", "k"] (defScope s_L_cell_at) := ⟨rfl, rfl, rfl, by decide +kernel, rfl, by decide +kernel, by decide +kernel⟩
theorem sc_L_signs : FnScope ["some"] [] (defScope s_L_signs) := ⟨rfl, rfl, rfl, by decide +kernel, rfl, by decide +kernel, by decide +kernel⟩
theorem sc_L_frame : FnScope ["cell", "some", "number", "letters", "k", "at"] ["cell"] (defScope s_L_frame) := ⟨rfl, rfl, rfl, by decide +kernel, rfl, by decide +kernel, by decide +kernel⟩
theorem sc_L_text : FnScope ["letters", "cells", "way", "text", "cell", "far"] ["letters", "cells", "way"] (defScope s_L_text) := ⟨rfl, rfl, rfl, by decide +kernel, rfl, by decide +kernel, by decide +kernel⟩
theorem sc_L_ahead : FnScope ["letters", "one", "other", "k"] ["letters", "one", "other"] (defScope s_L_ahead) := ⟨rfl, rfl, rfl, by decide +kernel, rfl, by decide +kernel, by decide +kernel⟩
theorem sc_L_rising : FnScope ["letters", "found", "k"] ["letters", "found"] (defScope s_L_rising) := ⟨rfl, rfl, rfl, by decide +kernel, rfl, by decide +kernel, by decide +kernel⟩
theorem sc_L_parted : FnScope ["frame", "text", "some", "due", "knot", "told", "total", "letter", "below"] ["frame", "text", "some", "due"] (defScope s_L_parted) := ⟨rfl, rfl, rfl, by decide +kernel, rfl, by decide +kernel, by decide +kernel⟩
theorem sc_L_refused : FnScope ["frame", "text", "kinds", "e"] ["frame", "text"] (defScope s_L_refused) := ⟨rfl, rfl, rfl, by decide +kernel, rfl, by decide +kernel, by decide +kernel⟩
theorem sc_law : FnScope ["script", "frame", "text", "found", "due", "at", "told", "size", "kept", "cell", "start", "some", "lacked", "sign", "bad"] ["script"] (defScope s_law) := ⟨rfl, rfl, rfl, by decide +kernel, rfl, by decide +kernel, by decide +kernel⟩
theorem bt_all : bootBuiltins "all" = some (.builtin "all") := by decide +kernel
theorem bt_enumerate : bootBuiltins "enumerate" = some (.type "enumerate") := by decide +kernel
theorem bt_isinstance : bootBuiltins "isinstance" = some (.builtin "isinstance") := by decide +kernel
theorem bt_len : bootBuiltins "len" = some (.builtin "len") := by decide +kernel
theorem bt_list : bootBuiltins "list" = some (.type "list") := by decide +kernel
theorem bt_max : bootBuiltins "max" = some (.builtin "max") := by decide +kernel
theorem bt_min : bootBuiltins "min" = some (.builtin "min") := by decide +kernel
theorem bt_reversed : bootBuiltins "reversed" = some (.type "reversed") := by decide +kernel
theorem bt_str : bootBuiltins "str" = some (.type "str") := by decide +kernel
theorem bt_sum : bootBuiltins "sum" = some (.builtin "sum") := by decide +kernel
set_option genInjectivity false in
set_option genSizeOf false in
structure Adr where
  a_checked : Addr
  fd_checked : FuncData
  a_rank : Addr
  fd_rank : FuncData
  a_elders_at : Addr
  fd_elders_at : FuncData
  a_elders : Addr
  fd_elders : FuncData
  a_is_knot : Addr
  fd_is_knot : FuncData
  a_checked_knot : Addr
  fd_checked_knot : FuncData
  a_path_knots : Addr
  fd_path_knots : FuncData
  a_no_counts : Addr
  fd_no_counts : FuncData
  a_count_table : Addr
  fd_count_table : FuncData
  a_counts : Addr
  fd_counts : FuncData
  a_in_order : Addr
  fd_in_order : FuncData
  a_knots : Addr
  fd_knots : FuncData
  a_L_cell_at : Addr
  fd_L_cell_at : FuncData
  a_L_signs : Addr
  fd_L_signs : FuncData
  a_L_frame : Addr
  fd_L_frame : FuncData
  a_L_text : Addr
  fd_L_text : FuncData
  a_L_ahead : Addr
  fd_L_ahead : FuncData
  a_L_rising : Addr
  fd_L_rising : FuncData
  a_L_parted : Addr
  fd_L_parted : FuncData
  a_L_refused : Addr
  fd_L_refused : FuncData
  a_law : Addr
  fd_law : FuncData
  c_PressError : Addr
  c_NoText : Addr
  c_NoPlace : Addr
  c_NoKnot : Addr
  c_NoSign : Addr
structure Txt (K : PySem.W.Frag) (mg : Str → Option Value) (t : Adr) : Prop where
  F_checked : Fun K "checked" "checked" s_checked t.a_checked t.fd_checked
  b_checked : Binds K t.fd_checked ["frame", "text"] []
  m_checked : mg "checked" = some (.ref t.a_checked)
  F_rank : Fun K "rank" "rank" s_rank t.a_rank t.fd_rank
  b_rank : Binds K t.fd_rank ["frame", "text"] []
  m_rank : mg "rank" = some (.ref t.a_rank)
  F_elders_at : Fun K "elders_at" "elders_at" s_elders_at t.a_elders_at t.fd_elders_at
  b_elders_at : Binds K t.fd_elders_at ["frame", "text", "at"] []
  m_elders_at : mg "elders_at" = some (.ref t.a_elders_at)
  F_elders : Fun K "elders" "elders" s_elders t.a_elders t.fd_elders
  b_elders : Binds K t.fd_elders ["frame", "text", "at"] []
  m_elders : mg "elders" = some (.ref t.a_elders)
  F_is_knot : Fun K "is_knot" "is_knot" s_is_knot t.a_is_knot t.fd_is_knot
  b_is_knot : Binds K t.fd_is_knot ["frame", "text"] []
  m_is_knot : mg "is_knot" = some (.ref t.a_is_knot)
  F_checked_knot : Fun K "checked_knot" "checked_knot" s_checked_knot t.a_checked_knot t.fd_checked_knot
  b_checked_knot : Binds K t.fd_checked_knot ["frame", "knot"] []
  m_checked_knot : mg "checked_knot" = some (.ref t.a_checked_knot)
  F_path_knots : Fun K "path_knots" "path_knots" s_path_knots t.a_path_knots t.fd_path_knots
  b_path_knots : Binds K t.fd_path_knots ["frame", "text", "at"] []
  m_path_knots : mg "path_knots" = some (.ref t.a_path_knots)
  F_no_counts : Fun K "no_counts" "no_counts" s_no_counts t.a_no_counts t.fd_no_counts
  b_no_counts : Binds K t.fd_no_counts ["frame"] []
  m_no_counts : mg "no_counts" = some (.ref t.a_no_counts)
  F_count_table : Fun K "count_table" "count_table" s_count_table t.a_count_table t.fd_count_table
  b_count_table : Binds K t.fd_count_table ["frame", "text"] []
  m_count_table : mg "count_table" = some (.ref t.a_count_table)
  F_counts : Fun K "counts" "counts" s_counts t.a_counts t.fd_counts
  b_counts : Binds K t.fd_counts ["frame", "text", "knot"] []
  m_counts : mg "counts" = some (.ref t.a_counts)
  F_in_order : Fun K "in_order" "in_order" s_in_order t.a_in_order t.fd_in_order
  b_in_order : Binds K t.fd_in_order ["frame", "texts"] []
  m_in_order : mg "in_order" = some (.ref t.a_in_order)
  F_knots : Fun K "knots" "knots" s_knots t.a_knots t.fd_knots
  b_knots : Binds K t.fd_knots ["frame", "text"] []
  m_knots : mg "knots" = some (.ref t.a_knots)
  F_L_cell_at : Fun K "_law_cell_at" "_law_cell_at" s_L_cell_at t.a_L_cell_at t.fd_L_cell_at
  b_L_cell_at : Binds K t.fd_L_cell_at ["script", "k"] []
  m_L_cell_at : mg "_law_cell_at" = some (.ref t.a_L_cell_at)
  F_L_signs : Fun K "_law_signs" "_law_signs" s_L_signs t.a_L_signs t.fd_L_signs
  b_L_signs : Binds K t.fd_L_signs [] []
  m_L_signs : mg "_law_signs" = some (.ref t.a_L_signs)
  F_L_frame : Fun K "_law_frame" "_law_frame" s_L_frame t.a_L_frame t.fd_L_frame
  b_L_frame : Binds K t.fd_L_frame ["cell"] []
  m_L_frame : mg "_law_frame" = some (.ref t.a_L_frame)
  F_L_text : Fun K "_law_text" "_law_text" s_L_text t.a_L_text t.fd_L_text
  b_L_text : Binds K t.fd_L_text ["letters", "cells", "way"] []
  m_L_text : mg "_law_text" = some (.ref t.a_L_text)
  F_L_ahead : Fun K "_law_ahead" "_law_ahead" s_L_ahead t.a_L_ahead t.fd_L_ahead
  b_L_ahead : Binds K t.fd_L_ahead ["letters", "one", "other"] []
  m_L_ahead : mg "_law_ahead" = some (.ref t.a_L_ahead)
  F_L_rising : Fun K "_law_rising" "_law_rising" s_L_rising t.a_L_rising t.fd_L_rising
  b_L_rising : Binds K t.fd_L_rising ["letters", "found"] []
  m_L_rising : mg "_law_rising" = some (.ref t.a_L_rising)
  F_L_parted : Fun K "_law_parted" "_law_parted" s_L_parted t.a_L_parted t.fd_L_parted
  b_L_parted : Binds K t.fd_L_parted ["frame", "text", "some", "due"] []
  m_L_parted : mg "_law_parted" = some (.ref t.a_L_parted)
  F_L_refused : Fun K "_law_refused" "_law_refused" s_L_refused t.a_L_refused t.fd_L_refused
  b_L_refused : Binds K t.fd_L_refused ["frame", "text"] []
  m_L_refused : mg "_law_refused" = some (.ref t.a_L_refused)
  F_law : Fun K "law" "law" s_law t.a_law t.fd_law
  b_law : Binds K t.fd_law ["script"] []
  m_law : mg "law" = some (.ref t.a_law)
  m_all : mg "all" = none
  m_enumerate : mg "enumerate" = none
  m_isinstance : mg "isinstance" = none
  m_len : mg "len" = none
  m_list : mg "list" = none
  m_max : mg "max" = none
  m_min : mg "min" = none
  m_range : mg "range" = none
  m_reversed : mg "reversed" = none
  m_sorted : mg "sorted" = none
  m_str : mg "str" = none
  m_sum : mg "sum" = none
  m_PressError : mg "PressError" = some (.ref t.c_PressError)
  m_NoText : mg "NoText" = some (.ref t.c_NoText)
  m_NoPlace : mg "NoPlace" = some (.ref t.c_NoPlace)
  m_NoKnot : mg "NoKnot" = some (.ref t.c_NoKnot)
  m_NoSign : mg "NoSign" = some (.ref t.c_NoSign)
  x_NoKnot : PySem.W.excIn K t.c_NoKnot [.type "ValueError", .type "Exception", .type "BaseException", .type "object"] "ValueError.__new__" = true
  z_NoKnot : XT.ExcK K t.c_NoKnot
  x_NoPlace : PySem.W.excIn K t.c_NoPlace [.type "ValueError", .type "Exception", .type "BaseException", .type "object"] "ValueError.__new__" = true
  z_NoPlace : XT.ExcK K t.c_NoPlace
  x_NoText : PySem.W.excIn K t.c_NoText [.type "ValueError", .type "Exception", .type "BaseException", .type "object"] "ValueError.__new__" = true
  z_NoText : XT.ExcK K t.c_NoText
  i_NoText_PressError : PySem.W.kitOne K (.ref t.c_NoText) (.ref t.c_PressError) = some true
  it_L_refused_NoText_0 : PySem.W.kitAny K (.ref t.c_NoText) [.ref t.c_NoKnot, .ref t.c_NoPlace, .ref t.c_NoSign] = some false
  u_NoText_NoText : PySem.W.mroIn K t.c_NoText (.ref t.c_NoText) = some true
  bl : ∀ (s : Shared) (v : Value), BindsTo s t.fd_law ⟨[v], []⟩ [("script", v)]
section
variable {K : PySem.W.Frag}
abbrev fnx (x qual : Str) (st : Stmt) (kV doc pm : Value) (an : Option Addr) (cdv ct : Value) : FuncData := PySem.W.fnOf x qual (defArgs st) (defBody st) (defScope st) .none kV doc pm an cdv ct
def Fx (K : PySem.W.Frag) (x : Str) (st : Stmt) (a : Addr) (fd : FuncData) : Prop := Fun K x x st a fd ∧ PySem.W.nsIn K mainGlobals x = some (some (.ref a))
def Mx (K : PySem.W.Frag) (x qual : Str) (st : Stmt) (c a : Addr) (fd : FuncData) : Prop := Fun K x qual st a fd ∧ PySem.W.findIn K (.ref c) x = some (some (.ref a)) ∧ PySem.W.isFn K (.ref a) = true
theorem fx {x : Str} {st : Stmt} {a : Addr} {oc kV doc pm cdv ct : Value} {od an : Option Addr} {osl : Array (Option Value)} (n : PySem.W.nsIn K mainGlobals x = some (some (.ref a))) (l : K.lookup a = some ⟨oc, od, .func (PySem.W.fnOf x x (defArgs st) (defBody st) (defScope st) .none kV doc pm an cdv ct), osl⟩)
    (c : PySem.W.codeIn K cdv x = true) (k : PySem.W.keepIn K (.ref a) = true) : Fx K x st a (PySem.W.fnOf x x (defArgs st) (defBody st) (defScope st) .none kV doc pm an cdv ct) := ⟨fun_mk l c k, n⟩
theorem mx {x qual : Str} {st : Stmt} {b a : Addr} {oc kV doc pm cdv ct : Value} {od an : Option Addr} {osl : Array (Option Value)} (n : PySem.W.findIn K (.ref b) x = some (some (.ref a))) (i : PySem.W.isFn K (.ref a) = true) (l : K.lookup a = some ⟨oc, od, .func (PySem.W.fnOf x qual (defArgs st) (defBody st) (defScope st) .none kV doc pm an cdv ct), osl⟩)
    (c : PySem.W.codeIn K cdv qual = true) (k : PySem.W.keepIn K (.ref a) = true) : Mx K x qual st b a (PySem.W.fnOf x qual (defArgs st) (defBody st) (defScope st) .none kV doc pm an cdv ct) := ⟨fun_mk l c k, n, i⟩
variable {x qual : Str} {st : Stmt} {f : Addr} {fd : FuncData}
theorem b1 {p0 : Str} (F : Fun K x qual st f fd) (h : ∀ (kV doc pm : Value) (an : Option Addr) (cdv ct u0 : Value), bindArgs (fnx x qual st kV doc pm an cdv ct) ⟨[u0], []⟩ = pure [(p0, u0)]) : Binds K fd [p0] [] := F.binds fun _ _ _ _ _ _ us hl => match us, hl with | [_], _ => h ..
theorem b2 {p0 p1 : Str} (F : Fun K x qual st f fd) (h : ∀ (kV doc pm : Value) (an : Option Addr) (cdv ct u0 u1 : Value), bindArgs (fnx x qual st kV doc pm an cdv ct) ⟨[u0, u1], []⟩ = pure [(p0, u0), (p1, u1)]) : Binds K fd [p0, p1] [] := F.binds fun _ _ _ _ _ _ us hl => match us, hl with | [_, _], _ => h ..
theorem b3 {p0 p1 p2 : Str} (F : Fun K x qual st f fd) (h : ∀ (kV doc pm : Value) (an : Option Addr) (cdv ct u0 u1 u2 : Value), bindArgs (fnx x qual st kV doc pm an cdv ct) ⟨[u0, u1, u2], []⟩ = pure [(p0, u0), (p1, u1), (p2, u2)]) : Binds K fd [p0, p1, p2] [] := F.binds fun _ _ _ _ _ _ us hl => match us, hl with | [_, _, _], _ => h ..
theorem b4 {p0 p1 p2 p3 : Str} (F : Fun K x qual st f fd) (h : ∀ (kV doc pm : Value) (an : Option Addr) (cdv ct u0 u1 u2 u3 : Value), bindArgs (fnx x qual st kV doc pm an cdv ct) ⟨[u0, u1, u2, u3], []⟩ = pure [(p0, u0), (p1, u1), (p2, u2), (p3, u3)]) : Binds K fd [p0, p1, p2, p3] [] := F.binds fun _ _ _ _ _ _ us hl => match us, hl with | [_, _, _, _], _ => h ..
theorem b5 {p0 p1 p2 p3 p4 : Str} (F : Fun K x qual st f fd) (h : ∀ (kV doc pm : Value) (an : Option Addr) (cdv ct u0 u1 u2 u3 u4 : Value), bindArgs (fnx x qual st kV doc pm an cdv ct) ⟨[u0, u1, u2, u3, u4], []⟩ = pure [(p0, u0), (p1, u1), (p2, u2), (p3, u3), (p4, u4)]) : Binds K fd [p0, p1, p2, p3, p4] [] := F.binds fun _ _ _ _ _ _ us hl => match us, hl with | [_, _, _, _, _], _ => h ..
theorem b6 {p0 p1 p2 p3 p4 p5 : Str} (F : Fun K x qual st f fd) (h : ∀ (kV doc pm : Value) (an : Option Addr) (cdv ct u0 u1 u2 u3 u4 u5 : Value), bindArgs (fnx x qual st kV doc pm an cdv ct) ⟨[u0, u1, u2, u3, u4, u5], []⟩ = pure [(p0, u0), (p1, u1), (p2, u2), (p3, u3), (p4, u4), (p5, u5)]) : Binds K fd [p0, p1, p2, p3, p4, p5] [] := F.binds fun _ _ _ _ _ _ us hl => match us, hl with | [_, _, _, _, _, _], _ => h ..
theorem b0 (F : Fun K x qual st f fd) (h : ∀ (kV doc pm : Value) (an : Option Addr) (cdv ct : Value), bindArgs (fnx x qual st kV doc pm an cdv ct) ⟨[], []⟩ = pure []) : Binds K fd [] [] := F.binds fun _ _ _ _ _ _ us hl => match us, hl with | [], _ => h ..
theorem bl0 {p0 : Str} (F : Fun K x qual st f fd) (h : ∀ (kV doc pm : Value) (an : Option Addr) (cdv ct u0 : Value), bindArgs (fnx x qual st kV doc pm an cdv ct) ⟨[u0], []⟩ = pure [(p0, u0)]) (s : Shared) (v : Value) : BindsTo s fd ⟨[v], []⟩ [(p0, v)] := by
  obtain ⟨oc, od, kV, doc, pm, an, cdv, ct, osl, rfl, lk, hcd⟩ := F.ex
  exact .of_eq (h ..)
end
theorem txt_mk {K : PySem.W.Frag} {h : Heap} {mg : Str → Option Value} (X : K.In h) (G : h.Ns mainGlobals mg)
    {a_checked : Addr} {fd_checked : FuncData}
    {a_rank : Addr} {fd_rank : FuncData}
    {a_elders_at : Addr} {fd_elders_at : FuncData}
    {a_elders : Addr} {fd_elders : FuncData}
    {a_is_knot : Addr} {fd_is_knot : FuncData}
    {a_checked_knot : Addr} {fd_checked_knot : FuncData}
    {a_path_knots : Addr} {fd_path_knots : FuncData}
    {a_no_counts : Addr} {fd_no_counts : FuncData}
    {a_count_table : Addr} {fd_count_table : FuncData}
    {a_counts : Addr} {fd_counts : FuncData}
    {a_in_order : Addr} {fd_in_order : FuncData}
    {a_knots : Addr} {fd_knots : FuncData}
    {a_L_cell_at : Addr} {fd_L_cell_at : FuncData}
    {a_L_signs : Addr} {fd_L_signs : FuncData}
    {a_L_frame : Addr} {fd_L_frame : FuncData}
    {a_L_text : Addr} {fd_L_text : FuncData}
    {a_L_ahead : Addr} {fd_L_ahead : FuncData}
    {a_L_rising : Addr} {fd_L_rising : FuncData}
    {a_L_parted : Addr} {fd_L_parted : FuncData}
    {a_L_refused : Addr} {fd_L_refused : FuncData}
    {a_law : Addr} {fd_law : FuncData}
    {c_PressError : Addr}
    {c_NoText : Addr}
    {c_NoPlace : Addr}
    {c_NoKnot : Addr}
    {c_NoSign : Addr}
    (f_checked : Fx K "checked" s_checked a_checked fd_checked)
    (f_rank : Fx K "rank" s_rank a_rank fd_rank)
    (f_elders_at : Fx K "elders_at" s_elders_at a_elders_at fd_elders_at)
    (f_elders : Fx K "elders" s_elders a_elders fd_elders)
    (f_is_knot : Fx K "is_knot" s_is_knot a_is_knot fd_is_knot)
    (f_checked_knot : Fx K "checked_knot" s_checked_knot a_checked_knot fd_checked_knot)
    (f_path_knots : Fx K "path_knots" s_path_knots a_path_knots fd_path_knots)
    (f_no_counts : Fx K "no_counts" s_no_counts a_no_counts fd_no_counts)
    (f_count_table : Fx K "count_table" s_count_table a_count_table fd_count_table)
    (f_counts : Fx K "counts" s_counts a_counts fd_counts)
    (f_in_order : Fx K "in_order" s_in_order a_in_order fd_in_order)
    (f_knots : Fx K "knots" s_knots a_knots fd_knots)
    (f_L_cell_at : Fx K "_law_cell_at" s_L_cell_at a_L_cell_at fd_L_cell_at)
    (f_L_signs : Fx K "_law_signs" s_L_signs a_L_signs fd_L_signs)
    (f_L_frame : Fx K "_law_frame" s_L_frame a_L_frame fd_L_frame)
    (f_L_text : Fx K "_law_text" s_L_text a_L_text fd_L_text)
    (f_L_ahead : Fx K "_law_ahead" s_L_ahead a_L_ahead fd_L_ahead)
    (f_L_rising : Fx K "_law_rising" s_L_rising a_L_rising fd_L_rising)
    (f_L_parted : Fx K "_law_parted" s_L_parted a_L_parted fd_L_parted)
    (f_L_refused : Fx K "_law_refused" s_L_refused a_L_refused fd_L_refused)
    (f_law : Fx K "law" s_law a_law fd_law)
    (n_all : PySem.W.nsIn K mainGlobals "all" = some none)
    (n_enumerate : PySem.W.nsIn K mainGlobals "enumerate" = some none)
    (n_isinstance : PySem.W.nsIn K mainGlobals "isinstance" = some none)
    (n_len : PySem.W.nsIn K mainGlobals "len" = some none)
    (n_list : PySem.W.nsIn K mainGlobals "list" = some none)
    (n_max : PySem.W.nsIn K mainGlobals "max" = some none)
    (n_min : PySem.W.nsIn K mainGlobals "min" = some none)
    (n_range : PySem.W.nsIn K mainGlobals "range" = some none)
    (n_reversed : PySem.W.nsIn K mainGlobals "reversed" = some none)
    (n_sorted : PySem.W.nsIn K mainGlobals "sorted" = some none)
    (n_str : PySem.W.nsIn K mainGlobals "str" = some none)
    (n_sum : PySem.W.nsIn K mainGlobals "sum" = some none)
    (n_PressError : PySem.W.nsIn K mainGlobals "PressError" = some (some (.ref c_PressError)))
    (n_NoText : PySem.W.nsIn K mainGlobals "NoText" = some (some (.ref c_NoText)))
    (n_NoPlace : PySem.W.nsIn K mainGlobals "NoPlace" = some (some (.ref c_NoPlace)))
    (n_NoKnot : PySem.W.nsIn K mainGlobals "NoKnot" = some (some (.ref c_NoKnot)))
    (n_NoSign : PySem.W.nsIn K mainGlobals "NoSign" = some (some (.ref c_NoSign)))
    (x_NoKnot : PySem.W.excIn K c_NoKnot [.type "ValueError", .type "Exception", .type "BaseException", .type "object"] "ValueError.__new__" = true)
    (zga_NoKnot : PySem.W.findIn K (.ref c_NoKnot) "__getattribute__" = some (some (.builtin "BaseException.__getattribute__")))
    (zgt_NoKnot : PySem.W.findIn K (.ref c_NoKnot) "__getattr__" = some none)
    (zcl_NoKnot : PySem.W.findIn K (.ref c_NoKnot) "__class__" = some (some (.builtin "object.__class__")))
    (zob_NoKnot : PySem.W.mroIn K c_NoKnot (.type "object") = some true)
    (zbe_NoKnot : PySem.W.mroIn K c_NoKnot (.type "BaseException") = some true)
    (x_NoPlace : PySem.W.excIn K c_NoPlace [.type "ValueError", .type "Exception", .type "BaseException", .type "object"] "ValueError.__new__" = true)
    (zga_NoPlace : PySem.W.findIn K (.ref c_NoPlace) "__getattribute__" = some (some (.builtin "BaseException.__getattribute__")))
    (zgt_NoPlace : PySem.W.findIn K (.ref c_NoPlace) "__getattr__" = some none)
    (zcl_NoPlace : PySem.W.findIn K (.ref c_NoPlace) "__class__" = some (some (.builtin "object.__class__")))
    (zob_NoPlace : PySem.W.mroIn K c_NoPlace (.type "object") = some true)
    (zbe_NoPlace : PySem.W.mroIn K c_NoPlace (.type "BaseException") = some true)
    (x_NoText : PySem.W.excIn K c_NoText [.type "ValueError", .type "Exception", .type "BaseException", .type "object"] "ValueError.__new__" = true)
    (zga_NoText : PySem.W.findIn K (.ref c_NoText) "__getattribute__" = some (some (.builtin "BaseException.__getattribute__")))
    (zgt_NoText : PySem.W.findIn K (.ref c_NoText) "__getattr__" = some none)
    (zcl_NoText : PySem.W.findIn K (.ref c_NoText) "__class__" = some (some (.builtin "object.__class__")))
    (zob_NoText : PySem.W.mroIn K c_NoText (.type "object") = some true)
    (zbe_NoText : PySem.W.mroIn K c_NoText (.type "BaseException") = some true)
    (i_NoText_PressError : PySem.W.kitOne K (.ref c_NoText) (.ref c_PressError) = some true)
    (it_L_refused_NoText_0 : PySem.W.kitAny K (.ref c_NoText) [.ref c_NoKnot, .ref c_NoPlace, .ref c_NoSign] = some false)
    (u_NoText_NoText : PySem.W.mroIn K c_NoText (.ref c_NoText) = some true)
    : ∃ t, Txt K mg t := by
  exact ⟨⟨_, _, _, _, _, _, _, _, _, _, _, _, _, _, _, _, _, _, _, _, _, _, _, _, _, _, _, _, _, _, _, _, _, _, _, _, _, _, _, _, _, _, _, _, _, _, _⟩, ⟨
    f_checked.1, b2 f_checked.1 fun _ _ _ _ _ _ _ _ => rfl, PySem.W.mg_of X G f_checked.2,
    f_rank.1, b2 f_rank.1 fun _ _ _ _ _ _ _ _ => rfl, PySem.W.mg_of X G f_rank.2,
    f_elders_at.1, b3 f_elders_at.1 fun _ _ _ _ _ _ _ _ _ => rfl, PySem.W.mg_of X G f_elders_at.2,
    f_elders.1, b3 f_elders.1 fun _ _ _ _ _ _ _ _ _ => rfl, PySem.W.mg_of X G f_elders.2,
    f_is_knot.1, b2 f_is_knot.1 fun _ _ _ _ _ _ _ _ => rfl, PySem.W.mg_of X G f_is_knot.2,
    f_checked_knot.1, b2 f_checked_knot.1 fun _ _ _ _ _ _ _ _ => rfl, PySem.W.mg_of X G f_checked_knot.2,
    f_path_knots.1, b3 f_path_knots.1 fun _ _ _ _ _ _ _ _ _ => rfl, PySem.W.mg_of X G f_path_knots.2,
    f_no_counts.1, b1 f_no_counts.1 fun _ _ _ _ _ _ _ => rfl, PySem.W.mg_of X G f_no_counts.2,
    f_count_table.1, b2 f_count_table.1 fun _ _ _ _ _ _ _ _ => rfl, PySem.W.mg_of X G f_count_table.2,
    f_counts.1, b3 f_counts.1 fun _ _ _ _ _ _ _ _ _ => rfl, PySem.W.mg_of X G f_counts.2,
    f_in_order.1, b2 f_in_order.1 fun _ _ _ _ _ _ _ _ => rfl, PySem.W.mg_of X G f_in_order.2,
    f_knots.1, b2 f_knots.1 fun _ _ _ _ _ _ _ _ => rfl, PySem.W.mg_of X G f_knots.2,
    f_L_cell_at.1, b2 f_L_cell_at.1 fun _ _ _ _ _ _ _ _ => rfl, PySem.W.mg_of X G f_L_cell_at.2,
    f_L_signs.1, b0 f_L_signs.1 fun _ _ _ _ _ _ => rfl, PySem.W.mg_of X G f_L_signs.2,
    f_L_frame.1, b1 f_L_frame.1 fun _ _ _ _ _ _ _ => rfl, PySem.W.mg_of X G f_L_frame.2,
    f_L_text.1, b3 f_L_text.1 fun _ _ _ _ _ _ _ _ _ => rfl, PySem.W.mg_of X G f_L_text.2,
    f_L_ahead.1, b3 f_L_ahead.1 fun _ _ _ _ _ _ _ _ _ => rfl, PySem.W.mg_of X G f_L_ahead.2,
    f_L_rising.1, b2 f_L_rising.1 fun _ _ _ _ _ _ _ _ => rfl, PySem.W.mg_of X G f_L_rising.2,
    f_L_parted.1, b4 f_L_parted.1 fun _ _ _ _ _ _ _ _ _ _ => rfl, PySem.W.mg_of X G f_L_parted.2,
    f_L_refused.1, b2 f_L_refused.1 fun _ _ _ _ _ _ _ _ => rfl, PySem.W.mg_of X G f_L_refused.2,
    f_law.1, b1 f_law.1 fun _ _ _ _ _ _ _ => rfl, PySem.W.mg_of X G f_law.2,
    PySem.W.mg_none_of X G n_all,
    PySem.W.mg_none_of X G n_enumerate,
    PySem.W.mg_none_of X G n_isinstance,
    PySem.W.mg_none_of X G n_len,
    PySem.W.mg_none_of X G n_list,
    PySem.W.mg_none_of X G n_max,
    PySem.W.mg_none_of X G n_min,
    PySem.W.mg_none_of X G n_range,
    PySem.W.mg_none_of X G n_reversed,
    PySem.W.mg_none_of X G n_sorted,
    PySem.W.mg_none_of X G n_str,
    PySem.W.mg_none_of X G n_sum,
    PySem.W.mg_of X G n_PressError,
    PySem.W.mg_of X G n_NoText,
    PySem.W.mg_of X G n_NoPlace,
    PySem.W.mg_of X G n_NoKnot,
    PySem.W.mg_of X G n_NoSign,
    x_NoKnot, ⟨zga_NoKnot, zgt_NoKnot, zcl_NoKnot, zob_NoKnot, zbe_NoKnot, cls_of_mro zob_NoKnot⟩,
    x_NoPlace, ⟨zga_NoPlace, zgt_NoPlace, zcl_NoPlace, zob_NoPlace, zbe_NoPlace, cls_of_mro zob_NoPlace⟩,
    x_NoText, ⟨zga_NoText, zgt_NoText, zcl_NoText, zob_NoText, zbe_NoText, cls_of_mro zob_NoText⟩,
    i_NoText_PressError,
    it_L_refused_NoText_0,
    u_NoText_NoText,
    bl0 f_law.1 fun _ _ _ _ _ _ _ => rfl⟩⟩
section
variable {P : Program} {w : World} {K : PySem.W.Frag} {mg : Str → Option Value} {base : Heap} {t : Adr}
seal L2.PE L2.PA L2.PS L2.PSs L2.PT L2.PW L2.PG L2.PGs L2.PI L2.PIfs L2.PF L2.PFs L2.PO
local macro_rules | `(tactic| array_mem_dec) => `(tactic| ((first | show SqL ‹PySem.W.Frag› _ _ _ | show SqT ‹PySem.W.Frag› _ _ _ | skip); first | with_reducible assumption | with_reducible exact upd_same | with_reducible exact SqT.of upd_same | with_reducible exact SqL.of upd_same | with_reducible exact Same.refl _ | (with_reducible apply new_at; (focus with_reducible assumption); (focus array_mem_dec)) | (with_reducible apply new_tup; (focus with_reducible assumption); (focus array_mem_dec)) | (with_reducible apply new_lst; (focus with_reducible assumption); (focus array_mem_dec)) | (with_reducible apply new_same; (focus with_reducible assumption); (focus array_mem_dec)) | (with_reducible apply ne_at; (focus with_reducible assumption); (focus array_mem_dec)) | (with_reducible apply ne_tup; (focus with_reducible assumption); (focus array_mem_dec)) | (with_reducible apply ne_lst; (focus with_reducible assumption); (focus array_mem_dec)) | (with_reducible apply over_same; (focus with_reducible assumption); (focus array_mem_dec)) | (with_reducible apply same_at; (focus with_reducible assumption); (focus array_mem_dec)) | (with_reducible apply same_tup; (focus with_reducible assumption); (focus array_mem_dec)) | (with_reducible apply same_lst; (focus with_reducible assumption); (focus array_mem_dec)) | (with_reducible apply SqT.of; (focus array_mem_dec)) | (with_reducible apply SqL.of; (focus array_mem_dec))))
local macro_rules | `(tactic| array_get_dec) => `(tactic| first
  | refine ⟨_, rfl, ?_⟩
  | refine ⟨_, _, rfl, rfl, cdivK (by decide) (by decide), ?_⟩
  | refine ⟨_, _, rfl, rfl, (by show (0 : Int) < _; decide), ?_⟩
  | refine ⟨_, _, rfl, rfl, ⟨by decide, by decide, by decide⟩, ?_⟩
  | refine Or.inl ⟨_, _, rfl, rfl, mulL (by decide) (by decide), ?_⟩
  | refine Or.inl ⟨_, _, rfl, rfl, mulR (by decide) (by decide), ?_⟩
  | refine ⟨_, _, rfl, rfl, ?_⟩
  | refine Or.inl ⟨_, _, rfl, rfl, ?_⟩
  | refine Or.inl ⟨rfl, ?_⟩
  | refine Or.inr (Or.inl ⟨_, _, _, _, rfl, rfl, (by array_mem_dec), (by rfl), ?_⟩)
  | refine Or.inl ⟨_, _, _, _, rfl, rfl, (by array_mem_dec), (by rfl), ?_⟩
  | refine ⟨_, _, rfl, Or.inr ⟨_, (by array_mem_dec), rfl⟩, ?_⟩
  | refine ⟨_, _, rfl, Or.inl ⟨_, (by array_mem_dec), rfl⟩, ?_⟩
  | refine ⟨_, _, rfl, lenvS (by first | assumption | (rw [sizeLine_eq]; omega)), ?_⟩
  | refine Or.inr (Or.inl ⟨_, _, rfl, rfl, (by simp only [List.length_append, List.length_cons, List.length_nil, List.length_take, List.length_drop, sizeLine_eq]; omega), ?_⟩)
  | refine Or.inr ⟨_, _, rfl, rfl, (by simp only [List.length_append, List.length_cons, List.length_nil, List.length_take, List.length_drop, sizeLine_eq]; omega), ?_⟩
  | refine ⟨_, _, rfl, ?_⟩
  | refine ⟨_, _, _, rfl, ?_⟩)
def cutN (ns : List Int) (lo hi : Option Int) : List Int := (ns.drop (HT.sIx ns.length 0 lo)).take (HT.sIx ns.length ns.length hi - HT.sIx ns.length 0 lo)
theorem cut_ints (ns : List Int) (lo hi : Option Int) : cutV (ns.map V.int) lo hi = (cutN ns lo hi).map V.int := by
  unfold cutV cutN
  rw [List.length_map, List.map_take, List.map_drop]
theorem cutN_len (ns : List Int) (lo hi : Option Int) : (cutN ns lo hi).length ≤ ns.length := by
  unfold cutN
  rw [List.length_take, List.length_drop]; omega
theorem cut_mid (l : List Nat) {a b : Nat} (h1 : a ≤ b) (h2 : b ≤ l.length) : cutL l (some (a : Int)) (some (b : Int)) = (l.drop a).take (b - a) := by
  unfold cutL
  have e : ∀ (k d : Nat), k ≤ l.length → HT.sIx l.length d (some (k : Int)) = k := fun k d hk => by
    unfold HT.sIx
    simp only
    split <;> (try split) <;> omega
  rw [e a 0 (by omega), e b l.length h2]
theorem sign_at {l : List Nat} {i : Nat} {x : V} (h : (l.map fun c => vt [c])[i]? = some x) : ∃ c, l[i]? = some c ∧ x = vt [c] := by
  rw [List.getElem?_map] at h
  cases q : l[i]? with
  | none => rw [q] at h; cases h
  | some c => rw [q] at h; exact ⟨c, rfl, (Option.some.inj h).symm⟩
theorem int_at {ns : List Int} {i : Nat} {x : V} (h : (ns.map V.int)[i]? = some x) : ∃ n, ns[i]? = some n ∧ x = .int n := by
  rw [List.getElem?_map] at h
  cases q : ns[i]? with
  | none => rw [q] at h; cases h
  | some c => rw [q] at h; exact ⟨c, rfl, (Option.some.inj h).symm⟩
theorem at_mod {α : Type} (xs : List α) (hx : 0 < xs.length) (n : Int) : ∃ v, v ∈ xs ∧ atI xs (n % (xs.length : Int)) = some v := by
  have m1 := Int.emod_nonneg n (show (xs.length : Int) ≠ 0 by omega)
  have m2 := Int.emod_lt_of_pos n (show (0 : Int) < xs.length by omega)
  obtain ⟨j, hj⟩ : ∃ j : Nat, n % (xs.length : Int) = (j : Int) := ⟨_, (Int.toNat_of_nonneg m1).symm⟩
  have hl : j < xs.length := by omega
  rw [hj]
  exact ⟨xs[j], List.getElem_mem hl, atI_nat (List.getElem?_eq_getElem hl)⟩
theorem at_back {α : Type} (xs : List α) {k : Int} (h0 : 0 < k) (h : k ≤ xs.length) : ∃ v, v ∈ xs ∧ atI xs (-k) = some v := by
  have hl : xs.length - k.toNat < xs.length := by omega
  refine ⟨xs[xs.length - k.toNat], List.getElem_mem hl, ?_⟩
  unfold atI ixN
  rw [if_neg (by omega), if_pos (by omega)]
  show xs[(-k + (xs.length : Int)).toNat]? = _
  rw [show (-k + (xs.length : Int)).toNat = xs.length - k.toNat by omega, List.getElem?_eq_getElem hl]
def cellN (ns : List Int) (k : Int) : Int := ns.getD k.toNat 0
theorem cellN_small {ns : List Int} (hb : ∀ n ∈ ns, Small n) (k : Int) : Small (cellN ns k) := by
  unfold cellN
  rw [List.getD_eq_getElem?_getD]
  cases h : ns[k.toNat]? with
  | none => exact small_zero
  | some v => exact hb v (List.mem_of_getElem? h)
def spCell (K : PySem.W.Frag) : Sp := fun vs H Q _ => ∃ (a : Addr) (ns : List Int) (k : Int), vs = [.ref a, .int k] ∧ SqL K H a (ns.map V.int) ∧ 0 ≤ k ∧ Q (.int (cellN ns k)) H
theorem ok_L_cell_at (T : Txt K mg t) : FnOk P w K mg base (CX1 P w) 1 t.a_L_cell_at t.fd_L_cell_at ["script", "k"] (spCell K) := by
  refine T.F_L_cell_at.okn (k := 0) sc_L_cell_at (fun vs H Q E h => ?_) (fun cdv A outer s H vs Q E hr h => ?_)
  · obtain ⟨a, ns, k, rfl, _⟩ := h; rfl
  obtain ⟨a, ns, k, rfl, hS, h0, q⟩ := h
  refine ⟨_, (pss_cons (ps_if (pt_cmpR oLt (pv 1) (pe_callB call_len rfl T.m_len bt_len (pa_cons (pv 0) pa_nil)) (nomark _)) (pss_one (ps_ret (pe_ix ixAny (pv 0) (pv 1) (fun _ _ => rfl)))) pss_nil)
    (pss_one (ps_ret pe_int))), ?_⟩
  repeat array_get_dec
  refine if2 (fun c => ?_) (fun c => ?_)
  · rw [List.length_map] at c
    have hk : k.toNat < ns.length := by omega
    have e : atI (ns.map V.int) ((k.toNat : Nat) : Int) = some (.int ns[k.toNat]) := atI_nat (by rw [List.getElem?_map, List.getElem?_eq_getElem hk] <;> rfl)
    rw [show ((k.toNat : Nat) : Int) = k by omega] at e
    refine ⟨_, rfl, _, rfl, .inl ⟨_, _, _, _, rfl, rfl, hS, e, ?_⟩⟩
    unfold cellN at q
    rw [List.getD_eq_getElem?_getD, List.getElem?_eq_getElem hk] at q; exact q
  · rw [List.length_map] at c
    unfold cellN at q
    rw [List.getD_eq_getElem?_getD, List.getElem?_eq_none (by omega)] at q; exact q
def spChecked (K : PySem.W.Frag) (C : Addr) : Sp := fun vs H Q E => ∃ p L d l, vs = [.ref p, vt l] ∧ SqT K H p [vt L, d] ∧ (∀ c ∈ l, c < 16 ^ 8) ∧ ((∀ c ∈ l, c ∈ L) → Q (vt l) H) ∧ ((∃ c ∈ l, c ∉ L) → E (.ref C) none H)
theorem ok_checked (T : Txt K mg t) : FnOk P w K mg base (CX1 P w) 1 t.a_checked t.fd_checked ["frame", "text"] (spChecked K t.c_NoText) := by
  refine T.F_checked.okx (k := 0) sc_checked (fun vs H Q E h => ?_) (fun cdv A outer s H vs Q E hr h => ?_)
  · obtain ⟨p, L, d, l, rfl, _⟩ := h; rfl
  obtain ⟨p, L, d, l, rfl, hS, hc, h1, h2⟩ := h
  refine ⟨_, (pss_cons (ps_set (i := 2) sc_checked.nd rfl (Or.inl rfl) (pe_ix ixAny (pv 0) pe_int (fun _ _ => rfl)))
    (pss_cons (ps_for PassesOwn.leaving rfl (piAny (pv 1)) (pg_name (i := 3) sc_checked.nd rfl (Or.inl rfl)) (pss_one (ps_if (pt_cmpR oNotIn (pv 3) (pv 2) (by with_unfolding_all rfl)) (pss_one (ps_raise raises1 rfl rfl T.m_NoText T.x_NoText PySem.F.excBase_ValueError (pa_cons (pe_joined (pfs_cons (pf_repr (pv 3)) (pfs_cons pf_str pfs_nil))) pa_nil))) pss_nil)))
    (pss_one (ps_ret (pv 1))))), ?_⟩
  refine ⟨_, rfl, .inr (.inl ⟨p, _, 0, _, rfl, rfl, hS, rfl, ?_⟩)⟩
  refine ⟨_, rfl, .inr (.inr ⟨_, rfl, ?_⟩)⟩
  refine for_walk (walk_tx l) (fun i σ H' => ∃ r, σ = [some (.ref p), some (vt l), some (vt L), r] ∧ H' = H ∧ ∀ c ∈ l.take i, c ∈ L) ⟨_, rfl, rfl, fun c hc => nomatch hc⟩ (fun _ _ _ _ _ => trivial) ?_ ?_
  · rintro i x _ _ hx ⟨r, rfl, rfl, hL⟩
    rw [List.getElem?_map] at hx
    cases hi : l[i]? with
    | none => rw [hi] at hx; cases hx
    | some c =>
      rw [hi] at hx
      cases (show some (vt [c]) = some x from hx)
      have hm : c ∈ l := List.mem_of_getElem? hi
      refine ⟨_, rfl, _, rfl, .inl ⟨c, L, rfl, rfl, _, rfl, ?_⟩⟩
      by_cases z : c ∈ L
      · rw [if_pos rfl, decide_eq_true z]
        refine iteF ⟨_, rfl, rfl, fun c' hc' => ?_⟩
        rw [List.take_add_one, hi] at hc'
        rcases List.mem_append.mp hc' with q | q
        · exact hL c' q
        · have : c' = c := by simpa using q
          rw [this]; exact z
      · rw [if_pos rfl, decide_eq_false z]
        have ls : (Str.ofString " is no letter of the frame").length = 26 := by decide +kernel
        refine iteT ⟨_, rfl, _, rfl, ⟨by show 1 ≤ 100000; decide, fun c' hc' => ?_⟩, fun y hy => ?_⟩
        · have : c' = c := by simpa using (show c' ∈ [c] from hc')
          rw [this]; exact hc c hm
        have hy' : y.length ≤ 12 := hy
        have e0 : (Str.empty ++ y).length ≤ 12 := by rw [Str.length_append]; show 0 + y.length ≤ 12; omega
        have e1 : (Str.empty ++ y ++ Str.ofString " is no letter of the frame").length ≤ sizeLine := by rw [Str.length_append, ls, sizeLine_eq]; omega
        exact ⟨Nat.le_trans e0 (by decide), e1, e1, (by show 1 ≤ sizeLine; decide), h2 ⟨c, hm, z⟩⟩
  · rintro _ _ ⟨r, rfl, rfl, hL⟩
    rw [List.length_map, List.take_length] at hL
    exact ⟨_, rfl, h1 hL⟩
def eldL (f d : Nat) (l : List Nat) (k : Nat) : List Nat := (List.range d).map fun j => if j < k then l.getD (k - 1 - j) 0 else f
theorem eldL_len (f d : Nat) (l : List Nat) (k : Nat) : (eldL f d l k).length = d := by unfold eldL; rw [List.length_map, List.length_range]
theorem eldL_at (f d : Nat) (l : List Nat) (k : Nat) {j : Nat} (h : j < d) : (eldL f d l k)[j]? = some (if j < k then l.getD (k - 1 - j) 0 else f) := by
  unfold eldL; rw [List.getElem?_map, List.getElem?_range h]; rfl
theorem eldL_eq (f d : Nat) (l : List Nat) {k : Nat} (hk : k ≤ l.length) : ((l.drop (k - d)).take (k - (k - d))).reverse ++ List.replicate (d - (k - (k - d))) f = eldL f d l k := by
  have hlen : ((l.drop (k - d)).take (k - (k - d))).length = k - (k - d) := by rw [List.length_take, List.length_drop]; omega
  refine List.ext_getElem? fun j => ?_
  by_cases hj : j < d
  · rw [eldL_at f d l k hj]
    by_cases hjk : j < k
    · rw [if_pos hjk, List.getElem?_append_left (by rw [List.length_reverse, hlen]; omega), List.getElem?_reverse (by rw [hlen]; omega), hlen, List.getElem?_take_of_lt (by omega), List.getElem?_drop, List.getD_eq_getElem?_getD]
      rw [show k - d + (k - (k - d) - 1 - j) = k - 1 - j by omega, List.getElem?_eq_getElem (by omega)]
      rfl
    · rw [if_neg hjk, List.getElem?_append_right (by rw [List.length_reverse, hlen]; omega), List.length_reverse, hlen, List.getElem?_replicate, if_pos (by omega)]
  · rw [List.getElem?_eq_none (by rw [List.length_append, List.length_reverse, hlen, List.length_replicate]; omega), List.getElem?_eq_none (by rw [eldL_len]; omega)]
theorem at_zero {α : Type} {f : α} {L : List α} : atI (f :: L) 0 = some f := atI_nat (j := 0) rfl
theorem flatten_ones (l : List Nat) : (l.map fun c => [c]).flatten = l := by
  induction l with
  | nil => rfl
  | cons c r ih => rw [List.map_cons, List.flatten_cons, ih]; rfl
theorem rep_ones (n c : Nat) : (List.replicate n [c]).flatten = List.replicate n c := by
  induction n with
  | zero => rfl
  | succ n ih => rw [List.replicate_succ, List.flatten_cons, ih]; rfl
theorem str_nil : V.str (Str.ofString "") = vt [] := congrArg V.str (by decide +kernel)
def spEldAt (K : PySem.W.Frag) : Sp := fun vs H Q _ => ∃ (p : Addr) (f : Nat) (L : List Nat) (d k : Nat) (l : List Nat), vs = [.ref p, vt l, .int k] ∧ SqT K H p [vt (f :: L), .int d] ∧ (f :: L).length ≤ 100 ∧ d ≤ 6 ∧ l.length ≤ 1000 ∧ k ≤ l.length ∧ Q (vt (eldL f d l k)) H
theorem ok_elders_at (T : Txt K mg t) : FnOk P w K mg base (CX1 P w) 1 t.a_elders_at t.fd_elders_at ["frame", "text", "at"] (spEldAt K) := by
  refine T.F_elders_at.okn (k := 0) sc_elders_at (fun vs H Q E h => ?_) (fun cdv A outer s H vs Q E hr h => ?_)
  · obtain ⟨p, f, L, d, k, l, rfl, _⟩ := h; rfl
  obtain ⟨p, f, L, d, k, l, rfl, hF, hL, hd, hl, hk, q⟩ := h
  have zL : (f :: L).length ≤ sizeLine := by rw [sizeLine_eq]; omega
  have zl : l.length ≤ sizeLine := by rw [sizeLine_eq]; omega
  refine ⟨_, (pss_cons (ps_set (i := 3) sc_elders_at.nd rfl (Or.inl rfl) (pe_ix ixAny (pe_ix ixAny (pv 0) pe_int (fun _ _ => rfl)) pe_int (fun _ _ => rfl)))
    (pss_cons (ps_set (i := 4) sc_elders_at.nd rfl (Or.inl rfl) (pe_ix ixAny (pv 0) pe_int (fun _ _ => rfl)))
    (pss_cons (ps_set (i := 5) sc_elders_at.nd rfl (Or.inl rfl) (pe_slice slAny (pv 1) (po_some (pe_callB (call_max2 rfl) rfl T.m_max bt_max (PAs.h (pas_cons pe_int (pas_cons (pe_op op_sub (pv 2) (pv 4)) pas_nil))))) (po_some (pv 2))))
    (pss_one (ps_ret (pe_op oAddN (pe_joinRev rfl rfl T.m_reversed bt_reversed pe_str (pv 5)) (pe_op oMulN (pv 3) (pe_op op_sub (pv 4) (pe_callB call_len rfl T.m_len bt_len (pa_cons (pv 5) pa_nil)))))))))), ?_⟩
  repeat array_get_dec
  refine ixS zL at_zero ?_
  repeat array_get_dec
  refine .inr (cutT zl ?_)
  have e : (if ((k : Int) - d) > 0 then ((k : Int) - d) else 0) = ((k - d : Nat) : Int) := by split <;> omega
  try dsimp (config := { proj := false, eta := false, zeta := false, iota := false }) only [tNil, tC]
  rw [e, cut_mid l (by omega) hk]
  have hlen : ((l.drop (k - d)).take (k - (k - d))).length = k - (k - d) := by rw [List.length_take, List.length_drop]; omega
  generalize hn : (l.drop (k - d)).take (k - (k - d)) = near at hlen ⊢
  refine ⟨[], str_nil, ?_⟩
  refine ⟨_, rfl, near, rfl, ⟨by omega, by decide⟩, ?_⟩
  rw [between_nil, flatten_ones]
  have zn : near.length ≤ sizeLine := by rw [sizeLine_eq]; omega
  repeat array_get_dec
  rw [rep_ones]
  refine .inr (.inl (catX ?_ ?_))
  · rw [List.length_reverse, List.length_replicate, sizeLine_eq]; omega
  · rw [show ((d : Int) - (near.length : Int)).toNat = d - (k - (k - d)) by omega, ← hn, eldL_eq f d l hk]; exact q
def spEld (K : PySem.W.Frag) (C1 C2 : Addr) : Sp := fun vs H Q E => ∃ (p : Addr) (f : Nat) (L : List Nat) (d : Nat) (k : Int) (l : List Nat), vs = [.ref p, vt l, .int k] ∧ SqT K H p [vt (f :: L), .int d] ∧ (f :: L).length ≤ 100 ∧ d ≤ 6 ∧ l.length ≤ 1000 ∧ (∀ c ∈ l, c < 16 ^ 8) ∧
  ((∃ c ∈ l, c ∉ f :: L) → E (.ref C1) none H) ∧ ((∀ c ∈ l, c ∈ f :: L) → (¬ (0 ≤ k ∧ k ≤ l.length) → E (.ref C2) none H) ∧ (0 ≤ k → k ≤ l.length → Q (vt (eldL f d l k.toNat)) H))
theorem ok_elders (T : Txt K mg t) : FnOk P w K mg base (CX1 P w) 2 t.a_elders t.fd_elders ["frame", "text", "at"] (spEld K t.c_NoText t.c_NoPlace) := by
  refine T.F_elders.okx (k := 1) sc_elders (fun vs H Q E h => ?_) (fun cdv A outer s H vs Q E hr h => ?_)
  · obtain ⟨p, f, L, d, k, l, rfl, _⟩ := h; rfl
  obtain ⟨p, f, L, d, k, l, rfl, hF, hL, hd, hl, hc, q1, q2⟩ := h
  have G_checked := ok_checked (P := P) (w := w) (base := base) T
  have G_elders_at := ok_elders_at (P := P) (w := w) (base := base) T
  have zl : l.length ≤ sizeLine := by rw [sizeLine_eq]; omega
  refine ⟨_, (pss_cons (ps_expr (pe_call G_checked hr rfl T.m_checked T.F_checked.kp T.b_checked .nil passes1 (PAs.h (pas_cons (pv 0) (pas_cons (pv 1) pas_nil)))))
    (pss_cons (ps_if (pt_not (pt_chain oLeA oLeA pe_int (pv 2) (pe_callB call_len rfl T.m_len bt_len (pa_cons (pv 1) pa_nil)))) (pss_one (ps_raise raises1 rfl rfl T.m_NoPlace T.x_NoPlace PySem.F.excBase_ValueError (pa_cons pe_str pa_nil))) pss_nil)
    (pss_one (ps_ret (pe_call G_elders_at hr rfl T.m_elders_at T.F_elders_at.kp T.b_elders_at .nil pass1 (PAs.h (pas_cons (pv 0) (pas_cons (pv 1) (pas_cons (pv 2) pas_nil))))))))), ?_⟩
  refine ⟨_, rfl, _, rfl, p, f :: L, _, l, rfl, hF, hc, fun hall => ?_, fun h => ?_⟩
  · obtain ⟨q2, q3⟩ := q2 hall
    repeat array_get_dec
    refine if2 (fun c1 => ?_) (fun c1 => ?_)
    · repeat array_get_dec
      refine ifn2 (fun c2 => ?_) (fun c2 => ?_)
      · exact ⟨by decide, q2 (by omega)⟩
      · refine ⟨_, rfl, _, rfl, _, rfl, p, f, L, d, k.toNat, l, by rw [Int.toNat_of_nonneg c1]; rfl, hF, hL, hd, hl, by omega, q3 c1 c2⟩
    · repeat array_get_dec
      exact ⟨by decide, q2 (by omega)⟩
  · exact q1 h
theorem ite2' {c A B : Prop} [Decidable c] (h2 : ¬ c → B) (h1 : c → A) : if c then A else B := ite2 h1 h2
theorem with_rest {F G S : Int → Prop} (k : ∀ n0, S n0 → (∀ n, F n) → G n0) (r : ∀ n, F n) : ∀ n0, S n0 → G n0 := fun n0 h => k n0 h r
theorem fdiv_small {c j : Int} (hj : 0 < j) (h : Small c) : Small (c.fdiv j) := by
  refine h.le ?_
  rw [Int.fdiv_eq_ediv_of_nonneg _ (by omega)]
  exact Int.natAbs_ediv_le_natAbs ..
theorem small_bits {c : Int} (h : Small c) : Builtin.Int.intBits c ≤ 4000000 := Nat.le_trans h (by decide)
def signs : List Nat := ((List.range 95).map (· + 32)).filter (· != 37)
theorem signs_len : signs.length = 94 := by decide +kernel
theorem signs_nodup : signs.Nodup := by decide +kernel
theorem signs_lt : ∀ c ∈ signs, 32 ≤ c ∧ c < 127 ∧ c ≠ 37 := by decide +kernel
def spSigns : Sp := fun vs H Q _ => vs = [] ∧ Q (vt signs) H
theorem ok_L_signs (T : Txt K mg t) : FnOk P w K mg base (CX1 P w) 1 t.a_L_signs t.fd_L_signs [] spSigns := by
  refine T.F_L_signs.okn (k := 0) sc_L_signs (fun vs H Q E h => ?_) (fun cdv A outer s H vs Q E hr h => ?_)
  · obtain ⟨rfl, _⟩ := h; rfl
  obtain ⟨rfl, q⟩ := h
  refine ⟨_, (pss_cons (ps_set (i := 0) sc_L_signs.nd rfl (Or.inl rfl) pe_str)
    (pss_one (ps_ret (pe_op oAddN (pv 0) pe_str)))), ?_⟩
  have e1 : V.str (Str.ofString " !\"#$&'()*+,-./0123456789:;<=>?@ABCDEFGHIJKLMNOPQRSTUVWXYZ[\\]^_`") = vt (signs.take 64) := congrArg V.str (by decide +kernel)
  have e2 : V.str (Str.ofString "abcdefghijklmnopqrstuvwxyz{|}~") = vt (signs.drop 64) := congrArg V.str (by decide +kernel)
  refine ⟨_, rfl, .inr (.inl ⟨_, _, e1, e2, by decide +kernel, ?_⟩)⟩
  rw [List.take_append_drop]
  exact q
structure Drawn (k : Nat) (L S : List Nat) : Prop where
  len : L.length = k
  all : (L ++ S).Perm signs
theorem Drawn.start : Drawn 0 [] signs := ⟨rfl, .refl _⟩
theorem Drawn.left {k : Nat} {L S : List Nat} (d : Drawn k L S) : S.length + k = 94 := by
  have := d.all.length_eq
  rw [List.length_append, signs_len, d.len] at this
  omega
theorem Drawn.next {k : Nat} {L S : List Nat} (d : Drawn k L S) {j c : Nat} (h : S[j]? = some c) : Drawn (k + 1) (L ++ [c]) (S.take j ++ S.drop (j + 1)) := by
  obtain ⟨hj, e⟩ := List.getElem?_eq_some_iff.mp h
  refine ⟨by rw [List.length_append, d.len]; rfl, ?_⟩
  have p : (c :: (S.take j ++ S.drop (j + 1))).Perm S := by
    have e2 : S.take j ++ c :: S.drop (j + 1) = S := by rw [← e, ← List.drop_eq_getElem_cons hj, List.take_append_drop]
    conv => rhs; rw [← e2]
    exact List.perm_middle.symm
  rw [List.append_assoc]
  exact (List.Perm.append_left L p).trans d.all
theorem Drawn.nodup {k : Nat} {L S : List Nat} (d : Drawn k L S) : L.Nodup := (List.nodup_append.mp (d.all.nodup_iff.mpr signs_nodup)).1
theorem Drawn.mem {k : Nat} {L S : List Nat} (d : Drawn k L S) : ∀ c ∈ L, c ∈ signs := fun c hc => d.all.mem_iff.mp (List.mem_append_left _ hc)
theorem ofString_nil : Str.ofString "" = tx [] := by decide +kernel
def spFrame : Sp := fun vs H Q _ => ∃ c : Int, vs = [.int c] ∧ Small c ∧ ∀ L S (d : Int) p, 2 ≤ L.length → L.length ≤ 6 → Drawn L.length L S → 0 ≤ d → d ≤ 6 → H p = none → Q (.ref p) (upd H p (.tup [vt L, .int d]))
theorem ok_L_frame (T : Txt K mg t) : FnOk P w K mg base (CX1 P w) 2 t.a_L_frame t.fd_L_frame ["cell"] spFrame := by
  refine T.F_L_frame.okn (k := 1) sc_L_frame (fun vs H Q E h => ?_) (fun cdv A outer s H vs Q E hr h => ?_)
  · obtain ⟨c, rfl, _⟩ := h; rfl
  obtain ⟨c, rfl, hs, q⟩ := h
  have G_L_signs := ok_L_signs (P := P) (w := w) (base := base) T
  refine ⟨_, (pss_cons (ps_set (i := 1) sc_L_frame.nd rfl (Or.inl rfl) (pe_call0 G_L_signs hr rfl T.m_L_signs T.F_L_signs.kp T.b_L_signs .nil pass1))
    (pss_cons (ps_set (i := 2) sc_L_frame.nd rfl (Or.inl rfl) (pe_op op_fdivL (pv 0) pe_int))
    (pss_cons (ps_if (pt_cmpR (oEqA (hr.units0)) (pe_op op_mod (pe_op op_fdivL (pv 0) pe_int) pe_int) pe_int (nomark _)) (pss_one (ps_set (i := 2) sc_L_frame.nd rfl (Or.inl rfl) (pe_op oAddN (pe_op oMulN (pv 2) (pe_op op_pow pe_int pe_int)) pe_int))) pss_nil)
    (pss_cons (ps_set (i := 3) sc_L_frame.nd rfl (Or.inl rfl) pe_str)
    (pss_cons (ps_for PassesOwn.never rfl (pi_range1 rfl T.m_range (pa_cons (pe_op oAddN pe_int (pe_op op_mod (pv 0) pe_int)) pa_nil)) (pg_name (i := 4) sc_L_frame.nd rfl (Or.inl rfl)) (pss_cons (ps_set (i := 5) sc_L_frame.nd rfl (Or.inl rfl) (pe_op op_mod (pv 2) (pe_callB call_len rfl T.m_len bt_len (pa_cons (pv 1) pa_nil))))
    (pss_cons (ps_set (i := 2) sc_L_frame.nd rfl (Or.inl rfl) (pe_op op_fdivL (pv 2) (pe_callB call_len rfl T.m_len bt_len (pa_cons (pv 1) pa_nil))))
    (pss_cons (ps_set (i := 3) sc_L_frame.nd rfl (Or.inl rfl) (pe_op oAddN (pv 3) (pe_ix ixAny (pv 1) (pv 5) (fun _ _ => rfl))))
    (pss_one (ps_set (i := 1) sc_L_frame.nd rfl (Or.inl rfl) (pe_op oAddN (pe_slice slAny (pv 1) po_none (po_some (pv 5))) (pe_slice slAny (pv 1) (po_some (pe_op oAddN (pv 5) pe_int)) po_none))))))))
    (pss_one (ps_ret (pe_tup (PAs.h (pas_cons (pv 3) (pas_cons (pe_op op_mod (pe_op op_fdivL (pv 0) pe_int) pe_int) pas_nil))))))))))), ?_⟩
  refine ⟨rfl, ?_⟩
  refine ⟨_, rfl, _, _, rfl, rfl, cdivK (by decide) (by decide), ?_⟩
  show gName 2 (V.int (c.fdiv 70)) _ _ _
  have hs1 := fdiv_small (c := c) (j := 70) (by decide) hs
  generalize c.fdiv 70 = n0 at hs1 ⊢
  revert n0
  refine with_rest (fun n0 hs1 k => ⟨_, rfl, _, _, rfl, rfl, cdivK (by decide) (by decide), _, _, rfl, rfl, (by show (0 : Int) < 2; decide), .inl ⟨rfl, _, rfl, ite2' (fun _ => k n0) (fun _ => ?_)⟩⟩) (fun n => ?_)
  · exact ⟨_, rfl, _, _, rfl, rfl, ⟨by decide, by decide, by decide⟩, .inl ⟨_, _, rfl, rfl, .inr (.inr ⟨small_bits hs1, by decide +kernel⟩), .inl ⟨_, _, rfl, rfl, k _⟩⟩⟩
  have r1 := Int.emod_nonneg c (show (5 : Int) ≠ 0 by decide)
  have r2 := Int.emod_lt_of_pos c (show (0 : Int) < 5 by decide)
  refine ⟨_, rfl, _, _, rfl, rfl, (by show (0 : Int) < 5; decide), .inl ⟨_, _, rfl, rfl, _, rfl, by omega, by omega, ?_⟩⟩
  refine for_range (fun i σ H' => ∃ n L S r1 r2, σ = [some (.int c), some (vt S), some (.int n), some (vt L), r1, r2] ∧ H' = H ∧ Drawn i L S) ⟨n, [], signs, _, _, by rw [ofString_nil]; rfl, rfl, .start⟩ ?_ ?_
  · rintro i _ _ hi ⟨n, L, S, r1', r2', rfl, rfl, d⟩
    have hl := d.left
    have hi' : i < 6 := by omega
    have hLl := d.len
    have hS : S.length ≤ sizeLine := by rw [sizeLine_eq]; omega
    have hp : (0 : Int) < (S.length : Nat) := by omega
    have m1 := Int.emod_nonneg n (show ((S.length : Nat) : Int) ≠ 0 by omega)
    have m2 := Int.emod_lt_of_pos n hp
    obtain ⟨j, hj⟩ : ∃ j : Nat, n % ((S.length : Nat) : Int) = (j : Int) := ⟨_, (Int.toNat_of_nonneg m1).symm⟩
    have hjl : j < S.length := by omega
    have hc := List.getElem?_eq_getElem hjl
    repeat array_get_dec
    refine ⟨hp, ?_⟩
    try dsimp (config := { proj := false, eta := false, zeta := false, iota := false }) only [tNil, tC]
    rw [hj]
    repeat array_get_dec
    refine ⟨⟨by omega, Nat.lt_of_lt_of_le (show ((S.length : Nat) : Int).natAbs < 2 ^ 30 by omega) (Nat.pow_le_pow_right (by decide) (by decide))⟩, ?_⟩
    repeat array_get_dec
    refine ixS hS (atI_nat hc) ?_
    repeat array_get_dec
    refine .inr (cutT hS ?_)
    rw [cut_to]
    repeat array_get_dec
    refine .inr (cutT hS ?_)
    try dsimp (config := { proj := false, eta := false, zeta := false, iota := false }) only [tNil, tC]
    rw [show ((j : Int) + 1) = ((j + 1 : Nat) : Int) by omega, cut_from]
    repeat array_get_dec
    exact ⟨_, _, _, _, _, rfl, rfl, d.next hc⟩
  · rintro _ _ ⟨n, L, S, r1', r2', rfl, rfl, d⟩
    have t1 := Int.emod_nonneg (c.fdiv 5) (show (7 : Int) ≠ 0 by decide)
    have t2 := Int.emod_lt_of_pos (c.fdiv 5) (show (0 : Int) < 7 by decide)
    have hL := d.len
    refine ⟨_, rfl, _, rfl, _, _, rfl, rfl, cdivK (by decide) (by decide), _, _, rfl, rfl, (by show (0 : Int) < 7; decide), (by show 2 ≤ sizeLine; decide), fun p hp => ?_⟩
    refine q L S _ p (by omega) (by omega) (by rw [hL]; exact d) t1 (by omega) hp
def spTextL (K : PySem.W.Frag) : Sp := fun vs H Q _ => ∃ (L : List Nat) (a : Addr) (ns : List Int) (way : Int), vs = [vt L, .ref a, .int way] ∧ 0 < L.length ∧ L.length ≤ 100 ∧ SqL K H a (ns.map V.int) ∧ ns.length ≤ 100 ∧ ∀ l : List Nat, (∀ c ∈ l, c ∈ L) → l.length = ns.length → Q (vt l) H
theorem ok_L_text (T : Txt K mg t) : FnOk P w K mg base (CX1 P w) 1 t.a_L_text t.fd_L_text ["letters", "cells", "way"] (spTextL K) := by
  refine T.F_L_text.okn (k := 0) sc_L_text (fun vs H Q E h => ?_) (fun cdv A outer s H vs Q E hr h => ?_)
  · obtain ⟨L, a, ns, way, rfl, _⟩ := h; rfl
  obtain ⟨L, a, ns, way, rfl, hL0, hL, hS, hn, q⟩ := h
  have zL : L.length ≤ sizeLine := by rw [sizeLine_eq]; omega
  have m1 := Int.emod_nonneg (way.fdiv 2) (show (4 : Int) ≠ 0 by decide)
  have m2 := Int.emod_lt_of_pos (way.fdiv 2) (show (0 : Int) < 4 by decide)
  refine ⟨_, (pss_cons (ps_set (i := 3) sc_L_text.nd rfl (Or.inl rfl) pe_str)
    (pss_cons (ps_for PassesOwn.never rfl (piAny (pv 1)) (pg_name (i := 4) sc_L_text.nd rfl (Or.inl rfl)) (pss_cons (ps_set (i := 5) sc_L_text.nd rfl (Or.inl rfl) (pe_op oAddN pe_int (pe_op op_mod (pe_op op_fdivL (pv 2) pe_int) pe_int)))
    (pss_one (ps_if (PW.pt (pw_and (pt_cmpR (oEqA (hr.units0)) (pe_op op_mod (pv 2) pe_int) pe_int (nomark _)) (pw_and (pt_cmpR (oEqA (hr.units0)) (pe_op op_mod (pv 4) pe_int) pe_int (nomark _)) (pw_and1 (pt_cmpR op_ge (pe_callB call_len rfl T.m_len bt_len (pa_cons (pv 3) pa_nil)) (pv 5) (nomark _)))))) (pss_one (ps_set (i := 3) sc_L_text.nd rfl (Or.inl rfl) (pe_op oAddN (pv 3) (pe_ix ixAny (pv 3) (pe_un un_neg (pv 5)) (fun _ _ => rfl))))) (pss_one (ps_set (i := 3) sc_L_text.nd rfl (Or.inl rfl) (pe_op oAddN (pv 3) (pe_ix ixAny (pv 0) (pe_op op_mod (pe_op op_fdivL (pv 4) pe_int) (pe_callB call_len rfl T.m_len bt_len (pa_cons (pv 0) pa_nil))) (fun _ _ => rfl)))))))))
    (pss_one (ps_ret (pv 3))))), ?_⟩
  refine ⟨_, rfl, .inl ⟨a, _, rfl, hS, ?_⟩⟩
  refine for_walk walk_list (fun i σ H' => ∃ l r1 r2, σ = [some (vt L), some (.ref a), some (.int way), some (vt l), r1, r2] ∧ H' = H ∧ (∀ c ∈ l, c ∈ L) ∧ l.length = i) ⟨[], _, _, by rw [str_nil]; rfl, rfl, fun c h => (nomatch h), rfl⟩ (fun i σ H' _ ⟨_, _, _, _, e, _⟩ => by rw [e]; exact hS) ?_ ?_
  · rintro i x _ _ hx ⟨l, r1, r2, rfl, rfl, hl, hli⟩
    obtain ⟨n, hn', rfl⟩ := int_at hx
    have hi : i < ns.length := (List.getElem?_eq_some_iff.mp hn').1
    have zl : l.length ≤ sizeLine := by rw [sizeLine_eq]; omega
    repeat array_get_dec
    have other : ∀ F : Prop, (∀ c ∈ L, F) → F := fun F h => by
      obtain ⟨v, hv, _⟩ := at_mod L hL0 0
      exact h v hv
    have els : ∀ c, c ∈ L → ((∀ c' ∈ l ++ [c], c' ∈ L) ∧ (l ++ [c]).length = i + 1) := fun c hc => ⟨fun c' h => by
      rcases List.mem_append.mp h with h | h
      · exact hl c' h
      · rw [List.mem_singleton.mp h]; exact hc, by rw [List.length_append, hli]; rfl⟩
    obtain ⟨v, hv, ev⟩ := at_mod L hL0 (n.fdiv 3)
    refine if2 (fun _ => ?_) (fun _ => ?_)
    · repeat array_get_dec
      refine if2 (fun _ => ?_) (fun _ => ?_)
      · repeat array_get_dec
        refine if2 (fun c3 => ?_) (fun _ => ?_)
        · repeat array_get_dec
          obtain ⟨u, hu, eu⟩ := at_back l (k := 1 + way.fdiv 2 % 4) (by omega) c3
          refine ixS zl eu ?_
          repeat array_get_dec
          exact ⟨rfl, els u (hl u hu)⟩
        · repeat array_get_dec
          refine ⟨by omega, ?_⟩
          refine ixS zL ev ?_
          repeat array_get_dec
          exact ⟨rfl, els v hv⟩
      · repeat array_get_dec
        refine ⟨by omega, ?_⟩
        refine ixS zL ev ?_
        repeat array_get_dec
        exact ⟨rfl, els v hv⟩
    · repeat array_get_dec
      refine ⟨by omega, ?_⟩
      refine ixS zL ev ?_
      repeat array_get_dec
      exact ⟨rfl, els v hv⟩
  · rintro _ _ ⟨l, r1, r2, rfl, rfl, hl, hli⟩
    rw [List.length_map] at hli
    exact ⟨_, rfl, q l hl hli⟩
def lackV (L : List Nat) : V → Bool
  | .str z => !decide (z.cps.toList.headD 0 ∈ L)
  | _ => false
theorem lacked_ok {k : Nat} {L S : List Nat} (dr : Drawn k L S) (hk : k ≤ 50) : ∃ lk : List Nat, ((signs.map fun c => vt [c]).filter (lackV L)).map (fun v => v) = lk.map (fun c => vt [c]) ∧ (∀ c ∈ lk, c ∉ L ∧ c < 127) ∧ 0 < lk.length ∧ lk.length ≤ 94 := by
  refine ⟨signs.filter fun c => !decide (c ∈ L), ?_, fun c hc => ?_, ?_, ?_⟩
  · rw [List.map_id', List.filter_map]; rfl
  · obtain ⟨h1, h2⟩ := List.mem_filter.mp hc
    exact ⟨by simpa using h2, (signs_lt c h1).2.1⟩
  · have hl := dr.left
    have hS0 : 0 < S.length := by omega
    have hm : S[0] ∈ signs := dr.all.mem_iff.mp (List.mem_append_right _ (List.getElem_mem hS0))
    have hn : S[0] ∉ L := fun z => (List.nodup_append.mp (dr.all.nodup_iff.mpr signs_nodup)).2.2 _ z _ (List.getElem_mem hS0) rfl
    exact List.length_pos_of_mem (List.mem_filter.mpr ⟨hm, by simpa using hn⟩)
  · exact Nat.le_trans (List.length_filter_le _ _) (by rw [signs_len]; exact Nat.le_refl _)
def ivs (cs : List Nat) : List V := (cs.map fun (c : Nat) => (c : Int)).map V.int
theorem ivs_len (cs : List Nat) : (ivs cs).length = cs.length := by unfold ivs; rw [List.length_map, List.length_map]
theorem ivs_get (cs : List Nat) (i : Nat) : (ivs cs)[i]? = (cs[i]?).map (fun c : Nat => V.int (c : Int)) := by unfold ivs; rw [List.getElem?_map, List.getElem?_map, Option.map_map]; rfl
theorem ivs_set (cs : List Nat) (j c : Nat) : (ivs cs).set j (.int (c : Int)) = ivs (cs.set j c) := by unfold ivs; rw [List.map_set, List.map_set]
theorem ivs_flat (cs : List Nat) : (ivs cs).all flatV = true := by unfold ivs; rw [List.all_map, List.all_map]; exact List.all_eq_true.mpr fun _ _ => rfl
def falls (f d : Nat) (l kn : List Nat) (k : Nat) : Bool := decide ((eldL f d l k).take kn.length = kn)
def cntL (L : List Nat) (f d : Nat) (l kn : List Nat) (n : Nat) : List Nat := L.map fun c => ((List.range n).filter fun k => falls f d l kn k && decide (l[k]? = some c)).length
def seen (f d : Nat) (l kn : List Nat) (n : Nat) : Bool := (List.range n).any (falls f d l kn)
theorem cntL_len (L : List Nat) (f d : Nat) (l kn : List Nat) (n : Nat) : (cntL L f d l kn n).length = L.length := List.length_map ..
theorem filter_range_succ (p : Nat → Bool) (n : Nat) : ((List.range (n + 1)).filter p).length = ((List.range n).filter p).length + if p n = true then 1 else 0 := by
  rw [List.range_succ, List.filter_append, List.length_append]
  cases h : p n <;> simp [h]
theorem cntL_no {L : List Nat} {f d : Nat} {l kn : List Nat} {n : Nat} (h : falls f d l kn n = false) : cntL L f d l kn (n + 1) = cntL L f d l kn n := by
  unfold cntL
  refine List.map_congr_left fun c _ => ?_
  rw [filter_range_succ, h, Bool.false_and, if_neg Bool.false_ne_true]; rfl
theorem seen_no {f d : Nat} {l kn : List Nat} {n : Nat} (h : falls f d l kn n = false) : seen f d l kn (n + 1) = seen f d l kn n := by
  unfold seen; rw [List.range_succ, List.any_append]; simp [h]
theorem seen_yes {f d : Nat} {l kn : List Nat} {n : Nat} (h : falls f d l kn n = true) : seen f d l kn (n + 1) = true := by
  unfold seen; rw [List.range_succ, List.any_append]; simp [h]
theorem cntL_yes {L : List Nat} {f d : Nat} {l kn : List Nat} {n i c : Nat} (hL : L.Nodup) (h : falls f d l kn n = true) (hi : L[i]? = some c) (hc : l[n]? = some c) :
    ∃ v, (cntL L f d l kn n)[i]? = some v ∧ cntL L f d l kn (n + 1) = (cntL L f d l kn n).set i (v + 1) := by
  obtain ⟨hil, hic⟩ := List.getElem?_eq_some_iff.mp hi
  refine ⟨((List.range n).filter fun k => falls f d l kn k && decide (l[k]? = some c)).length, by unfold cntL; rw [List.getElem?_map, hi]; rfl, ?_⟩
  refine List.ext_getElem? fun j => ?_
  by_cases hj : j < L.length
  · rw [List.getElem?_set]
    unfold cntL
    rw [List.getElem?_map, List.getElem?_eq_getElem hj, Option.map_some, filter_range_succ, h, Bool.true_and]
    by_cases hij : i = j
    · subst hij
      rw [hic, decide_eq_true hc, if_pos rfl, if_pos rfl, if_pos (by rw [List.length_map]; exact hj)]
    · rw [if_neg hij, List.getElem?_map, List.getElem?_eq_getElem hj, Option.map_some]
      have : L[j] ≠ c := fun e => hij ((List.getElem_inj hL).mp (hic.trans e.symm))
      rw [hc, decide_eq_false (fun e => this (Option.some.inj e).symm), if_neg Bool.false_ne_true]; rfl
  · rw [List.getElem?_eq_none (by rw [cntL_len]; omega), List.getElem?_eq_none (by rw [List.length_set, cntL_len]; omega)]
theorem cntL_zero {L : List Nat} {f d : Nat} {l kn : List Nat} {n : Nat} (h : seen f d l kn n = false) : cntL L f d l kn n = List.replicate L.length 0 := by
  unfold cntL
  refine List.ext_getElem? fun j => ?_
  rw [List.getElem?_map, List.getElem?_replicate]
  by_cases hj : j < L.length
  · rw [List.getElem?_eq_getElem hj, if_pos hj, Option.map_some]
    congr 1
    rw [List.length_eq_zero_iff, List.filter_eq_nil_iff]
    intro k hk
    have := List.any_eq_false.mp h k hk
    simp [this]
  · rw [List.getElem?_eq_none (by omega), if_neg hj]; rfl
def okKnot (L : List Nat) (d : Nat) (kn : List Nat) : Bool := decide (kn.length ≤ d) && kn.all fun c => decide (c ∈ L)
def spIsKnot (K : PySem.W.Frag) : Sp := fun vs H Q _ => ∃ (p : Addr) (L kn : List Nat) (d : Nat), vs = [.ref p, vt kn] ∧ SqT K H p [vt L, .int d] ∧ kn.length ≤ 4000 ∧ ∀ H', Same H H' → Q (.bl (okKnot L d kn)) H'
def inV' (L : List Nat) : V → V
  | .str z => .bl (decide (z.cps.toList.headD 0 ∈ L))
  | v => v
theorem ok_is_knot (T : Txt K mg t) : FnOk P w K mg base (CX1 P w) 1 t.a_is_knot t.fd_is_knot ["frame", "text"] (spIsKnot K) := by
  refine T.F_is_knot.okn (k := 0) sc_is_knot (fun vs H Q E h => ?_) (fun cdv A outer s H vs Q E hr h => ?_)
  · obtain ⟨p, L, kn, d, rfl, _⟩ := h; rfl
  obtain ⟨p, L, kn, d, rfl, hF, hk, q⟩ := h
  have zk : kn.length ≤ sizeLine := by rw [sizeLine_eq]; omega
  refine ⟨_, (pss_cons (ps_set (i := 2) sc_is_knot.nd rfl (Or.inr rfl) (pe_ix ixAny (pv 0) pe_int (fun _ _ => rfl)))
    (pss_one (ps_ret (pe_and (pe_cmpR oLeA (pe_callB call_len rfl T.m_len bt_len (pa_cons (pv 1) pa_nil)) (pe_ix ixAny (pv 0) pe_int (fun _ _ => rfl)) (nomark _)) (pe_one (pe_callB (callAll rfl) rfl T.m_all bt_all (pa_cons (pe_lc (compSc_of (N := ["sign", "letters"]) (cap := [none, some 2]) (by kernel_rfl)) rfl (piAny (pv 1)) ⟨fun _ => (pg_name (i := 0) (show List.Nodup (["sign", "letters"] : List Str) by decide +kernel) rfl (Or.inl rfl)), fun _ => pf_nil, fun _ => (pe_cmpR oIn (pv 0) (pv 1) (by with_unfolding_all rfl))⟩) pa_nil))))))), ?_⟩
  repeat array_get_dec
  unfold okKnot at q
  refine if2 (fun c => ?_) (fun c => ?_)
  · have c' : kn.length ≤ d := by omega
    rw [decide_eq_true c', Bool.true_and] at q
    refine ⟨_, rfl, .inr (.inr ⟨_, rfl, fun D hD cp => ?_⟩)⟩
    refine lc_pure (walk_tx kn) (caps := [some (vt L)]) (fun _ => true) (inV' L) (fun _ => trivial) (by rw [List.length_map, sizeLine_eq]; omega) ?_ ?_
    · intro i x ys R hx hy h1 _
      obtain ⟨c, _, rfl⟩ := sign_at hx
      refine lc_true ⟨_, rfl, _, rfl, .inl ⟨c, L, rfl, rfl, ys, upd_same, hy, ?_⟩⟩
      rw [upd_upd, if_neg Bool.false_ne_true]; exact h1 rfl
    have e : ((kn.map fun c => vt [c]).filter fun _ => true).map (inV' L) = (kn.map fun c => decide (c ∈ L)).map V.bl := by
      rw [List.filter_eq_self.mpr (fun _ _ => rfl), List.map_map, List.map_map]; rfl
    rw [e]
    refine ⟨D, kn.map fun c => decide (c ∈ L), rfl, SqL.of upd_same, ?_⟩
    rw [List.all_map]
    exact q _ (same_new hD _)
  · rw [decide_eq_false (show ¬ kn.length ≤ d by omega), Bool.false_and] at q
    exact q _ (Same.refl _)
def spChKnot (K : PySem.W.Frag) (C : Addr) : Sp := fun vs H Q E => ∃ (p : Addr) (L kn : List Nat) (d : Nat), vs = [.ref p, vt kn] ∧ SqT K H p [vt L, .int d] ∧ kn.length ≤ 4000 ∧ ∀ H', Same H H' → (okKnot L d kn = true → Q (vt kn) H') ∧ (okKnot L d kn = false → E (.ref C) none H')
theorem ok_checked_knot (T : Txt K mg t) : FnOk P w K mg base (CX1 P w) 2 t.a_checked_knot t.fd_checked_knot ["frame", "knot"] (spChKnot K t.c_NoKnot) := by
  refine T.F_checked_knot.okx (k := 1) sc_checked_knot (fun vs H Q E h => ?_) (fun cdv A outer s H vs Q E hr h => ?_)
  · obtain ⟨p, L, kn, d, rfl, _⟩ := h; rfl
  obtain ⟨p, L, kn, d, rfl, hF, hk, q⟩ := h
  have G_is_knot := ok_is_knot (P := P) (w := w) (base := base) T
  refine ⟨_, (pss_cons (ps_if (pt_not (pt_val (pe_call G_is_knot hr rfl T.m_is_knot T.F_is_knot.kp T.b_is_knot .nil pass1 (PAs.h (pas_cons (pv 0) (pas_cons (pv 1) pas_nil)))))) (pss_one (ps_raise raises1 rfl rfl T.m_NoKnot T.x_NoKnot PySem.F.excBase_ValueError (pa_cons pe_str pa_nil))) pss_nil)
    (pss_one (ps_ret (pv 1)))), ?_⟩
  refine ⟨_, rfl, _, rfl, p, L, kn, d, rfl, hF, hk, fun H1 g1 => ⟨_, rfl, ?_⟩⟩
  obtain ⟨q1, q2⟩ := q H1 g1
  cases hb : okKnot L d kn with
  | true => exact iteF ⟨_, rfl, q1 hb⟩
  | false => exact iteT ⟨by decide, q2 hb⟩
def spPath (K : PySem.W.Frag) : Sp := fun vs H Q _ => ∃ (p : Addr) (f : Nat) (L : List Nat) (d k : Nat) (l : List Nat), vs = [.ref p, vt l, .int k] ∧ SqT K H p [vt (f :: L), .int d] ∧ (f :: L).length ≤ 100 ∧ d ≤ 6 ∧ l.length ≤ 1000 ∧ k ≤ l.length ∧
  ∀ D, H D = none → Q (.ref D) (upd H D (.lst ((List.range (d + 1)).map fun j => vt ((eldL f d l k).take j))))
theorem ok_path_knots (T : Txt K mg t) : FnOk P w K mg base (CX1 P w) 2 t.a_path_knots t.fd_path_knots ["frame", "text", "at"] (spPath K) := by
  refine T.F_path_knots.okn (k := 1) sc_path_knots (fun vs H Q E h => ?_) (fun cdv A outer s H vs Q E hr h => ?_)
  · obtain ⟨p, f, L, d, k, l, rfl, _⟩ := h; rfl
  obtain ⟨p, f, L, d, k, l, rfl, hF, hL, hd, hl, hk, q⟩ := h
  have G_elders_at := ok_elders_at (P := P) (w := w) (base := base) T
  refine ⟨_, (pss_cons (ps_set (i := 3) sc_path_knots.nd rfl (Or.inr rfl) (pe_call G_elders_at hr rfl T.m_elders_at T.F_elders_at.kp T.b_elders_at .nil pass1 (PAs.h (pas_cons (pv 0) (pas_cons (pv 1) (pas_cons (pv 2) pas_nil))))))
    (pss_one (ps_ret (pe_lc (compSc_of (N := ["size", "path"]) (cap := [none, some 3]) (by kernel_rfl)) rfl (pi_range1 rfl T.m_range (pa_cons (pe_op oAddN (pe_callB call_len rfl T.m_len bt_len (pa_cons (pv 3) pa_nil)) pe_int) pa_nil)) ⟨fun _ => (pg_name (i := 0) (show List.Nodup (["size", "path"] : List Str) by decide +kernel) rfl (Or.inl rfl)), fun _ => pf_nil, fun _ => (pe_slice slAny (pv 1) po_none (po_some (pv 0)))⟩)))), ?_⟩
  refine ⟨_, rfl, _, rfl, _, rfl, p, f, L, d, k, l, rfl, hF, hL, hd, hl, hk, ?_⟩
  have hz := eldL_len f d l k
  generalize eldL f d l k = path at *
  have zp : path.length ≤ sizeLine := by rw [sizeLine_eq]; omega
  repeat array_get_dec
  refine ⟨by omega, by omega, fun D hD cp => ?_⟩
  refine lc_vals walk_range (caps := [some (vt path)]) (fun j v => v = vt (path.take j)) (fun _ => trivial) (by unfold upto; rw [List.length_map, List.length_range, sizeLine_eq]; omega) ?_ ?_
  · intro j x ys C hx hC
    have hj : j < (path.length + 1 : Nat) := by
      have := (List.getElem?_eq_some_iff.mp hx).1
      unfold upto at this; rw [List.length_map, List.length_range] at this; omega
    obtain rfl : x = .int (j : Int) := by
      unfold upto at hx
      rw [List.getElem?_map, List.getElem?_range (by omega)] at hx
      have : x = V.int (0 + (j : Int)) := (Option.some.inj hx).symm
      rw [Int.zero_add] at this; exact this
    refine ⟨_, rfl, _, rfl, _, rfl, .inr (cutT zp ?_)⟩
    rw [cut_to]
    exact hC _ rfl
  · intro ys hy hR
    have e : ys = (List.range (d + 1)).map fun j => vt (path.take j) := by
      unfold upto at hy
      rw [List.length_map, List.length_range] at hy
      refine List.ext_getElem? fun j => ?_
      rw [List.getElem?_map]
      by_cases hj : j < d + 1
      · rw [List.getElem?_range hj, List.getElem?_eq_getElem (by omega)]
        exact congrArg some (hR j _ (List.getElem?_eq_getElem (by omega)))
      · rw [List.getElem?_eq_none (by omega), List.getElem?_eq_none (by rw [List.length_range]; omega)]; rfl
    rw [e]; exact q D hD
theorem ivs_rep (m : Nat) : (List.replicate m [V.int 0]).flatten = ivs (List.replicate m 0) := by
  unfold ivs
  rw [List.map_replicate, List.map_replicate]
  induction m with
  | zero => rfl
  | succ m ih => rw [List.replicate_succ, List.flatten_cons, ih, List.replicate_succ]; rfl
def spNoC (K : PySem.W.Frag) : Sp := fun vs H Q _ => ∃ (p : Addr) (L : List Nat) (d : V), vs = [.ref p] ∧ SqT K H p [vt L, d] ∧ L.length ≤ 100 ∧ ∀ r H', Same H H' → H r = none → H' r = some (.lst (ivs (List.replicate L.length 0))) → Q (.ref r) H'
theorem ok_no_counts (T : Txt K mg t) : FnOk P w K mg base (CX1 P w) 1 t.a_no_counts t.fd_no_counts ["frame"] (spNoC K) := by
  refine T.F_no_counts.okn (k := 0) sc_no_counts (fun vs H Q E h => ?_) (fun cdv A outer s H vs Q E hr h => ?_)
  · obtain ⟨p, L, d, rfl, _⟩ := h; rfl
  obtain ⟨p, L, d, rfl, hF, hL, q⟩ := h
  have zL : L.length ≤ sizeLine := by rw [sizeLine_eq]; omega
  refine ⟨_, (pss_one (ps_ret (pe_op oMulN (pe_lst (pa_cons pe_int pa_nil)) (pe_callB call_len rfl T.m_len bt_len (pa_cons (pe_ix ixAny (pv 0) pe_int (fun _ _ => rfl)) pa_nil))))), ?_⟩
  refine ⟨by show 1 ≤ sizeLine; decide, fun l1 hl1 => ?_⟩
  repeat array_get_dec
  refine .inr (.inr ⟨l1, _, _, rfl, rfl, upd_same, by omega, by omega, by rw [sizeLine_eq, Int.toNat_natCast]; show 1 * L.length ≤ _; omega, fun l hl => ?_⟩)
  rw [Int.toNat_natCast, ivs_rep]
  exact q l _ (by array_mem_dec) ((same_new hl1 _).free hl) upd_same
def key (kn : List Nat) : Key := Sum.inr (tx kn)
theorem key_inj {a b : List Nat} (h : key a = key b) : a = b := tx_inj (Sum.inr.inj h)
def KeysOk (kvs : List (Key × V)) : Prop := ∃ ks : List (List Nat), kvs.map (fun p => p.1) = ks.map key ∧ ks.Nodup
theorem KeysOk.nil : KeysOk [] := ⟨[], rfl, .nil⟩
theorem keys_mem {kvs : List (Key × V)} {ks : List (List Nat)} (h : kvs.map (fun p => p.1) = ks.map key) (kn : List Nat) : kn ∈ ks ↔ (valV kvs (key kn)).isSome = true := by
  rw [← valV_any, List.any_eq_true]
  constructor
  · intro hm
    have h1 : key kn ∈ kvs.map (fun p => p.1) := by rw [h]; exact List.mem_map_of_mem hm
    obtain ⟨p, hp, e⟩ := List.mem_map.mp h1
    exact ⟨p, hp, decide_eq_true e⟩
  · rintro ⟨p, hp, e⟩
    have h1 : key kn ∈ ks.map key := by rw [← h]; exact List.mem_map.mpr ⟨p, hp, of_decide_eq_true e⟩
    obtain ⟨x, hx, e2⟩ := List.mem_map.mp h1
    rw [← key_inj e2]; exact hx
theorem KeysOk.put {kvs : List (Key × V)} (h : KeysOk kvs) (kn : List Nat) (v : V) : KeysOk (putK kvs (key kn) v) := by
  obtain ⟨ks, e, nd⟩ := h
  cases hv : valV kvs (key kn) with
  | none =>
    rw [putK_new v hv]
    refine ⟨ks ++ [kn], by rw [List.map_append, List.map_append, e]; rfl, ?_⟩
    rw [List.nodup_append]
    refine ⟨nd, List.pairwise_singleton _ _, fun a ha b hb => ?_⟩
    rw [List.mem_singleton.mp hb]
    intro z
    have := (keys_mem e a).mp ha
    rw [z, hv] at this; cases this
  | some u =>
    refine ⟨ks, ?_, nd⟩
    unfold putK
    rw [valV_any, hv]
    show List.map _ (List.map _ kvs) = _
    rw [List.map_map, ← e]
    refine List.map_congr_left fun p _ => ?_
    show (if p.1 = key kn then (p.1, v) else p).1 = p.1
    split <;> rfl
structure Tab (L : List Nat) (f d : Nat) (l : List Nat) (H : Hp) (kvs : List (Key × V)) (m : List Nat → Nat) : Prop where
  non : ∀ kn, valV kvs (key kn) = none → seen f d l kn (m kn) = false
  som : ∀ kn v, valV kvs (key kn) = some v → ∃ p, v = .ref p ∧ H p = some (.lst (ivs (cntL L f d l kn (m kn)))) ∧ seen f d l kn (m kn) = true
  one : ∀ a b p, valV kvs (key a) = some (.ref p) → valV kvs (key b) = some (.ref p) → a = b
theorem Tab.congr {L : List Nat} {f d : Nat} {l : List Nat} {H : Hp} {kvs : List (Key × V)} {m m' : List Nat → Nat} (h : Tab L f d l H kvs m) (e : ∀ kn, cntL L f d l kn (m' kn) = cntL L f d l kn (m kn) ∧ seen f d l kn (m' kn) = seen f d l kn (m kn)) : Tab L f d l H kvs m' :=
  ⟨fun kn z => by rw [(e kn).2]; exact h.non kn z, fun kn v z => by rw [(e kn).1, (e kn).2]; exact h.som kn v z, h.one⟩
theorem Tab.same {L : List Nat} {f d : Nat} {l : List Nat} {H H' : Hp} {kvs : List (Key × V)} {m : List Nat → Nat} (h : Tab L f d l H kvs m) (g : Same H H') : Tab L f d l H' kvs m :=
  ⟨h.non, fun kn v z => by obtain ⟨p, e, a, b⟩ := h.som kn v z; exact ⟨p, e, g _ _ a, b⟩, h.one⟩
theorem aug_tail {D : Ends} {H : Hp} {p tb r : Addr} {l L cs : List Nat} {n i c v : Nat} {kn : List Nat} {kvs : List (Key × V)} (e : H tb = some (.dK kvs)) (ev : valV kvs (key kn) = some (.ref r)) (er : H r = some (.lst (ivs cs))) (hc : c ∈ L) (hi : ∀ j : Nat, L[j]? = some c → j = i) (hv : cs[i]? = some v)
    (q : D.nx [some (.ref p), some (vt l), some (vt L), some (.ref tb), some (.int (n : Int)), some (vt [c]), some (vt kn)] (upd H r (.lst (ivs (cs.set i (v + 1)))))) :
    tAugS (tDGet (tVar 3) (tVar 6)) (tBM K "str" rIndex (tVar 2) (tCons (tVar 5) tNil)) (tC (.int 1)) (rGetL K) (fun x y H Q => rI0 (fun i j => V.int (i + j)) x y H Q ∨ rCatX x y H Q) rSetL D
      [some (.ref p), some (vt l), some (vt L), some (.ref tb), some (.int (n : Int)), some (vt [c]), some (vt kn)] H := by
  have hil : i < cs.length := (List.getElem?_eq_some_iff.mp hv).1
  refine ⟨_, rfl, _, rfl, tb, .ref r, rfl, by rw [← ev]; exact DGet.k (k := key kn) e, ?_⟩
  refine ⟨_, rfl, rfl, _, rfl, L, c, rfl, rfl, hc, fun j hj => ?_⟩
  obtain rfl := hi j hj
  refine ⟨r, _, _, _, rfl, rfl, SqL.of er, by omega, atI_nat (by rw [ivs_get, hv]; rfl), ?_⟩
  refine .inl ⟨_, _, rfl, rfl, ?_⟩
  refine ⟨r, _, _, j, rfl, rfl, er, ?_, ?_⟩
  · unfold ixN; rw [if_pos (by omega), if_pos (by rw [ivs_len]; omega), Int.toNat_natCast]
  · show D.nx _ (upd H r (.lst ((ivs cs).set j (.int ((v : Int) + 1)))))
    rw [show ((v : Int) + 1) = ((v + 1 : Nat) : Int) by omega, ivs_set]; exact q
theorem at_uniq {L : List Nat} (h : L.Nodup) {i j c : Nat} (hi : L[i]? = some c) (hj : L[j]? = some c) : j = i := by
  obtain ⟨h1, e1⟩ := List.getElem?_eq_some_iff.mp hi
  obtain ⟨h2, e2⟩ := List.getElem?_eq_some_iff.mp hj
  exact (List.getElem_inj h).mp (e2.trans e1.symm)
def spTable (K : PySem.W.Frag) : Sp := fun vs H Q _ => ∃ (p : Addr) (f : Nat) (L : List Nat) (d : Nat) (l : List Nat), vs = [.ref p, vt l] ∧ SqT K H p [vt (f :: L), .int d] ∧ (f :: L).Nodup ∧ (f :: L).length ≤ 100 ∧ d ≤ 6 ∧ l.length ≤ 1000 ∧ (∀ c ∈ l, c ∈ f :: L) ∧
  ∀ tb H' kvs, Same H H' → H tb = none → H' tb = some (.dK kvs) → (∀ kn q, valV kvs (key kn) = some (.ref q) → H q = none) → Tab (f :: L) f d l H' kvs (fun _ => l.length) → KeysOk kvs → kvs.length ≤ 7 * l.length → Q (.ref tb) H'
theorem ok_count_table (T : Txt K mg t) : FnOk P w K mg base (CX1 P w) 3 t.a_count_table t.fd_count_table ["frame", "text"] (spTable K) := by
  refine T.F_count_table.okn (k := 2) sc_count_table (fun vs H Q E h => ?_) (fun cdv A outer s H vs Q E hr h => ?_)
  · obtain ⟨p, f, L, d, l, rfl, _⟩ := h; rfl
  obtain ⟨p, f, L, d, l, rfl, hF, hnd, hL, hd, hl, hall, q⟩ := h
  have G_path_knots := ok_path_knots (P := P) (w := w) (base := base) T
  have G_no_counts := (ok_no_counts (P := P) (w := w) (base := base) T).mono (show 1 ≤ 2 by decide)
  refine ⟨_, (pss_cons (ps_set (i := 2) sc_count_table.nd rfl (Or.inl rfl) (pe_ix ixAny (pv 0) pe_int (fun _ _ => rfl)))
    (pss_cons (ps_set (i := 3) sc_count_table.nd rfl (Or.inl rfl) pe_dnewK)
    (pss_cons (ps_for PassesOwn.never rfl (pi_enum rfl T.m_enumerate bt_enumerate (pv 1)) (pg_tup rfl (pgs_cons (pg_name (i := 4) sc_count_table.nd rfl (Or.inl rfl)) (pgs_cons (pg_name (i := 5) sc_count_table.nd rfl (Or.inl rfl)) pgs_nil))) (pss_one (ps_for PassesOwn.never rfl (piAny (pe_call G_path_knots hr rfl T.m_path_knots T.F_path_knots.kp T.b_path_knots .nil pass1 (PAs.h (pas_cons (pv 0) (pas_cons (pv 1) (pas_cons (pv 4) pas_nil)))))) (pg_name (i := 6) sc_count_table.nd rfl (Or.inl rfl)) (pss_cons (ps_if (pt_cmp (pc_dnotin (hu_of hr) (pv 6) (pv 3))) (pss_one (ps_dput (hu_of hr) (pv 3) (pv 6) (pe_call G_no_counts hr rfl T.m_no_counts T.F_no_counts.kp T.b_no_counts .nil pass1 (pa_cons (pv 0) pa_nil)) rfl)) pss_nil)
    (pss_one (ps_augS (pe_dget (hu_of hr) (pv 3) (pv 6) (fun _ _ => rfl)) (pe_bm PySem.F.plainAttrs_str PySem.F.slot_str_index PySem.F.type_str_index mt_index (pv 2) (pa_cons (pv 5) pa_nil)) get_list pe_int ipAdd set_list))))))
    (pss_one (ps_ret (pv 3)))))), ?_⟩
  repeat array_get_dec
  refine fun tb htb => ?_
  refine ⟨_, rfl, l, rfl, ?_⟩
  refine for_enum (fun n σ H' => ∃ (kvs : List (Key × V)) (r1 r2 r3 : Option V), σ = [some (.ref p), some (vt l), some (vt (f :: L)), some (.ref tb), r1, r2, r3] ∧ Same H H' ∧ H' tb = some (.dK kvs) ∧ kvs.length ≤ 7 * n ∧ (∀ kn q, valV kvs (key kn) = some (.ref q) → H q = none) ∧ Tab (f :: L) f d l H' kvs (fun _ => n) ∧ KeysOk kvs)
    ⟨[], _, _, _, rfl, same_new htb _, upd_same, Nat.le_refl _, fun kn q z => (by rw [valV_nil] at z; cases z), ⟨fun kn _ => rfl, fun kn v z => (by rw [valV_nil] at z; cases z), fun a b p z => (by rw [valV_nil] at z; cases z)⟩, KeysOk.nil⟩ ?_ ?_
  · rintro n c _ H1 pt hc ⟨kvs, r1, r2, r3, rfl, g1, e1, hk1, hn1, tab, ko⟩ hpt
    have hn : n < l.length := (List.getElem?_eq_some_iff.mp hc).1
    have g2 : Same H (upd H1 pt (.tup [.int (n : Int), vt [c]])) := by array_mem_dec
    have e2 : upd H1 pt (.tup [.int (n : Int), vt [c]]) tb = some (.dK kvs) := by array_mem_dec
    have tab2 := tab.same (same_new hpt (.tup [.int (n : Int), vt [c]]))
    generalize upd H1 pt (.tup [.int (n : Int), vt [c]]) = H2 at g2 e2 tab2 ⊢
    clear tab e1 g1 hpt
    refine ⟨_, rfl, _, rfl, _, rfl, p, f, L, d, n, l, rfl, same_tup g2 hF, hL, hd, hl, by omega, fun D hD => ?_⟩
    have hz := eldL_len f d l n
    have hfal : ∀ j, j ≤ d → falls f d l ((eldL f d l n).take j) n = true := fun j hj => by
      unfold falls
      rw [List.length_take, hz, Nat.min_eq_left hj]; exact decide_eq_true rfl
    have hfl : ∀ kn, falls f d l kn n = true → ∃ j, j ≤ d ∧ kn = (eldL f d l n).take j ∧ kn.length = j := fun kn h => by
      have e := of_decide_eq_true h
      have hl2 : kn.length ≤ d := by have := congrArg List.length e; rw [List.length_take, hz] at this; omega
      exact ⟨kn.length, hl2, e.symm, rfl⟩
    generalize hpa : eldL f d l n = path at hz hfal hfl ⊢
    have cL : c ∈ f :: L := hall c (List.mem_of_getElem? hc)
    obtain ⟨ci, hci⟩ := List.getElem?_of_mem cL
    have hnq : ∀ kn q, valV kvs (key kn) = some (.ref q) → H q = none ∧ q ≠ D := fun kn q z => ⟨hn1 kn q z, fun y => by
      obtain ⟨q', e, a, _⟩ := tab2.som kn _ z
      cases e
      rw [y, hD] at a; cases a⟩
    refine .inl ⟨D, _, rfl, SqL.of upd_same, ?_⟩
    have g3 : Same H (upd H2 D (.lst ((List.range (d + 1)).map fun j => vt (path.take j)))) := by array_mem_dec
    have e3 : upd H2 D (.lst ((List.range (d + 1)).map fun j => vt (path.take j))) tb = some (.dK kvs) := by array_mem_dec
    have eD3 : upd H2 D (.lst ((List.range (d + 1)).map fun j => vt (path.take j))) D = some (.lst ((List.range (d + 1)).map fun j => vt (path.take j))) := upd_same
    have tab3 := tab2.same (same_new hD (.lst ((List.range (d + 1)).map fun j => vt (path.take j))))
    generalize upd H2 D (.lst ((List.range (d + 1)).map fun j => vt (path.take j))) = H3 at g3 e3 eD3 tab3 ⊢
    clear hD tab2 e2 g2 hn1
    refine for_walk walk_list (fun j σ H' => ∃ (kvs : List (Key × V)) (r3 : Option V), σ = [some (.ref p), some (vt l), some (vt (f :: L)), some (.ref tb), some (.int (n : Int)), some (vt [c]), r3] ∧ Same H H' ∧ H' tb = some (.dK kvs) ∧ H' D = some (.lst ((List.range (d + 1)).map fun j => vt (path.take j))) ∧ kvs.length ≤ 7 * n + j ∧ (∀ kn q, valV kvs (key kn) = some (.ref q) → H q = none ∧ q ≠ D) ∧ Tab (f :: L) f d l H' kvs (fun kn => if falls f d l kn n = true ∧ kn.length < j then n + 1 else n) ∧ KeysOk kvs)
      ⟨kvs, _, rfl, g3, e3, eD3, hk1, hnq, tab3.congr fun kn => by rw [if_neg (fun z => absurd z.2 (Nat.not_lt_zero _))]; exact ⟨rfl, rfl⟩, ko⟩ (fun i σ H' _ ⟨_, _, _, _, _, e, _⟩ => SqL.of e) ?_ ?_
    · rintro j x _ H4 hx ⟨kvs, r3, rfl, g4, e4, eD4, hk4, hn4, tab4, ko4⟩
      have hj : j < d + 1 := by have := (List.getElem?_eq_some_iff.mp hx).1; rw [List.length_map, List.length_range] at this; exact this
      obtain rfl : x = vt (path.take j) := by
        rw [List.getElem?_map, List.getElem?_range hj] at hx; exact (Option.some.inj hx).symm
      have kl : (path.take j).length = j := by rw [List.length_take]; omega
      have kf := hfal j (by omega)
      have km : (if falls f d l (path.take j) n = true ∧ (path.take j).length < j then n + 1 else n) = n := if_neg (fun z => by omega)
      have cy := cntL_yes (L := f :: L) hnd kf hci hc
      obtain ⟨v, hv, hcv⟩ := cy
      have done : ∀ (H5 : Hp) (kvs5 : List (Key × V)) (r : Addr), Same H H5 → H5 tb = some (.dK kvs5) → H5 D = some (.lst ((List.range (d + 1)).map fun j => vt (path.take j))) → kvs5.length ≤ 7 * n + (j + 1) → H r = none → r ≠ D → r ≠ tb → valV kvs5 (key (path.take j)) = some (.ref r) →
          (∀ kn, kn ≠ path.take j → valV kvs5 (key kn) = valV kvs (key kn)) → (∀ kn, valV kvs (key kn) = some (.ref r) → kn = path.take j) → (∀ kn q, valV kvs (key kn) = some (.ref q) → H5 q = H4 q) → KeysOk kvs5 →
          ∃ (kvs : List (Key × V)) (r3 : Option V), [some (.ref p), some (vt l), some (vt (f :: L)), some (.ref tb), some (.int (n : Int)), some (vt [c]), some (vt (path.take j))] = [some (.ref p), some (vt l), some (vt (f :: L)), some (.ref tb), some (.int (n : Int)), some (vt [c]), r3] ∧ Same H (upd H5 r (.lst (ivs ((cntL (f :: L) f d l (path.take j) n).set ci (v + 1))))) ∧ upd H5 r (.lst (ivs ((cntL (f :: L) f d l (path.take j) n).set ci (v + 1)))) tb = some (.dK kvs) ∧ upd H5 r (.lst (ivs ((cntL (f :: L) f d l (path.take j) n).set ci (v + 1)))) D = some (.lst ((List.range (d + 1)).map fun j => vt (path.take j))) ∧ kvs.length ≤ 7 * n + (j + 1) ∧ (∀ kn q, valV kvs (key kn) = some (.ref q) → H q = none ∧ q ≠ D) ∧ Tab (f :: L) f d l (upd H5 r (.lst (ivs ((cntL (f :: L) f d l (path.take j) n).set ci (v + 1))))) kvs (fun kn => if falls f d l kn n = true ∧ kn.length < j + 1 then n + 1 else n) ∧ KeysOk kvs := by
        intro H5 kvs5 r g5 e5 eD5 hk5 hrn hrD hrt hv5 hoth huniq hold ko5
        refine ⟨kvs5, _, rfl, over_same hrn g5, by rw [upd_ne (Ne.symm hrt)]; exact e5, by rw [upd_ne (Ne.symm hrD)]; exact eD5, hk5, fun kn q z => ?_, ⟨?_, ?_, ?_⟩, ko5⟩
        · by_cases h : kn = path.take j
          · subst h; rw [hv5] at z; cases z; exact ⟨hrn, hrD⟩
          · rw [hoth kn h] at z; exact hn4 kn q z
        · intro kn z
          by_cases h : kn = path.take j
          · subst h; rw [hv5] at z; cases z
          · rw [hoth kn h] at z
            have := tab4.non kn z
            by_cases hf : falls f d l kn n = true ∧ kn.length < j + 1
            · have hne : ¬ kn.length = j := fun y => h (by
                obtain ⟨j', _, e', el'⟩ := hfl kn hf.1
                rw [e', show j' = j by omega])
              have hf' : falls f d l kn n = true ∧ kn.length < j := ⟨hf.1, by omega⟩
              rw [if_pos hf]; rw [if_pos hf'] at this; exact this
            · have hf' : ¬ (falls f d l kn n = true ∧ kn.length < j) := fun y => hf ⟨y.1, by omega⟩
              rw [if_neg hf]; rw [if_neg hf'] at this; exact this
        · intro kn u z
          by_cases h : kn = path.take j
          · subst h
            rw [hv5] at z; cases z
            rw [if_pos ⟨kf, by omega⟩, hcv]
            exact ⟨r, rfl, upd_same, seen_yes kf⟩
          · rw [hoth kn h] at z
            obtain ⟨q', e', a', b'⟩ := tab4.som kn u z
            have hqr : q' ≠ r := fun y => h (huniq kn (by rw [z, e', y]))
            have a'' : H5 q' = some (.lst (ivs (cntL (f :: L) f d l kn (if falls f d l kn n = true ∧ kn.length < j then n + 1 else n)))) := by rw [hold kn q' (by rw [z, e'])]; exact a'
            refine ⟨q', e', ?_⟩
            rw [upd_ne hqr]
            by_cases hf : falls f d l kn n = true ∧ kn.length < j + 1
            · have hne : ¬ kn.length = j := fun y => h (by
                obtain ⟨j', _, e', el'⟩ := hfl kn hf.1
                rw [e', show j' = j by omega])
              have hf' : falls f d l kn n = true ∧ kn.length < j := ⟨hf.1, by omega⟩
              rw [if_pos hf]; rw [if_pos hf'] at a'' b'; exact ⟨a'', b'⟩
            · have hf' : ¬ (falls f d l kn n = true ∧ kn.length < j) := fun y => hf ⟨y.1, by omega⟩
              rw [if_neg hf]; rw [if_neg hf'] at a'' b'; exact ⟨a'', b'⟩
        · intro a b q' za zb
          by_cases ha : a = path.take j
          · by_cases hb : b = path.take j
            · rw [ha, hb]
            · subst ha
              rw [hv5] at za; cases za
              rw [hoth b hb] at zb
              exact absurd (huniq b zb) hb
          · by_cases hb : b = path.take j
            · subst hb
              rw [hv5] at zb; cases zb
              rw [hoth a ha] at za
              exact absurd (huniq a za) ha
            · rw [hoth a ha] at za
              rw [hoth b hb] at zb
              exact tab4.one a b q' za zb
      refine ⟨_, rfl, _, rfl, tb, valV kvs (key (path.take j)), rfl, DGet.k (k := key (path.take j)) e4, ?_⟩
      cases hvk : valV kvs (key (path.take j)) with
      | some u =>
        obtain ⟨r, rfl, er, _⟩ := tab4.som _ _ hvk
        rw [km] at er
        obtain ⟨hrn, hrD⟩ := hn4 _ _ hvk
        have hrt : r ≠ tb := ne_of er e4 (fun z => by cases z)
        refine ⟨_, rfl, ?_⟩
        refine iteF ?_
        refine aug_tail e4 hvk er cL (fun j' h' => at_uniq hnd hci h') hv ?_
        exact done H4 kvs r g4 e4 eD4 (by omega) hrn hrD hrt hvk (fun _ _ => rfl) (fun kn z => tab4.one _ _ r z hvk) (fun _ _ _ => rfl) ko4
      | none =>
        refine ⟨_, rfl, ?_⟩
        refine iteT ?_
        have us := tab4.non _ hvk
        rw [km] at us
        refine ⟨_, rfl, p, f :: L, _, rfl, same_tup g4 hF, hL, fun r H5 g5 hr4 er => ?_⟩
        have hrn : H r = none := g4.free hr4
        have hrD : r ≠ D := fun z => by rw [z, eD4] at hr4; cases hr4
        have hrt : r ≠ tb := fun z => by rw [z, e4] at hr4; cases hr4
        rw [← cntL_zero us] at er
        refine ⟨_, rfl, _, rfl, tb, _, rfl, DPut.k (k := key (path.take j)) (g5 _ _ e4) (by rw [sizeLine_eq]; omega), ?_⟩
        refine aug_tail (kvs := putK kvs (key (path.take j)) (.ref r)) upd_same (by rw [valV_put, if_pos rfl]) (by rw [upd_ne hrt]; exact er) cL (fun j' h' => at_uniq hnd hci h') hv ?_
        refine done _ (putK kvs (key (path.take j)) (.ref r)) r (over_same htb (g4.trans g5)) upd_same (by rw [upd_ne (fun z => by rw [z, e4] at eD4; cases eD4)]; exact g5 _ _ eD4) (by have := length_putK kvs (key (path.take j)) (.ref r); omega) hrn hrD hrt (by rw [valV_put, if_pos rfl]) (fun kn h => by rw [valV_put, if_neg (fun z => h (key_inj z))]) (fun kn z => ?_) (fun kn q' z => ?_) (ko4.put _ _)
        · obtain ⟨q', e', a', _⟩ := tab4.som kn _ z
          cases e'
          rw [hr4] at a'; cases a'
        · obtain ⟨q2, e', a', _⟩ := tab4.som kn _ z
          cases e'
          rw [upd_ne (ne_of a' e4 (fun z => by cases z)), g5 _ _ a', a']
    · rintro _ H4 ⟨kvs, r3, rfl, g4, e4, eD4, hk4, hn4, tab4, ko4⟩
      rw [List.length_map, List.length_range] at hk4 tab4
      refine ⟨kvs, _, _, _, rfl, g4, e4, by omega, fun kn q' z => (hn4 kn q' z).1, tab4.congr (fun kn => ?_), ko4⟩
      cases hf : falls f d l kn n with
      | true =>
        obtain ⟨j', h1, _, h2⟩ := hfl kn hf
        rw [if_pos ⟨rfl, by omega⟩]; exact ⟨rfl, rfl⟩
      | false =>
        rw [if_neg (fun z => by cases z.1)]
        exact ⟨cntL_no hf, seen_no hf⟩
  · rintro _ H1 ⟨kvs, r1, r2, r3, rfl, g1, e1, hk1, hn1, tab, ko⟩
    exact ⟨_, rfl, q tb H1 kvs g1 htb e1 hn1 tab ko hk1⟩
def spCounts (K : PySem.W.Frag) (C1 C2 : Addr) : Sp := fun vs H Q E => ∃ (p : Addr) (f : Nat) (L : List Nat) (d : Nat) (l kn : List Nat), vs = [.ref p, vt l, vt kn] ∧ SqT K H p [vt (f :: L), .int d] ∧ (f :: L).Nodup ∧ (f :: L).length ≤ 100 ∧ d ≤ 6 ∧ l.length ≤ 1000 ∧ (∀ c ∈ l, c < 16 ^ 8) ∧ kn.length ≤ 4000 ∧
  ((∃ c ∈ l, c ∉ f :: L) → E (.ref C1) none H) ∧ ((∀ c ∈ l, c ∈ f :: L) → ∀ H', Same H H' → (okKnot (f :: L) d kn = false → E (.ref C2) none H') ∧ (okKnot (f :: L) d kn = true → ∀ r, H r = none → H' r = some (.lst (ivs (cntL (f :: L) f d l kn l.length))) → Q (.ref r) H'))
theorem ok_counts (T : Txt K mg t) : FnOk P w K mg base (CX1 P w) 4 t.a_counts t.fd_counts ["frame", "text", "knot"] (spCounts K t.c_NoText t.c_NoKnot) := by
  refine T.F_counts.okx (k := 3) sc_counts (fun vs H Q E h => ?_) (fun cdv A outer s H vs Q E hr h => ?_)
  · obtain ⟨p, f, L, d, l, kn, rfl, _⟩ := h; rfl
  obtain ⟨p, f, L, d, l, kn, rfl, hF, hnd, hL, hd, hl, hc, hkn, q1, q2⟩ := h
  have G_checked := (ok_checked (P := P) (w := w) (base := base) T).mono (show 1 ≤ 3 by decide)
  have G_checked_knot := (ok_checked_knot (P := P) (w := w) (base := base) T).mono (show 2 ≤ 3 by decide)
  have G_count_table := ok_count_table (P := P) (w := w) (base := base) T
  have G_no_counts := (ok_no_counts (P := P) (w := w) (base := base) T).mono (show 1 ≤ 3 by decide)
  refine ⟨_, (pss_cons (ps_expr (pe_call G_checked hr rfl T.m_checked T.F_checked.kp T.b_checked .nil passes1 (PAs.h (pas_cons (pv 0) (pas_cons (pv 1) pas_nil)))))
    (pss_cons (ps_expr (pe_call G_checked_knot hr rfl T.m_checked_knot T.F_checked_knot.kp T.b_checked_knot .nil passes1 (PAs.h (pas_cons (pv 0) (pas_cons (pv 2) pas_nil)))))
    (pss_one (ps_ret (pe_dget2 (hu_of hr) (pe_call G_count_table hr rfl T.m_count_table T.F_count_table.kp T.b_count_table .nil pass1 (PAs.h (pas_cons (pv 0) (pas_cons (pv 1) pas_nil)))) (pv 2) (pe_call G_no_counts hr rfl T.m_no_counts T.F_no_counts.kp T.b_no_counts .nil pass1 (pa_cons (pv 0) pa_nil)) ⟨rfl, rfl, rfl, rfl⟩))))), ?_⟩
  refine ⟨_, rfl, _, rfl, p, f :: L, _, l, rfl, hF, hc, fun hall => ?_, fun h => q1 h⟩
  refine ⟨_, rfl, _, rfl, p, f :: L, kn, d, rfl, hF, hkn, fun H1 g1 => ⟨fun hok => ?_, fun hbad => (q2 hall H1 g1).1 hbad⟩⟩
  refine ⟨_, rfl, _, rfl, p, f, L, d, l, rfl, same_tup g1 hF, hnd, hL, hd, hl, hall, fun tb H2 kvs g2 htb e2 hq2 tab _ _ => ?_⟩
  refine ⟨tb, rfl, .inl ⟨kvs, .inl e2⟩, _, rfl, ?_⟩
  refine ⟨_, rfl, p, f :: L, _, rfl, same_tup (g1.trans g2) hF, hL, fun r H3 g3 hr2 er => ?_⟩
  refine ⟨valV kvs (key kn), DGet.k (k := key kn) (g3 _ _ e2), ?_⟩
  have q3 := (q2 hall H3 ((g1.trans g2).trans g3)).2 hok
  cases hv : valV kvs (key kn) with
  | none =>
    have us := tab.non kn hv
    rw [← cntL_zero us] at er
    exact q3 r ((g1.trans g2).free hr2) er
  | some u =>
    obtain ⟨r', rfl, er', _⟩ := tab.som kn u hv
    exact q3 r' (g1.free (hq2 kn r' hv)) (g3 _ _ er')
def placeL : List Nat → Nat → Nat
  | [], _ => 0
  | a :: r, c => if a = c then 0 else placeL r c + 1
theorem placeL_at : ∀ {L : List Nat} {c : Nat}, c ∈ L → L[placeL L c]? = some c
  | [], c, h => nomatch h
  | a :: r, c, h => by
    unfold placeL
    by_cases z : a = c
    · rw [if_pos z, z]; rfl
    · rw [if_neg z]
      rcases List.mem_cons.mp h with h | h
      · exact absurd h.symm z
      · rw [List.getElem?_cons_succ]; exact placeL_at h
theorem placeL_inj {L : List Nat} {a b : Nat} (ha : a ∈ L) (hb : b ∈ L) (h : placeL L a = placeL L b) : a = b := by
  have h1 := placeL_at ha
  rw [h, placeL_at hb] at h1
  exact (Option.some.inj h1).symm
def rkL (L l : List Nat) : List Nat := l.map (placeL L)
def spRank (K : PySem.W.Frag) : Sp := fun vs H Q _ => ∃ (p : Addr) (L l : List Nat) (d : V), vs = [.ref p, vt l] ∧ SqT K H p [vt L, d] ∧ L.Nodup ∧ l.length ≤ 4000 ∧ (∀ c ∈ l, c ∈ L) ∧ ∀ q H', H q = none → Same H H' → H' q = some (.lst ((rkL L l).map fun n => V.int (Int.ofNat n))) → Q (.ref q) H'
theorem ok_rank (T : Txt K mg t) : FnOk P w K mg base (CX1 P w) 1 t.a_rank t.fd_rank ["frame", "text"] (spRank K) := by
  refine T.F_rank.okn (k := 0) sc_rank (fun vs H Q E h => ?_) (fun cdv A outer s H vs Q E hr h => ?_)
  · obtain ⟨p, L, l, d, rfl, _⟩ := h; rfl
  obtain ⟨p, L, l, d, rfl, hF, hnd, hl, hall, q⟩ := h
  refine ⟨_, (pss_cons (ps_set (i := 2) sc_rank.nd rfl (Or.inr rfl) (pe_ix ixAny (pv 0) pe_int (fun _ _ => rfl)))
    (pss_one (ps_ret (pe_lc (compSc_of (N := ["sign", "letters"]) (cap := [none, some 2]) (by kernel_rfl)) rfl (piAny (pv 1)) ⟨fun _ => (pg_name (i := 0) (show List.Nodup (["sign", "letters"] : List Str) by decide +kernel) rfl (Or.inl rfl)), fun _ => pf_nil, fun _ => (pe_bm PySem.F.plainAttrs_str PySem.F.slot_str_index PySem.F.type_str_index mt_index (pv 1) (pa_cons (pv 0) pa_nil))⟩)))), ?_⟩
  refine ⟨_, rfl, .inr (.inl ⟨p, _, 0, _, rfl, rfl, hF, rfl, _, rfl, .inr (.inr ⟨_, rfl, fun D hD cp => ?_⟩)⟩)⟩
  refine lc_vals (walk_tx l) (caps := [some (vt L)]) (fun j v => ∃ c, l[j]? = some c ∧ v = .int (placeL L c : Nat)) (fun _ => trivial) (by rw [List.length_map, sizeLine_eq]; omega) ?_ ?_
  · intro i x ys C hx hC
    obtain ⟨c, hc, rfl⟩ := sign_at hx
    have hm : c ∈ L := hall c (List.mem_of_getElem? hc)
    refine ⟨_, rfl, rfl, _, rfl, L, c, rfl, rfl, hm, fun j hj => ?_⟩
    rw [at_uniq hnd (placeL_at hm) hj]
    exact hC _ ⟨c, hc, rfl⟩
  intro ys hy hR
  rw [List.length_map] at hy
  have e : ys = (rkL L l).map fun n => V.int (Int.ofNat n) := by
    unfold rkL
    rw [List.map_map]
    refine List.ext_getElem? fun j => ?_
    rw [List.getElem?_map]
    by_cases hj : j < l.length
    · obtain ⟨c, hc, hv⟩ := hR j _ (List.getElem?_eq_getElem (show j < ys.length by omega))
      rw [List.getElem?_eq_getElem (show j < ys.length by omega), hv, hc]; rfl
    · rw [List.getElem?_eq_none (by omega), List.getElem?_eq_none (by omega)]; rfl
  rw [e]
  exact q D _ hD (same_new hD _) upd_same
def lamPos (st : Stmt) : Pos := match defBody st with
  | [.Return (some (.Call _ _ [⟨_, .Lambda _ _ _ p, _⟩] _)) _] => p
  | _ => ⟨0, 0, 0, 0⟩
abbrev lpO : Pos := lamPos s_in_order
abbrev qlO : Str := ("in_order" : Str) ++ ".<locals>." ++ "<lambda>"
abbrev TO (T0 : Addr) (H : Hp) : Prop := TB T0 lpO qlO H
def spOrder (K : PySem.W.Frag) (T0 : Addr) : Sp := fun vs H Q _ => ∃ (p q0 : Addr) (L : List Nat) (d : V) (ls : List (List Nat)), vs = [.ref p, .ref q0] ∧ SqT K H p [vt L, d] ∧ SqL K H q0 (ls.map vt) ∧ L.Nodup ∧ ls.length ≤ 100000 ∧ (∀ l ∈ ls, l.length ≤ 4000 ∧ ∀ c ∈ l, c ∈ L) ∧ TO T0 H ∧
  ∀ (r : Addr) (ls' : List (List Nat)) (H' : Hp), ls'.Perm ls → ls'.Pairwise (fun a b => ¬ rkL L b < rkL L a) → SameT T0 H H' → H r = none → H' r = some (.lst (ls'.map vt)) → TO T0 H' → Q (.ref r) H'
theorem sqT_T {H H' : Hp} {T0 p : Addr} {xs : List V} (h : SqT K H p xs) (hT : ∃ ps, H T0 = some (.tbl ps)) (s : SameT T0 H H') : SqT K H' p xs := by
  obtain ⟨ps, hT⟩ := hT
  rcases h with (h | ⟨o, h⟩) | h
  · exact .inl (.inl (s _ _ (fun z => by subst z; rw [hT] at h; cases h) h))
  · exact .inl (.inr ⟨o, s _ _ (fun z => by subst z; rw [hT] at h; cases h) h⟩)
  · exact .inr h
theorem ok_in_order {c0 T0 : Addr} (T : Txt K mg t) (Y : TabX K mg base "in_order" c0 T0) : FnOk P w K mg base (CX1 P w) 5 t.a_in_order t.fd_in_order ["frame", "texts"] (spOrder K T0) := by
  refine T.F_in_order.okc (k := 4) sc_in_order (fun vs H Q E h => ?_) (fun cdv A outer s H vs Q E hcd hr h => ?_)
  · obtain ⟨p, q0, L, d, ls, rfl, _⟩ := h; rfl
  obtain ⟨p, q0, L, d, ls, rfl, hF, hS, hnd, hls, hall, hTO, q⟩ := h
  have G_rank := ok_rank (P := P) (w := w) (base := base) T
  have hcode := hcd.symm.trans (Y.code T.m_in_order T.F_in_order)
  subst hcode
  refine ⟨_, pss_one (ps_ret (pe_sortK (x := "text") (y := "frame") (i0 := 0) (rk := rkL L) hr.in1.in1.units0 hr.in1.in1.depth rfl rfl T.m_sorted (pa_cons (pv 1) pa_nil) rfl (fun cc h => ?_) rfl rfl rfl Y.hd Y.bm rfl rfl rfl rfl rfl (by decide +kernel) (fun z hz => (show ∀ p ∈ ([("text", .local), ("frame", .free), ("rank", .globalImplicit)] : List (Str × NameKind)), p.2 = .free → p.1 = "frame" by decide +kernel) _ (PySem.mem_of_lookup hz) rfl) (by decide +kernel) (fun _ _ _ _ _ => rfl)
    (fun f c' cl s H => pe_call G_rank (hr.in1.in1.deeper _) rfl T.m_rank T.F_rank.kp T.b_rank .nil pass1 (PAs.h (pas_cons (pv 1) (pas_cons (pv 0) pas_nil)))))), ?_⟩
  · have h' : some (_ + 1) = some cc := h
    cases h'; rfl
  refine ⟨_, rfl, q0, ls, .ref p, rfl, hS, hls, hTO, rfl, fun l hl H2 sm => ?_, fun r ls' H' a1 a2 a3 a4 a5 a6 => q r ls' H' a1 a2 a3 a4 a5 a6⟩
  exact ⟨_, rfl, _, rfl, p, L, l, d, rfl, sqT_T hF hTO.tbl sm, hnd, (hall l hl).1, (hall l hl).2, fun q' H3 h1 h2 h3 => ⟨q', rfl, h1, h2, h3⟩⟩
theorem knot_ok {L kn : List Nat} {d : Nat} (h : kn.length ≤ d) (hm : ∀ c ∈ kn, c ∈ L) : okKnot L d kn = true := by
  unfold okKnot
  rw [decide_eq_true h, Bool.true_and, List.all_eq_true]
  exact fun c hc => decide_eq_true (hm c hc)
theorem seen_iff {f d : Nat} {l kn : List Nat} {n : Nat} : seen f d l kn n = true ↔ ∃ k, k < n ∧ (eldL f d l k).take kn.length = kn := by
  unfold seen falls
  rw [List.any_eq_true]
  constructor
  · rintro ⟨k, hk, e⟩; exact ⟨k, List.mem_range.mp hk, of_decide_eq_true e⟩
  · rintro ⟨k, hk, e⟩; exact ⟨k, List.mem_range.mpr hk, decide_eq_true e⟩
theorem eldL_mem {f d : Nat} {L l : List Nat} {k : Nat} (hl : ∀ c ∈ l, c ∈ f :: L) (hk : k ≤ l.length) : ∀ c ∈ eldL f d l k, c ∈ f :: L := fun c hc => by
  unfold eldL at hc
  obtain ⟨j, hj, rfl⟩ := List.mem_map.mp hc
  split
  · rw [List.getD_eq_getElem?_getD, List.getElem?_eq_getElem (by omega)]
    exact hl _ (List.getElem_mem _)
  · exact List.mem_cons_self
theorem seen_ok {f d : Nat} {L l kn : List Nat} (hl : ∀ c ∈ l, c ∈ f :: L) (h : seen f d l kn l.length = true) : kn.length ≤ d ∧ ∀ c ∈ kn, c ∈ f :: L := by
  obtain ⟨k, hk, e⟩ := seen_iff.mp h
  have hz := eldL_len f d l k
  refine ⟨?_, fun c hc => ?_⟩
  · have := congrArg List.length e
    rw [List.length_take, hz] at this; omega
  · rw [← e] at hc
    exact eldL_mem hl (by omega) c (List.mem_of_mem_take hc)
structure Kns (L : List Nat) (f d : Nat) (l : List Nat) (ls : List (List Nat)) : Prop where
  ord : ls.Pairwise (fun a b => ¬ rkL L b < rkL L a)
  nd : ls.Nodup
  mem : ∀ kn, kn ∈ ls ↔ seen f d l kn l.length = true
  len : ls.length ≤ 7 * l.length
theorem rkL_inj {L : List Nat} : ∀ {a b : List Nat}, (∀ c ∈ a, c ∈ L) → (∀ c ∈ b, c ∈ L) → rkL L a = rkL L b → a = b
  | [], [], _, _, _ => rfl
  | [], y :: b, _, _, h => by cases h
  | x :: a, [], _, _, h => by cases h
  | x :: a, y :: b, ha, hb, h => by
    unfold rkL at h
    rw [List.map_cons, List.map_cons] at h
    obtain ⟨h1, h2⟩ := List.cons.inj h
    rw [placeL_inj (ha x List.mem_cons_self) (hb y List.mem_cons_self) h1, rkL_inj (fun c hc => ha c (List.mem_cons_of_mem _ hc)) (fun c hc => hb c (List.mem_cons_of_mem _ hc)) h2]
theorem ord_one {L : List Nat} : ∀ {xs ys : List (List Nat)}, (∀ l ∈ xs, ∀ c ∈ l, c ∈ L) → xs.Pairwise (fun a b => ¬ rkL L b < rkL L a) → ys.Pairwise (fun a b => ¬ rkL L b < rkL L a) → xs.Nodup → ys.Nodup → (∀ l, l ∈ xs ↔ l ∈ ys) → xs = ys
  | [], [], _, _, _, _, _, _ => rfl
  | [], y :: ys, _, _, _, _, _, h => absurd ((h y).mpr List.mem_cons_self) (by simp)
  | x :: xs, [], _, _, _, _, _, h => absurd ((h x).mp List.mem_cons_self) (by simp)
  | x :: xs, y :: ys, hL, ox, oy, nx, ny, h => by
    obtain ⟨ox1, ox2⟩ := List.pairwise_cons.mp ox
    obtain ⟨oy1, oy2⟩ := List.pairwise_cons.mp oy
    obtain ⟨nx1, nx2⟩ := List.nodup_cons.mp nx
    obtain ⟨ny1, ny2⟩ := List.nodup_cons.mp ny
    have e : x = y := by
      rcases List.mem_cons.mp ((h x).mp List.mem_cons_self) with z | z
      · exact z
      · rcases List.mem_cons.mp ((h y).mpr List.mem_cons_self) with z2 | z2
        · exact z2.symm
        · have a1 : ¬ rkL L x < rkL L y := oy1 x z
          have a2 : ¬ rkL L y < rkL L x := ox1 y z2
          exact rkL_inj (hL x List.mem_cons_self) (hL y (List.mem_cons_of_mem _ z2)) (List.le_antisymm a2 a1)
    subst e
    rw [ord_one (fun l hl => hL l (List.mem_cons_of_mem _ hl)) ox2 oy2 nx2 ny2 fun l => ?_]
    constructor
    · intro hl
      rcases List.mem_cons.mp ((h l).mp (List.mem_cons_of_mem _ hl)) with z | z
      · rw [z] at hl; exact absurd hl nx1
      · exact z
    · intro hl
      rcases List.mem_cons.mp ((h l).mpr (List.mem_cons_of_mem _ hl)) with z | z
      · rw [z] at hl; exact absurd hl ny1
      · exact z
def spKnots (K : PySem.W.Frag) (T0 C1 : Addr) : Sp := fun vs H Q E => ∃ (p : Addr) (f : Nat) (L : List Nat) (d : Nat) (l : List Nat), vs = [.ref p, vt l] ∧ SqT K H p [vt (f :: L), .int d] ∧ (f :: L).Nodup ∧ (f :: L).length ≤ 100 ∧ d ≤ 6 ∧ l.length ≤ 1000 ∧ (∀ c ∈ l, c < 16 ^ 8) ∧
  ((∃ c ∈ l, c ∉ f :: L) → E (.ref C1) none H) ∧ ((∀ c ∈ l, c ∈ f :: L) → TO T0 H ∧ ∀ (r : Addr) (ls : List (List Nat)) (H' : Hp), Kns (f :: L) f d l ls → SameT T0 H H' → H r = none → H' r = some (.lst (ls.map vt)) → TO T0 H' → Q (.ref r) H')
theorem ok_knots {c0 T0 : Addr} (T : Txt K mg t) (Y : TabX K mg base "in_order" c0 T0) : FnOk P w K mg base (CX1 P w) 6 t.a_knots t.fd_knots ["frame", "text"] (spKnots K T0 t.c_NoText) := by
  refine T.F_knots.okx (k := 5) sc_knots (fun vs H Q E h => ?_) (fun cdv A outer s H vs Q E hr h => ?_)
  · obtain ⟨p, f, L, d, l, rfl, _⟩ := h; rfl
  obtain ⟨p, f, L, d, l, rfl, hF, hnd, hL, hd, hl, hc, q1, q2⟩ := h
  have G_checked := (ok_checked (P := P) (w := w) (base := base) T).mono (show 1 ≤ 5 by decide)
  have G_count_table := (ok_count_table (P := P) (w := w) (base := base) T).mono (show 3 ≤ 5 by decide)
  have G_in_order := ok_in_order (P := P) (w := w) (base := base) T Y
  refine ⟨_, (pss_cons (ps_expr (pe_call G_checked hr rfl T.m_checked T.F_checked.kp T.b_checked .nil passes1 (PAs.h (pas_cons (pv 0) (pas_cons (pv 1) pas_nil)))))
    (pss_one (ps_ret (pe_call G_in_order hr rfl T.m_in_order T.F_in_order.kp T.b_in_order .nil pass1 (PAs.h (pas_cons (pv 0) (pas_cons (pe_callTy (callListD rfl) rfl T.m_list bt_list (pa_cons (pe_call G_count_table hr rfl T.m_count_table T.F_count_table.kp T.b_count_table .nil pass1 (PAs.h (pas_cons (pv 0) (pas_cons (pv 1) pas_nil)))) pa_nil)) pas_nil))))))), ?_⟩
  refine ⟨_, rfl, _, rfl, p, f :: L, _, l, rfl, hF, hc, fun hall => ?_, fun h => q1 h⟩
  obtain ⟨hT0, q3⟩ := q2 hall
  refine ⟨_, rfl, _, rfl, _, rfl, p, f, L, d, l, rfl, hF, hnd, hL, hd, hl, hall, fun tb H2 kvs g2 htb e2 hq2 tab ko hkl => ?_⟩
  obtain ⟨ks, hks, ksn⟩ := ko
  have hkv : (kvs.map fun p => kV p.1) = ks.map vt := by
    have : (kvs.map fun p => kV p.1) = (kvs.map fun p => p.1).map kV := by rw [List.map_map]; rfl
    rw [this, hks, List.map_map]; rfl
  have hmem : ∀ kn, kn ∈ ks ↔ seen f d l kn l.length = true := fun kn => by
    rw [keys_mem hks]
    cases hv : valV kvs (key kn) with
    | none =>
      have := tab.non kn hv
      rw [this]; rfl
    | some u =>
      obtain ⟨_, _, _, hs⟩ := tab.som kn u hv
      rw [hs]; rfl
  have hlen : ks.length = kvs.length := by
    have := congrArg List.length hks
    rw [List.length_map, List.length_map] at this; exact this.symm
  refine ⟨tb, kvs, rfl, e2, fun D hD => ?_⟩
  rw [hkv]
  have g3 := g2.trans (same_new hD (.lst (ks.map vt)))
  have hT3 : TO T0 _ := hT0.same g3
  refine ⟨p, D, f :: L, _, ks, rfl, same_tup g3 hF, SqL.of upd_same, hnd, by omega, fun kn hk => ?_, hT3, fun r ls' H' a1 a2 a3 a4 a5 a6 => ?_⟩
  · obtain ⟨h1, h2⟩ := seen_ok hall ((hmem kn).mp hk)
    exact ⟨by omega, h2⟩
  · refine q3 r ls' H' ⟨a2, a1.nodup_iff.mpr ksn, fun kn => by rw [a1.mem_iff]; exact hmem kn, by rw [a1.length_eq]; omega⟩ ((SameT.of g3).trans a3) (g3.free a4) a5 a6
theorem lt_app {a b : List Nat} (h : a < b) : ∀ p : List Nat, p ++ a < p ++ b
  | [] => h
  | x :: p => List.cons_lt_cons_iff.mpr (.inr ⟨rfl, lt_app h p⟩)
theorem split_at {l : List Nat} {k : Nat} (h : k < l.length) : l = l.take k ++ l[k] :: l.drop (k + 1) := by
  rw [← List.drop_eq_getElem_cons h, List.take_append_drop]
theorem ahead_at {L one other : List Nat} {k : Nat} (h1 : one.take k = other.take k) (hk1 : k < one.length) (hk2 : k < other.length) (hne : one[k] ≠ other[k]) (m1 : ∀ c ∈ one, c ∈ L) (m2 : ∀ c ∈ other, c ∈ L) (hn : ¬ rkL L other < rkL L one) : placeL L one[k] < placeL L other[k] := by
  rcases Nat.lt_or_ge (placeL L one[k]) (placeL L other[k]) with z | z
  · exact z
  · have hp : placeL L one[k] ≠ placeL L other[k] := fun e => hne (placeL_inj (m1 _ (List.getElem_mem hk1)) (m2 _ (List.getElem_mem hk2)) e)
    have hlt : placeL L other[k] < placeL L one[k] := by omega
    refine absurd ?_ hn
    unfold rkL
    rw [split_at hk1, split_at hk2, List.map_append, List.map_append, ← h1]
    refine lt_app ?_ _
    rw [List.map_cons, List.map_cons]
    exact List.cons_lt_cons_iff.mpr (.inl hlt)
theorem ahead_end {L one other : List Nat} {m : Nat} (hm : other.length ≤ m ∨ one.length ≤ m) (h1 : one.take m = other.take m) (hne : one ≠ other) (hn : ¬ rkL L other < rkL L one) : one.length < other.length := by
  rcases Nat.lt_or_ge one.length other.length with z | z
  · exact z
  · have e : other = one.take other.length := by
      have h2 := congrArg (List.take other.length) h1
      rw [List.take_take, List.take_take] at h2
      rcases hm with hm | hm
      · rw [Nat.min_eq_left hm, List.take_length] at h2; exact h2.symm
      · rw [Nat.min_eq_left (by omega), List.take_length] at h2; exact h2.symm
    have hl : other.length < one.length := by
      rcases Nat.lt_or_ge other.length one.length with y | y
      · exact y
      · refine absurd ?_ hne
        rw [e, List.take_of_length_le (by omega)]
    refine absurd ?_ hn
    have e2 : one = other ++ one[other.length] :: one.drop (other.length + 1) := by
      conv => lhs; rw [split_at hl]
      rw [← e]
    unfold rkL
    rw [e2, List.map_append]
    have := lt_app (List.nil_lt_cons (placeL L one[other.length]) (List.map (placeL L) (one.drop (other.length + 1)))) (other.map (placeL L))
    rw [List.append_nil] at this
    exact this
def spAhead : Sp := fun vs H Q _ => ∃ L one other : List Nat, vs = [vt L, vt one, vt other] ∧ L.Nodup ∧ one.length ≤ 4000 ∧ other.length ≤ 4000 ∧ (∀ c ∈ one, c ∈ L) ∧ (∀ c ∈ other, c ∈ L) ∧ one ≠ other ∧ ¬ rkL L other < rkL L one ∧ Q (.bl true) H
theorem ok_L_ahead (T : Txt K mg t) : FnOk P w K mg base (CX1 P w) 1 t.a_L_ahead t.fd_L_ahead ["letters", "one", "other"] spAhead := by
  refine T.F_L_ahead.okn (k := 0) sc_L_ahead (fun vs H Q E h => ?_) (fun cdv A outer s H vs Q E hr h => ?_)
  · obtain ⟨L, one, other, rfl, _⟩ := h; rfl
  obtain ⟨L, one, other, rfl, hnd, h1, h2, m1, m2, hne, hn, q⟩ := h
  have z1 : one.length ≤ sizeLine := by rw [sizeLine_eq]; omega
  have z2 : other.length ≤ sizeLine := by rw [sizeLine_eq]; omega
  refine ⟨_, (pss_cons (ps_for PassesOwn.never rfl (pi_range1 rfl T.m_range (pa_cons (pe_callB (callMin rfl) rfl T.m_min bt_min (PAs.h (pas_cons (pe_callB call_len rfl T.m_len bt_len (pa_cons (pv 1) pa_nil)) (pas_cons (pe_callB call_len rfl T.m_len bt_len (pa_cons (pv 2) pa_nil)) pas_nil)))) pa_nil)) (pg_name (i := 3) sc_L_ahead.nd rfl (Or.inl rfl)) (pss_one (ps_if (pt_cmpR (oNeN (hr.units0)) (pe_ix ixAny (pv 1) (pv 3) (fun _ _ => rfl)) (pe_ix ixAny (pv 2) (pv 3) (fun _ _ => rfl)) (nomark _)) (pss_one (ps_ret (pe_cmpR oLt (pe_bm PySem.F.plainAttrs_str PySem.F.slot_str_find PySem.F.type_str_find mt_find (pv 0) (pa_cons (pe_ix ixAny (pv 1) (pv 3) (fun _ _ => rfl)) pa_nil)) (pe_bm PySem.F.plainAttrs_str PySem.F.slot_str_find PySem.F.type_str_find mt_find (pv 0) (pa_cons (pe_ix ixAny (pv 2) (pv 3) (fun _ _ => rfl)) pa_nil)) (nomark _)))) pss_nil)))
    (pss_one (ps_ret (pe_cmpR oLt (pe_callB call_len rfl T.m_len bt_len (pa_cons (pv 1) pa_nil)) (pe_callB call_len rfl T.m_len bt_len (pa_cons (pv 2) pa_nil)) (nomark _))))), ?_⟩
  repeat array_get_dec
  refine .inl ⟨_, _, rfl, ?_⟩
  try dsimp (config := { proj := false, eta := false, zeta := false, iota := false }) only [tNil, tC]
  obtain ⟨m, em, hm1, hm2, hm3⟩ : ∃ m : Nat, (if ((other.length : Nat) : Int) < ((one.length : Nat) : Int) then ((other.length : Nat) : Int) else ((one.length : Nat) : Int)) = (m : Int) ∧ m ≤ one.length ∧ m ≤ other.length ∧ (other.length ≤ m ∨ one.length ≤ m) := by
    split
    · exact ⟨other.length, rfl, by omega, by omega, by omega⟩
    · exact ⟨one.length, rfl, by omega, by omega, by omega⟩
  rw [em]
  refine ⟨_, rfl, by omega, by omega, ?_⟩
  refine for_range (fun n σ H' => ∃ r1 : Option V, σ = [some (vt L), some (vt one), some (vt other), r1] ∧ H' = H ∧ one.take n = other.take n) ⟨_, rfl, rfl, by rw [List.take_zero, List.take_zero]⟩ ?_ ?_
  · rintro n _ _ hn' ⟨r1, rfl, rfl, he⟩
    have hk1 : n < one.length := by omega
    have hk2 : n < other.length := by omega
    repeat array_get_dec
    refine ixS z1 (show atI one (0 + (n : Int)) = some one[n] by rw [Int.zero_add]; exact atI_nat (List.getElem?_eq_getElem hk1)) ?_
    repeat array_get_dec
    refine ixS z2 (show atI other (0 + (n : Int)) = some other[n] by rw [Int.zero_add]; exact atI_nat (List.getElem?_eq_getElem hk2)) ?_
    repeat array_get_dec
    refine ifn2 (fun c => ?_) (fun c => ?_)
    · have hlt := ahead_at he hk1 hk2 (fun z => c (by rw [z])) m1 m2 hn
      refine ⟨_, rfl, rfl, _, rfl, _, rfl, ixS z1 (show atI one (0 + (n : Int)) = some one[n] by rw [Int.zero_add]; exact atI_nat (List.getElem?_eq_getElem hk1)) ?_⟩
      refine ⟨L, one[n], rfl, rfl, m1 _ (List.getElem_mem hk1), fun j hj => ?_⟩
      obtain rfl := at_uniq hnd (placeL_at (m1 _ (List.getElem_mem hk1))) hj
      refine ⟨_, rfl, rfl, _, rfl, _, rfl, ixS z2 (show atI other (0 + (n : Int)) = some other[n] by rw [Int.zero_add]; exact atI_nat (List.getElem?_eq_getElem hk2)) ?_⟩
      refine ⟨L, other[n], rfl, rfl, m2 _ (List.getElem_mem hk2), fun j hj => ?_⟩
      obtain rfl := at_uniq hnd (placeL_at (m2 _ (List.getElem_mem hk2))) hj
      refine .inl ⟨_, _, rfl, rfl, ?_⟩
      rw [← decide_eq_true (show ((placeL L one[n] : Nat) : Int) < ((placeL L other[n] : Nat) : Int) by omega)] at q
      exact q
    · have hc : one[n] = other[n] := by simpa using vtx.mp c
      repeat array_get_dec
      refine ⟨rfl, ?_⟩
      rw [List.take_add_one, List.take_add_one, he, List.getElem?_eq_getElem hk1, List.getElem?_eq_getElem hk2, hc]
  · rintro _ _ ⟨r1, rfl, rfl, he⟩
    rw [Int.toNat_natCast] at he
    have hlt := ahead_end (m := m) hm3 he hne hn
    repeat array_get_dec
    rw [← decide_eq_true (show ((one.length : Nat) : Int) < ((other.length : Nat) : Int) by omega)] at q
    exact q
def spRising (K : PySem.W.Frag) : Sp := fun vs H Q _ => ∃ (L : List Nat) (r : Addr) (ls : List (List Nat)), vs = [vt L, .ref r] ∧ H r = some (.lst (ls.map vt)) ∧ L.Nodup ∧ ls.length ≤ 100000 ∧ (∀ l ∈ ls, l.length ≤ 4000 ∧ ∀ c ∈ l, c ∈ L) ∧ ls.Nodup ∧ ls.Pairwise (fun a b => ¬ rkL L b < rkL L a) ∧ Q (.bl true) H
theorem ok_L_rising (T : Txt K mg t) : FnOk P w K mg base (CX1 P w) 2 t.a_L_rising t.fd_L_rising ["letters", "found"] (spRising K) := by
  refine T.F_L_rising.okn (k := 1) sc_L_rising (fun vs H Q E h => ?_) (fun cdv A outer s H vs Q E hr h => ?_)
  · obtain ⟨L, r, ls, rfl, _⟩ := h; rfl
  obtain ⟨L, r, ls, rfl, er, hnd, hls, hall, lnd, lord, q⟩ := h
  have G_L_ahead := ok_L_ahead (P := P) (w := w) (base := base) T
  refine ⟨_, (pss_cons (ps_if (pt_not (pt_val (pe_callB isiAny rfl T.m_isinstance bt_isinstance (PAs.h (pas_cons (pv 1) (pas_cons (pe_bltn (v := .ty "list") rfl T.m_list bt_list rfl) pas_nil)))))) (pss_one (ps_ret pe_bl)) pss_nil)
    (pss_cons (ps_for PassesOwn.never rfl (pi_range1 rfl T.m_range (pa_cons (pe_callB call_len rfl T.m_len bt_len (pa_cons (pv 1) pa_nil)) pa_nil)) (pg_name (i := 2) sc_L_rising.nd rfl (Or.inl rfl)) (pss_cons (ps_if (pt_not (pt_val (pe_callB isiAny rfl T.m_isinstance bt_isinstance (PAs.h (pas_cons (pe_ix ixAny (pv 1) (pv 2) (fun _ _ => rfl)) (pas_cons (pe_bltn (v := .ty "str") rfl T.m_str bt_str rfl) pas_nil)))))) (pss_one (ps_ret pe_bl)) pss_nil)
    (pss_one (ps_if (PW.pt (pw_and (pt_cmpR op_gt (pv 2) pe_int (nomark _)) (pw_and1 (pt_not (pt_val (pe_call G_L_ahead hr rfl T.m_L_ahead T.F_L_ahead.kp T.b_L_ahead .nil pass1 (PAs.h (pas_cons (pv 0) (pas_cons (pe_ix ixAny (pv 1) (pe_op op_sub (pv 2) pe_int) (fun _ _ => rfl)) (pas_cons (pe_ix ixAny (pv 1) (pv 2) (fun _ _ => rfl)) pas_nil)))))))))) (pss_one (ps_ret pe_bl)) pss_nil))))
    (pss_one (ps_ret pe_bl)))), ?_⟩
  refine ⟨_, rfl, .inl ⟨_, _, _, true, rfl, .lst er, kit_same K _, true, rfl, iteF ?_⟩⟩
  have hS : SqL K H r (ls.map vt) := SqL.of er
  repeat array_get_dec
  rw [List.length_map]
  refine ⟨by omega, by omega, ?_⟩
  refine for_range (fun n σ H' => ∃ r1 : Option V, σ = [some (vt L), some (.ref r), r1] ∧ H' = H) ⟨_, rfl, rfl⟩ ?_ ?_
  · rintro n _ _ hn ⟨r1, rfl, rfl⟩
    rw [Int.toNat_natCast] at hn
    have ek : ∀ (j : Nat) (hj : j < ls.length), atI (ls.map vt) (j : Int) = some (vt ls[j]) := fun j hj => atI_nat (by rw [List.getElem?_map, List.getElem?_eq_getElem hj]; rfl)
    repeat array_get_dec
    refine ixL hS (show atI (ls.map vt) (0 + (n : Int)) = some (vt ls[n]) by rw [Int.zero_add]; exact ek n hn) ?_
    refine .inl ⟨_, _, _, true, rfl, .str _, kit_same K _, true, rfl, iteF ?_⟩
    repeat array_get_dec
    refine if2 (fun c => ?_) (fun c => ?_)
    · have h0 : n - 1 < ls.length := by omega
      have hlt : n - 1 < n := by omega
      repeat array_get_dec
      refine ixL hS (show atI (ls.map vt) (0 + (n : Int) - 1) = some (vt ls[n - 1]) by rw [show (0 + (n : Int) - 1) = ((n - 1 : Nat) : Int) by omega]; exact ek _ h0) ?_
      repeat array_get_dec
      refine ixL hS (show atI (ls.map vt) (0 + (n : Int)) = some (vt ls[n]) by rw [Int.zero_add]; exact ek n hn) ?_
      have a1 := hall _ (List.getElem_mem h0)
      have a2 := hall _ (List.getElem_mem hn)
      refine ⟨L, ls[n - 1], ls[n], rfl, hnd, a1.1, a2.1, a1.2, a2.2, fun z => ?_, List.pairwise_iff_getElem.mp lord _ _ h0 hn hlt, ?_⟩
      · have := (List.getElem_inj lnd).mp z; omega
      refine ⟨true, rfl, iteF ?_⟩
      exact ⟨_, rfl, rfl⟩
    · repeat array_get_dec
      rfl
  · rintro _ _ ⟨r1, rfl, rfl⟩
    exact q
theorem filter_part {α : Type} (p q r : α → Bool) : ∀ l : List α, (∀ x ∈ l, r x = (p x || q x) ∧ (p x && q x) = false) → (l.filter r).length = (l.filter p).length + (l.filter q).length
  | [], _ => rfl
  | x :: l, h => by
    obtain ⟨h1, h2⟩ := h x List.mem_cons_self
    have ih := filter_part p q r l fun y hy => h y (List.mem_cons_of_mem _ hy)
    cases hp : p x with
    | true =>
      have hq : q x = false := by rw [hp] at h2; simpa using h2
      have hr : r x = true := by rw [h1, hp]; rfl
      rw [List.filter_cons_of_pos hr, List.filter_cons_of_pos hp, List.filter_cons_of_neg (by rw [hq]; exact Bool.false_ne_true), List.length_cons, List.length_cons, ih]; omega
    | false =>
      cases hq : q x with
      | true =>
        have hr : r x = true := by rw [h1, hq, hp]; rfl
        rw [List.filter_cons_of_pos hr, List.filter_cons_of_neg (by rw [hp]; exact Bool.false_ne_true), List.filter_cons_of_pos hq, List.length_cons, List.length_cons, ih]; omega
      | false =>
        have hr : r x = false := by rw [h1, hq, hp]; rfl
        rw [List.filter_cons_of_neg (by rw [hr]; exact Bool.false_ne_true), List.filter_cons_of_neg (by rw [hp]; exact Bool.false_ne_true), List.filter_cons_of_neg (by rw [hq]; exact Bool.false_ne_true), ih]
theorem cnt_sum (F : Nat → Bool) (g : Nat → Option Nat) (n : Nat) : ∀ L : List Nat, L.Nodup → (L.map fun c => ((List.range n).filter fun k => F k && decide (g k = some c)).length).sum = ((List.range n).filter fun k => F k && L.any fun c => decide (g k = some c)).length
  | [], _ => by
    rw [List.map_nil, List.sum_nil]
    have : ((List.range n).filter fun k => F k && ([] : List Nat).any fun c => decide (g k = some c)) = [] := List.filter_eq_nil_iff.mpr fun k _ => by simp
    rw [this]; rfl
  | c :: L, nd => by
    obtain ⟨n1, n2⟩ := List.nodup_cons.mp nd
    rw [List.map_cons, List.sum_cons, cnt_sum F g n L n2]
    rw [filter_part (fun k => F k && decide (g k = some c)) (fun k => F k && L.any fun c => decide (g k = some c)) (fun k => F k && (c :: L).any fun c => decide (g k = some c)) _ fun k _ => ?_]
    rw [List.any_cons]
    refine ⟨by cases F k <;> simp, ?_⟩
    cases hF : F k with
    | false => rfl
    | true =>
      by_cases z : g k = some c
      · have : (L.any fun c => decide (g k = some c)) = false := List.any_eq_false.mpr fun x hx => by
          simp only [decide_eq_true_eq]
          intro y
          rw [z] at y; cases y; exact n1 hx
        rw [this]; simp
      · rw [decide_eq_false z]; rfl
theorem cntL_sum {L : List Nat} {f d : Nat} {l kn : List Nat} {n : Nat} (hL : L.Nodup) (hn : n ≤ l.length) (hl : ∀ c ∈ l, c ∈ L) : (cntL L f d l kn n).sum = ((List.range n).filter (falls f d l kn)).length := by
  unfold cntL
  rw [cnt_sum (falls f d l kn) (fun k => l[k]?) n L hL]
  congr 1
  refine List.filter_congr fun k hk => ?_
  have hk' : k < l.length := by have := List.mem_range.mp hk; omega
  have : (L.any fun c => decide (l[k]? = some c)) = true := List.any_eq_true.mpr ⟨l[k], hl _ (List.getElem_mem hk'), decide_eq_true (List.getElem?_eq_getElem hk')⟩
  rw [this, Bool.and_true]
theorem seen_pos {f d : Nat} {l kn : List Nat} {n : Nat} : seen f d l kn n = decide (0 < ((List.range n).filter (falls f d l kn)).length) := by
  unfold seen
  rw [Bool.eq_iff_iff, decide_eq_true_eq, List.length_pos_iff, List.any_eq_true]
  constructor
  · rintro ⟨k, hk, h⟩ z
    have := List.mem_filter.mpr ⟨hk, h⟩
    rw [z] at this; cases this
  · intro h
    obtain ⟨k, hk⟩ := List.exists_mem_of_ne_nil _ h
    exact ⟨k, (List.mem_filter.mp hk).1, (List.mem_filter.mp hk).2⟩
theorem falls_app {f d : Nat} {l kn : List Nat} {k c : Nat} (h : kn.length < d) : falls f d l (kn ++ [c]) k = (falls f d l kn k && decide ((eldL f d l k).getD kn.length 0 = c)) := by
  have hz := eldL_len f d l k
  have hk : kn.length < (eldL f d l k).length := by omega
  unfold falls
  rw [Bool.eq_iff_iff, Bool.and_eq_true, decide_eq_true_eq, decide_eq_true_eq, decide_eq_true_eq, List.length_append, List.length_singleton, List.take_add_one, List.getElem?_eq_getElem hk, List.getD_eq_getElem?_getD, List.getElem?_eq_getElem hk]
  show _ ++ [(eldL f d l k)[kn.length]] = kn ++ [c] ↔ _ ∧ (eldL f d l k)[kn.length] = c
  constructor
  · intro e
    have hlen : ((eldL f d l k).take kn.length).length = kn.length := by rw [List.length_take]; omega
    obtain ⟨e1, e2⟩ := List.append_inj e hlen
    exact ⟨e1, by simpa using e2⟩
  · rintro ⟨e1, e2⟩
    rw [e1, e2]
def totL (L M : List Nat) (f d : Nat) (l kn : List Nat) (n : Nat) : List Nat := L.map fun c => ((List.range n).filter fun k => (falls f d l kn k && decide ((eldL f d l k).getD kn.length 0 ∈ M)) && decide (l[k]? = some c)).length
theorem totL_len (L M : List Nat) (f d : Nat) (l kn : List Nat) (n : Nat) : (totL L M f d l kn n).length = L.length := List.length_map ..
theorem totL_nil (L : List Nat) (f d : Nat) (l kn : List Nat) (n : Nat) : totL L [] f d l kn n = List.replicate L.length 0 := by
  unfold totL
  refine List.ext_getElem? fun j => ?_
  rw [List.getElem?_map, List.getElem?_replicate]
  by_cases hj : j < L.length
  · rw [List.getElem?_eq_getElem hj, if_pos hj, Option.map_some]
    congr 1
    rw [List.length_eq_zero_iff, List.filter_eq_nil_iff]
    intro k hk
    simp
  · rw [List.getElem?_eq_none (by omega), if_neg hj]; rfl
theorem totL_step {L M : List Nat} {f d : Nat} {l kn : List Nat} {n c : Nat} (h : kn.length < d) (hc : c ∉ M) (j : Nat) : (totL L (M ++ [c]) f d l kn n)[j]? = (totL L M f d l kn n)[j]?.bind fun a => (cntL L f d l (kn ++ [c]) n)[j]?.map fun b => a + b := by
  unfold totL cntL
  rw [List.getElem?_map, List.getElem?_map, List.getElem?_map]
  cases L[j]? with
  | none => rfl
  | some x =>
    show some _ = some _
    congr 1
    refine filter_part _ _ _ _ fun k _ => ?_
    rw [falls_app h]
    generalize (eldL f d l k).getD kn.length 0 = e
    cases falls f d l kn k with
    | false => exact ⟨by simp, by simp⟩
    | true =>
      by_cases z : l[k]? = some x
      · rw [decide_eq_true z]
        refine ⟨?_, ?_⟩
        · rw [Bool.eq_iff_iff]; simp
        · by_cases y : e = c
          · rw [y, decide_eq_false hc]; simp
          · rw [decide_eq_false y]; simp
      · rw [decide_eq_false z]; exact ⟨by simp, by simp⟩
theorem totL_all {f d : Nat} {L l kn : List Nat} (h : kn.length < d) (hl : ∀ c ∈ l, c ∈ f :: L) : totL (f :: L) (f :: L) f d l kn l.length = cntL (f :: L) f d l kn l.length := by
  unfold totL cntL
  refine List.map_congr_left fun c _ => ?_
  congr 1
  refine List.filter_congr fun k hk => ?_
  have hk' := List.mem_range.mp hk
  have hz := eldL_len f d l k
  have : (eldL f d l k).getD kn.length 0 ∈ f :: L := by
    rw [List.getD_eq_getElem?_getD, List.getElem?_eq_getElem (by omega)]
    exact eldL_mem hl (by omega) _ (List.getElem_mem _)
  rw [decide_eq_true this, Bool.and_true]
def Due (f d : Nat) (l : List Nat) (kvs : List (Key × V)) : Prop := ∀ kn, (valV kvs (key kn)).isSome = seen f d l kn l.length
def spParted (K : PySem.W.Frag) : Sp := fun vs H Q _ => ∃ (p so du : Addr) (f : Nat) (L : List Nat) (d : Nat) (l : List Nat) (ks : List (List Nat)) (kvs : List (Key × V)), vs = [.ref p, vt l, .ref so, .ref du] ∧ SqT K H p [vt (f :: L), .int d] ∧ (f :: L).Nodup ∧ (f :: L).length ≤ 100 ∧ d ≤ 6 ∧ l.length ≤ 1000 ∧ (∀ c ∈ l, c < 16 ^ 8) ∧ (∀ c ∈ l, c ∈ f :: L) ∧
  SqL K H so (ks.map vt) ∧ (∀ kn ∈ ks, seen f d l kn l.length = true) ∧ H du = some (.dK kvs) ∧ Due f d l kvs ∧ ∀ H', Same H H' → Q (.bl true) H'
theorem ok_L_parted (T : Txt K mg t) : FnOk P w K mg base (CX1 P w) 5 t.a_L_parted t.fd_L_parted ["frame", "text", "some", "due"] (spParted K) := by
  refine T.F_L_parted.okn (k := 4) sc_L_parted (fun vs H Q E h => ?_) (fun cdv A outer s H vs Q E hr h => ?_)
  · obtain ⟨p, so, du, f, L, d, l, ks, kvs, rfl, _⟩ := h; rfl
  obtain ⟨p, so, du, f, L, d, l, ks, kvs, rfl, hF, hnd, hL, hd, hl, hc, hall, hS, hks, edu, due, q⟩ := h
  have G_counts := ok_counts (P := P) (w := w) (base := base) T
  have zL : (f :: L).length ≤ sizeLine := by rw [sizeLine_eq]; omega
  have cnt : ∀ {H1 : Hp} {kn : List Nat} {Q1 : VK} {E1 : XK}, Same H H1 → kn.length ≤ d → (∀ c ∈ kn, c ∈ f :: L) → (∀ r H2, Same H1 H2 → H1 r = none → H2 r = some (.lst (ivs (cntL (f :: L) f d l kn l.length))) → Q1 (.ref r) H2) → spCounts K t.c_NoText t.c_NoKnot [.ref p, vt l, vt kn] H1 Q1 E1 := fun {H1 kn Q1 E1} g hk hm k =>
    ⟨p, f, L, d, l, kn, rfl, same_tup g hF, hnd, hL, hd, hl, hc, by omega, fun ⟨c, h1, h2⟩ => absurd (hall c h1) h2, fun _ H2 g2 => ⟨fun z => (by rw [knot_ok hk hm] at z; cases z), fun _ r h1 h2 => k r H2 g2 h1 h2⟩⟩
  refine ⟨_, (pss_cons (ps_for PassesOwn.never rfl (piAny (pv 2)) (pg_name (i := 4) sc_L_parted.nd rfl (Or.inl rfl)) (pss_cons (ps_set (i := 5) sc_L_parted.nd rfl (Or.inl rfl) (pe_call G_counts hr rfl T.m_counts T.F_counts.kp T.b_counts .nil pass1 (PAs.h (pas_cons (pv 0) (pas_cons (pv 1) (pas_cons (pv 4) pas_nil))))))
    (pss_cons (ps_if (pt_cmpR oLt (pe_callB (callSum rfl) rfl T.m_sum bt_sum (pa_cons (pv 5) pa_nil)) pe_int (nomark _)) (pss_one (ps_ret pe_bl)) pss_nil)
    (pss_one (ps_if (pt_cmpR oLt (pe_callB call_len rfl T.m_len bt_len (pa_cons (pv 4) pa_nil)) (pe_ix ixAny (pv 0) pe_int (fun _ _ => rfl)) (nomark _)) (pss_cons (ps_set (i := 6) sc_L_parted.nd rfl (Or.inr rfl) (pe_lc (compSc_of (N := ["sign"]) (cap := [none]) (by kernel_rfl)) rfl (piAny (pe_ix ixAny (pv 0) pe_int (fun _ _ => rfl))) ⟨fun _ => (pg_name (i := 0) (show List.Nodup (["sign"] : List Str) by decide +kernel) rfl (Or.inl rfl)), fun _ => pf_nil, fun _ => pe_int⟩))
    (pss_cons (ps_for PassesOwn.never rfl (piAny (pe_ix ixAny (pv 0) pe_int (fun _ _ => rfl))) (pg_name (i := 7) sc_L_parted.nd rfl (Or.inl rfl)) (pss_cons (ps_set (i := 8) sc_L_parted.nd rfl (Or.inr rfl) (pe_call G_counts hr rfl T.m_counts T.F_counts.kp T.b_counts .nil pass1 (PAs.h (pas_cons (pv 0) (pas_cons (pv 1) (pas_cons (pe_op oAddN (pv 4) (pv 7)) pas_nil))))))
    (pss_cons (ps_if (pt_cmpR (oNeN (hr.units0)) (pe_cmpR op_gt (pe_callB (callSum rfl) rfl T.m_sum bt_sum (pa_cons (pv 8) pa_nil)) pe_int (nomark _)) (pe_cmp (pc_din (hu_of hr) (pe_op oAddN (pv 4) (pv 7)) (pv 3))) (nomark _)) (pss_one (ps_ret pe_bl)) pss_nil)
    (pss_one (ps_set (i := 6) sc_L_parted.nd rfl (Or.inr rfl) (pe_lc (compSc_of (N := ["k", "total", "below"]) (cap := [none, some 6, some 8]) (by kernel_rfl)) rfl (pi_range1 rfl T.m_range (pa_cons (pe_callB call_len rfl T.m_len bt_len (pa_cons (pv 6) pa_nil)) pa_nil)) ⟨fun _ => (pg_name (i := 0) (show List.Nodup (["k", "total", "below"] : List Str) by decide +kernel) rfl (Or.inl rfl)), fun _ => pf_nil, fun _ => (pe_op oAddN (pe_ix ixAny (pv 1) (pv 0) (fun _ _ => rfl)) (pe_ix ixAny (pv 2) (pv 0) (fun _ _ => rfl)))⟩))))))
    (pss_one (ps_if (pt_cmpR (oNeN (hr.units0)) (pv 6) (pv 5) (nomark _)) (pss_one (ps_ret pe_bl)) pss_nil)))) pss_nil)))))
    (pss_one (ps_ret pe_bl))), ?_⟩
  refine ⟨_, rfl, .inl ⟨so, _, rfl, hS, ?_⟩⟩
  refine for_walk walk_list (fun i σ H' => ∃ r1 r2 r3 r4 r5 : Option V, σ = [some (.ref p), some (vt l), some (.ref so), some (.ref du), r1, r2, r3, r4, r5] ∧ Same H H') ⟨_, _, _, _, _, rfl, Same.refl _⟩ (fun i σ H' _ ⟨_, _, _, _, _, _, g⟩ => g.seq hS) ?_ ?_
  · rintro i x _ H1 hx ⟨r1, r2, r3, r4, r5, rfl, g1⟩
    rw [List.getElem?_map] at hx
    obtain ⟨kn, hkn, rfl⟩ : ∃ kn, kn ∈ ks ∧ x = vt kn := by
      cases z : ks[i]? with
      | none => rw [z] at hx; cases hx
      | some kn => rw [z] at hx; exact ⟨kn, List.mem_of_getElem? z, (Option.some.inj hx).symm⟩
    have hsn := hks kn hkn
    obtain ⟨hk1, hk2⟩ := seen_ok hall hsn
    refine ⟨_, rfl, _, rfl, _, rfl, ?_⟩
    try dsimp (config := { proj := false, eta := false, zeta := false, iota := false }) only [tNil, tC]
    refine cnt g1 hk1 hk2 fun r H2 g2 hr er => ?_
    have g12 := g1.trans g2
    have hsum := cntL_sum (f := f) (d := d) (kn := kn) hnd (Nat.le_refl _) hall
    have hpos : 0 < ((List.range l.length).filter (falls f d l kn)).length := by rw [seen_pos] at hsn; exact of_decide_eq_true hsn
    have isum : ∀ cs : List Nat, (cs.map fun (c : Nat) => (c : Int)).sum = ((cs.sum : Nat) : Int) := fun cs => by
      induction cs with
      | nil => rfl
      | cons c cs ih => rw [List.map_cons, List.sum_cons, List.sum_cons, ih]; omega
    refine ⟨_, rfl, r, _, rfl, SqL.of er, ?_⟩
    rw [isum, hsum]
    repeat array_get_dec
    refine ifF (by omega) ?_
    have zk : kn.length ≤ sizeLine := by rw [sizeLine_eq]; omega
    repeat array_get_dec
    refine if2 (fun c1 => ?_) (fun c1 => ?_)
    rotate_left
    · exact ⟨_, _, _, _, _, rfl, g12⟩
    have c1' : kn.length < d := by omega
    refine ⟨_, rfl, .inr (.inl ⟨p, _, 0, _, rfl, rfl, same_tup g12 hF, rfl, .inr (.inr ⟨_, rfl, fun D hD cp => ?_⟩)⟩)⟩
    refine lc_vals (walk_tx (f :: L)) (caps := []) (fun _ v => v = .int 0) (fun _ => trivial) (by rw [List.length_map, sizeLine_eq]; omega) (fun i x ys C hx hC => hC _ rfl) ?_
    intro ys hy hR
    have ey : ys = ivs (totL (f :: L) [] f d l kn l.length) := by
      rw [totL_nil]
      rw [List.length_map] at hy
      refine List.ext_getElem? fun j => ?_
      rw [ivs_get, List.getElem?_replicate]
      by_cases hj : j < (f :: L).length
      · rw [if_pos hj, List.getElem?_eq_getElem (by omega)]
        exact congrArg some (hR j _ (List.getElem?_eq_getElem (by omega)))
      · rw [if_neg hj, List.getElem?_eq_none (by omega)]; rfl
    rw [ey]
    have g3 : Same H (upd H2 D (.lst (ivs (totL (f :: L) [] f d l kn l.length)))) := by array_mem_dec
    have er3 : upd H2 D (.lst (ivs (totL (f :: L) [] f d l kn l.length))) r = some (.lst (ivs (cntL (f :: L) f d l kn l.length))) := by array_mem_dec
    have eD3 : upd H2 D (.lst (ivs (totL (f :: L) [] f d l kn l.length))) D = some (.lst (ivs (totL (f :: L) [] f d l kn l.length))) := upd_same
    generalize upd H2 D (.lst (ivs (totL (f :: L) [] f d l kn l.length))) = H3 at g3 er3 eD3 ⊢
    clear hD hR hy
    refine ⟨_, rfl, .inr (.inl ⟨p, _, 0, _, rfl, rfl, same_tup g3 hF, rfl, .inr (.inr ⟨_, rfl, ?_⟩)⟩)⟩
    refine for_walk (walk_tx (f :: L)) (fun j σ H' => ∃ (Dt : Addr) (r4 r5 : Option V), σ = [some (.ref p), some (vt l), some (.ref so), some (.ref du), some (vt kn), some (.ref r), some (.ref Dt), r4, r5] ∧ Same H H' ∧ H' r = some (.lst (ivs (cntL (f :: L) f d l kn l.length))) ∧ H' Dt = some (.lst (ivs (totL (f :: L) ((f :: L).take j) f d l kn l.length)))) ⟨D, _, _, rfl, g3, er3, eD3⟩ (fun _ _ _ _ _ => trivial) ?_ ?_
    · rintro j x _ H4 hx ⟨Dt, r4, r5, rfl, g4, er4, eD4⟩
      obtain ⟨c, hcj, rfl⟩ := sign_at hx
      have hjl : j < (f :: L).length := (List.getElem?_eq_some_iff.mp hcj).1
      have hcm : c ∈ f :: L := List.mem_of_getElem? hcj
      have hcn : c ∉ (f :: L).take j := fun z => by
        obtain ⟨i, hi, e⟩ := List.getElem_of_mem z
        rw [List.length_take] at hi
        rw [List.getElem_take] at e
        have := at_uniq hnd hcj (show (f :: L)[i]? = some c by rw [List.getElem?_eq_getElem (by omega), e])
        omega
      have hk3 : (kn ++ [c]).length ≤ d := by rw [List.length_append, List.length_singleton]; omega
      have hk4 : ∀ x ∈ kn ++ [c], x ∈ f :: L := fun x hx => by
        rcases List.mem_append.mp hx with z | z
        · exact hk2 x z
        · rw [List.mem_singleton.mp z]; exact hcm
      refine ⟨_, rfl, _, rfl, _, rfl, _, rfl, .inr (.inl (catX (by rw [sizeLine_eq]; show _ + 1 ≤ _; omega) ?_))⟩
      try dsimp (config := { proj := false, eta := false, zeta := false, iota := false }) only [tNil, tC]
      refine cnt g4 hk3 hk4 fun r5' H5 g5 hr5 e5 => ?_
      have hsum2 := cntL_sum (f := f) (d := d) (kn := kn ++ [c]) hnd (Nat.le_refl _) hall
      refine ⟨_, rfl, r5', _, rfl, SqL.of e5, ?_⟩
      rw [isum, hsum2]
      repeat array_get_dec
      refine ⟨du, _, rfl, DGet.k (k := key (kn ++ [c])) (g5 _ _ (g4 _ _ edu)), ?_⟩
      have hdq : decide ((((List.range l.length).filter (falls f d l (kn ++ [c]))).length : Int) > 0) = (valV kvs (key (kn ++ [c]))).isSome := by
        rw [due, seen_pos, Bool.eq_iff_iff, decide_eq_true_eq, decide_eq_true_eq]; omega
      refine .inl ⟨rfl, _, rfl, ?_⟩
      refine ifnF (by rw [← hdq]) ?_
      have e4 := g5 _ _ eD4
      repeat array_get_dec
      rw [ivs_len, totL_len]
      refine ⟨by omega, by omega, fun D2 hD2 cp2 => ?_⟩
      refine lc_vals walk_range (caps := [some (.ref Dt), some (.ref r5')]) (fun i v => ∃ a b : Nat, (totL (f :: L) ((f :: L).take j) f d l kn l.length)[i]? = some a ∧ (cntL (f :: L) f d l (kn ++ [c]) l.length)[i]? = some b ∧ v = .int ((a + b : Nat) : Int)) (fun _ => trivial) (by unfold upto; rw [List.length_map, List.length_range, sizeLine_eq]; omega) ?_ ?_
      · intro i x ys C hx hC
        have hi : i < (f :: L).length := by
          have := (List.getElem?_eq_some_iff.mp hx).1
          unfold upto at this; rw [List.length_map, List.length_range] at this; omega
        obtain rfl : x = .int (i : Int) := by
          unfold upto at hx
          rw [List.getElem?_map, List.getElem?_range (by omega)] at hx
          have : x = V.int (0 + (i : Int)) := (Option.some.inj hx).symm
          rw [Int.zero_add] at this; exact this
        obtain ⟨a1, ha1⟩ : ∃ a1, (totL (f :: L) ((f :: L).take j) f d l kn l.length)[i]? = some a1 := ⟨_, List.getElem?_eq_getElem (by rw [totL_len]; exact hi)⟩
        obtain ⟨b1, hb1⟩ : ∃ b1, (cntL (f :: L) f d l (kn ++ [c]) l.length)[i]? = some b1 := ⟨_, List.getElem?_eq_getElem (by rw [cntL_len]; exact hi)⟩
        repeat array_get_dec
        refine ixL (SqL.of (new_at hD2 e4)) (show atI (ivs _) (i : Int) = some (.int (a1 : Int)) from atI_nat (by rw [ivs_get, ha1]; rfl)) ?_
        repeat array_get_dec
        refine ixL (SqL.of (new_at hD2 e5)) (show atI (ivs _) (i : Int) = some (.int (b1 : Int)) from atI_nat (by rw [ivs_get, hb1]; rfl)) ?_
        refine .inl ⟨_, _, rfl, rfl, ?_⟩
        exact hC _ ⟨a1, b1, ha1, hb1, by push_cast; rfl⟩
      intro ys hy hR
      unfold upto at hy
      rw [List.length_map, List.length_range, Int.toNat_natCast] at hy
      have ey : ys = ivs (totL (f :: L) ((f :: L).take (j + 1)) f d l kn l.length) := by
        refine List.ext_getElem? fun i => ?_
        rw [ivs_get, List.take_add_one, hcj]
        show _ = ((totL (f :: L) ((f :: L).take j ++ [c]) f d l kn l.length)[i]?).map _
        rw [totL_step c1' hcn]
        by_cases hi : i < (f :: L).length
        · obtain ⟨a1, b1, h1, h2, h3⟩ := hR i _ (List.getElem?_eq_getElem (show i < ys.length by omega))
          rw [List.getElem?_eq_getElem (show i < ys.length by omega), h3, h1, h2]; rfl
        · rw [List.getElem?_eq_none (by omega), List.getElem?_eq_none (by rw [totL_len]; omega)]; rfl
      rw [ey]
      exact ⟨D2, _, _, rfl, (g4.trans g5).trans (same_new hD2 _), new_at hD2 (g5 _ _ er4), upd_same⟩
    · rintro _ H4 ⟨Dt, r4, r5, rfl, g4, er4, eD4⟩
      rw [List.length_map, List.take_length, totL_all c1' hall] at eD4
      refine ⟨_, rfl, _, rfl, .inr (.inr ⟨Dt, r, _, _, rfl, rfl, SqL.of eD4, SqL.of er4, ivs_flat _, ivs_flat _, _, rfl, ?_⟩)⟩
      rw [eqVs_refl (ivs_flat _)]
      refine iteF ?_
      exact ⟨_, _, _, _, _, rfl, g4⟩
  · rintro _ H1 ⟨r1, r2, r3, r4, r5, rfl, g1⟩
    exact q _ g1
def spRef (K : PySem.W.Frag) : Sp := fun vs H Q _ => ∃ (p : Addr) (f : Nat) (L : List Nat) (d : Nat) (l : List Nat), vs = [.ref p, vt l] ∧ SqT K H p [vt (f :: L), .int d] ∧ (f :: L).Nodup ∧ (f :: L).length ≤ 100 ∧ d ≤ 6 ∧ l.length ≤ 1000 ∧ (∀ c ∈ l, c < 16 ^ 8) ∧ (∃ c ∈ l, c ∉ f :: L) ∧ ∀ H', Same H H' → Q (.bl true) H'
theorem knots_ref {H H0 : Hp} {p T0 : Addr} {f : Nat} {L : List Nat} {d : Nat} {l : List Nat} {C1 : Addr} {Q : VK} {E : XK} (g : Same H H0) (hF : SqT K H p [vt (f :: L), .int d]) (hnd : (f :: L).Nodup) (h1 : (f :: L).length ≤ 100) (h2 : d ≤ 6) (h3 : l.length ≤ 1000) (hc : ∀ c ∈ l, c < 16 ^ 8) (hx : ∃ c ∈ l, c ∉ f :: L) (a : E (.ref C1) none H0) : spKnots K T0 C1 [.ref p, vt l] H0 Q E :=
  ⟨p, f, L, d, l, rfl, same_tup g hF, hnd, h1, h2, h3, hc, fun _ => a, fun h => by obtain ⟨c, z, y⟩ := hx; exact absurd (h c z) y⟩
theorem ok_L_refused {c0 T0 : Addr} (T : Txt K mg t) (Y : TabX K mg base "in_order" c0 T0) : FnOk P w K mg base (CX1 P w) 7 t.a_L_refused t.fd_L_refused ["frame", "text"] (spRef K) := by
  refine T.F_L_refused.okn (k := 6) sc_L_refused (fun vs H Q E h => ?_) (fun cdv A outer s H vs Q E hr h => ?_)
  · obtain ⟨p, f, L, d, l, rfl, _⟩ := h; rfl
  obtain ⟨pF, f, L, d, lt, rfl, hF, hnd, hL, hd, hl, hc, hx, q⟩ := h
  have G_knots := ok_knots (P := P) (w := w) (base := base) T Y
  refine ⟨_, (pss_cons (ps_set (i := 2) sc_L_refused.nd rfl (Or.inl rfl) (pe_lst pa_nil))
    (pss_cons (ps_tryU (i := 3) rfl rfl rfl rfl sc_L_refused.nd rfl rfl rfl T.m_NoText T.x_NoText (by decide) (fun pins xe Φ hx => (pss_one (ps_expr (pe_callX G_knots hr rfl T.m_knots T.F_knots.kp T.b_knots .nil hx (PAs.h (pas_cons (pv 0) (pas_cons (pv 1) pas_nil))))))) (fun pins e => (pss_one (ps_set (i := 2) sc_L_refused.nd rfl (Or.inl rfl) (pe_lst (PAs.h (pas_cons (pe_callB isiAny rfl T.m_isinstance bt_isinstance (PAs.h (pas_cons (pv 3) (pas_cons (pe_glob (v := .ref t.c_PressError) rfl T.m_PressError rfl) pas_nil)))) (pas_cons (pe_callB isiAny rfl T.m_isinstance bt_isinstance (PAs.h (pas_cons (pv 3) (pas_cons (pe_tup (PAs.h (pas_cons (pe_glob (v := .ref t.c_NoKnot) rfl T.m_NoKnot rfl) (pas_cons (pe_glob (v := .ref t.c_NoPlace) rfl T.m_NoPlace rfl) (pas_cons (pe_glob (v := .ref t.c_NoSign) rfl T.m_NoSign rfl) pas_nil))))) pas_nil)))) pas_nil))))))))
    (pss_one (ps_ret (pe_cmpR (oEqA (hr.units0)) (pv 2) (pe_lst (PAs.h (pas_cons pe_bl (pas_cons pe_bl pas_nil)))) (nomark _)))))), ?_⟩
  refine ⟨(by show 0 ≤ sizeLine; decide), fun l hl0 pins0 xe0 => ?_⟩
  refine ⟨_, rfl, ?_⟩
  refine ⟨_, rfl, ?_⟩
  try dsimp (config := { proj := false, eta := false, zeta := false, iota := false }) only [tNil, tC]
  have g0 := same_new hl0 (.lst [])
  refine knots_ref g0 hF hnd hL hd hl hc hx ?_
  refine ⟨_, rfl, T.u_NoText_NoText, fun x hx pins1 ev1 => ?_⟩
  generalize hH1 : upd H l (.lst []) = H1 at hx g0 ⊢
  have e0 : upd H1 x (excO x t.c_NoText) x = some (excO x t.c_NoText) := upd_same
  refine ⟨_, rfl, .inr ⟨x, _, _, true, rfl, e0, T.z_NoText, .inl ⟨_, rfl, T.i_NoText_PressError⟩, ?_⟩⟩
  refine ⟨_, rfl, (by show 3 ≤ sizeLine; decide), fun p0 hp0 => ?_⟩
  refine .inr ⟨x, _, _, false, rfl, (by array_mem_dec), T.z_NoText, .inr (.inr ⟨p0, [t.c_NoKnot, t.c_NoPlace, t.c_NoSign], rfl, upd_same, T.it_L_refused_NoText_0⟩), ?_⟩
  refine ⟨(by show 2 ≤ sizeLine; decide), fun l2 hl2 => ?_⟩
  refine ⟨_, rfl, ?_⟩
  repeat array_get_dec
  refine ⟨by show 2 ≤ sizeLine; decide, fun l3 hl3 => ?_⟩
  refine .inr (.inl ⟨l2, l3, _, _, rfl, rfl, by array_mem_dec, by array_mem_dec, rfl, rfl, ?_⟩)
  exact q _ (by array_mem_dec)
theorem nodup_le : ∀ {xs ys : List (List Nat)}, xs.Nodup → (∀ x ∈ xs, x ∈ ys) → xs.length ≤ ys.length
  | [], _, _, _ => Nat.zero_le _
  | x :: xs, ys, nd, h => by
    obtain ⟨n1, n2⟩ := List.nodup_cons.mp nd
    have hx := h x List.mem_cons_self
    have ih := nodup_le (ys := ys.erase x) n2 fun y hy => (List.mem_erase_of_ne (fun z => by rw [z] at hy; exact n1 hy)).mpr (h y (List.mem_cons_of_mem _ hy))
    rw [List.length_erase_of_mem hx] at ih
    have := List.length_pos_of_mem hx
    rw [List.length_cons]; omega
def cutK (ls : List (List Nat)) (lo hi : Option Int) : List (List Nat) := (ls.drop (HT.sIx ls.length 0 lo)).take (HT.sIx ls.length ls.length hi - HT.sIx ls.length 0 lo)
theorem cut_vts (ls : List (List Nat)) (lo hi : Option Int) : cutV (ls.map vt) lo hi = (cutK ls lo hi).map vt := by
  unfold cutV cutK
  rw [List.length_map, List.map_take, List.map_drop]
theorem cutK_mem (ls : List (List Nat)) (lo hi : Option Int) : ∀ n ∈ cutK ls lo hi, n ∈ ls := fun n h => List.mem_of_mem_drop (List.mem_of_mem_take h)
theorem cutK_len (ls : List (List Nat)) (lo hi : Option Int) : (cutK ls lo hi).length ≤ ls.length := by
  unfold cutK
  rw [List.length_take, List.length_drop]; omega
theorem nat_sum (cs : List Nat) : (cs.map fun (c : Nat) => (c : Int)).sum = ((cs.sum : Nat) : Int) := by
  induction cs with
  | nil => rfl
  | cons c cs ih => rw [List.map_cons, List.sum_cons, List.sum_cons, ih]; omega
theorem vts_flat (ls : List (List Nat)) : (ls.map vt).all flatV = true := by rw [List.all_map]; exact List.all_eq_true.mpr fun _ _ => rfl
theorem seen_succ {f d : Nat} {l kn : List Nat} {n : Nat} : seen f d l kn (n + 1) = (seen f d l kn n || falls f d l kn n) := by
  unfold seen; rw [List.range_succ, List.any_append]; simp
theorem sqL_new {H : Hp} {a r : Addr} {xs : List V} (h : SqL K H a xs) (hr : H r = none) : a ≠ r ∨ ∀ H', SqL K H' a xs := by
  rcases h with (h | ⟨o, h⟩) | h
  · exact .inl fun z => by subst z; rw [hr] at h; cases h
  · exact .inl fun z => by subst z; rw [hr] at h; cases h
  · exact .inr fun _ => .inr h
theorem sqL_upd {H : Hp} {a r : Addr} {xs : List V} {o : HO} (h : SqL K H a xs) (n : a ≠ r ∨ ∀ H', SqL K H' a xs) : SqL K (upd H r o) a xs := by
  rcases n with n | n
  · rcases h with (h | ⟨o, h⟩) | h
    · exact .inl (.inl (by rw [upd_ne n]; exact h))
    · exact .inl (.inr ⟨o, by rw [upd_ne n]; exact h⟩)
    · exact .inr h
  · exact n _
theorem sqT_upd {H : Hp} {p r : Addr} {xs ys : List V} {o : HO} (h : SqT K H p xs) (e : H r = some (.lst ys)) : SqT K (upd H r o) p xs := by
  rcases h with (h | ⟨u, h⟩) | h
  · exact .inl (.inl (by rw [upd_ne (ne_of h e (fun z => by cases z))]; exact h))
  · exact .inl (.inr ⟨u, by rw [upd_ne (ne_of h e (fun z => by cases z))]; exact h⟩)
  · exact .inr h
theorem to_upd {H : Hp} {T0 r : Addr} {ys : List V} {o : HO} (h : TO T0 H) (e : H r = some (.lst ys)) : TO T0 (upd H r o) := by
  rcases h with h | ⟨c', h1, h2⟩
  · exact .inl (by rw [upd_ne (ne_of h e (fun z => by cases z))]; exact h)
  · exact .inr ⟨c', by rw [upd_ne (ne_of h1 e (fun z => by cases z))]; exact h1, by rw [upd_ne (ne_of h2 e (fun z => by cases z))]; exact h2⟩
def spLaw (K : PySem.W.Frag) (T0 : Addr) : Sp := fun vs H Q _ => ∃ (a : Addr) (ns : List Int), vs = [.ref a] ∧ SqL K H a (ns.map V.int) ∧ ns.length ≤ 63 ∧ (∀ n ∈ ns, Small n) ∧ H T0 = some (.tbl #[]) ∧ ∀ H', Q (.bl true) H'
theorem ok_law {c0 T0 : Addr} (T : Txt K mg t) (Y : TabX K mg base "in_order" c0 T0) : FnOk P w K mg base (CX1 P w) 8 t.a_law t.fd_law ["script"] (spLaw K T0) := by
  refine T.F_law.okn (k := 7) sc_law (fun vs H Q E h => ?_) (fun cdv A outer s H vs Q E hr h => ?_)
  · obtain ⟨a, ns, rfl, _⟩ := h; rfl
  obtain ⟨a, ns, rfl, hS, h63, hb, hT0, q⟩ := h
  have G_L_refused := ok_L_refused (P := P) (w := w) (base := base) T Y
  have G_knots := (ok_knots (P := P) (w := w) (base := base) T Y).mono (show 6 ≤ 7 by decide)
  have G_counts := (ok_counts (P := P) (w := w) (base := base) T).mono (show 4 ≤ 7 by decide)
  have G_elders := (ok_elders (P := P) (w := w) (base := base) T).mono (show 2 ≤ 7 by decide)
  have G_L_rising := (ok_L_rising (P := P) (w := w) (base := base) T).mono (show 2 ≤ 7 by decide)
  have G_L_parted := (ok_L_parted (P := P) (w := w) (base := base) T).mono (show 5 ≤ 7 by decide)
  have G_L_frame := (ok_L_frame (P := P) (w := w) (base := base) T).mono (show 2 ≤ 7 by decide)
  have G_L_signs := (ok_L_signs (P := P) (w := w) (base := base) T).mono (show 1 ≤ 7 by decide)
  have G_L_text := (ok_L_text (P := P) (w := w) (base := base) T).mono (show 1 ≤ 7 by decide)
  have G_L_cell_at := (ok_L_cell_at (P := P) (w := w) (base := base) T).mono (show 1 ≤ 7 by decide)
  refine ⟨_, (pss_cons (ps_set (i := 1) sc_law.nd rfl (Or.inr rfl) (pe_call G_L_frame hr rfl T.m_L_frame T.F_L_frame.kp T.b_L_frame .nil pass1 (pa_cons (pe_call G_L_cell_at hr rfl T.m_L_cell_at T.F_L_cell_at.kp T.b_L_cell_at .nil pass1 (PAs.h (pas_cons (pv 0) (pas_cons pe_int pas_nil)))) pa_nil)))
    (pss_cons (ps_set (i := 2) sc_law.nd rfl (Or.inl rfl) (pe_call G_L_text hr rfl T.m_L_text T.F_L_text.kp T.b_L_text .nil pass1 (PAs.h (pas_cons (pe_ix ixAny (pv 1) pe_int (fun _ _ => rfl)) (pas_cons (pe_slice slAny (pv 0) (po_some pe_int) (po_some pe_int)) (pas_cons (pe_call G_L_cell_at hr rfl T.m_L_cell_at T.F_L_cell_at.kp T.b_L_cell_at .nil pass1 (PAs.h (pas_cons (pv 0) (pas_cons pe_int pas_nil)))) pas_nil))))))
    (pss_cons (ps_set (i := 3) sc_law.nd rfl (Or.inl rfl) (pe_call G_knots hr rfl T.m_knots T.F_knots.kp T.b_knots .nil pass1 (PAs.h (pas_cons (pv 1) (pas_cons (pv 2) pas_nil)))))
    (pss_cons (ps_if (pt_not (pt_val (pe_call G_L_rising hr rfl T.m_L_rising T.F_L_rising.kp T.b_L_rising .nil pass1 (PAs.h (pas_cons (pe_ix ixAny (pv 1) pe_int (fun _ _ => rfl)) (pas_cons (pv 3) pas_nil)))))) (pss_one (ps_ret pe_bl)) pss_nil)
    (pss_cons (ps_set (i := 4) sc_law.nd rfl (Or.inr rfl) pe_dnewK)
    (pss_cons (ps_for PassesOwn.never rfl (pi_range1 rfl T.m_range (pa_cons (pe_callB call_len rfl T.m_len bt_len (pa_cons (pv 2) pa_nil)) pa_nil)) (pg_name (i := 5) sc_law.nd rfl (Or.inl rfl)) (pss_cons (ps_set (i := 6) sc_law.nd rfl (Or.inl rfl) (pe_call G_elders hr rfl T.m_elders T.F_elders.kp T.b_elders .nil pass1 (PAs.h (pas_cons (pv 1) (pas_cons (pv 2) (pas_cons (pv 5) pas_nil))))))
    (pss_one (ps_for PassesOwn.never rfl (pi_range1 rfl T.m_range (pa_cons (pe_op oAddN (pe_callB call_len rfl T.m_len bt_len (pa_cons (pv 6) pa_nil)) pe_int) pa_nil)) (pg_name (i := 7) sc_law.nd rfl (Or.inl rfl)) (pss_one (ps_dput (hu_of hr) (pv 4) (pe_slice slAny (pv 6) po_none (po_some (pv 7))) pe_bl rfl))))))
    (pss_cons (ps_if (PW.pt (pw_or (pt_cmpR (oNeN (hr.units0)) (pe_callB call_lenD rfl T.m_len bt_len (pa_cons (pv 4) pa_nil)) (pe_callB call_len rfl T.m_len bt_len (pa_cons (pv 3) pa_nil)) (nomark _)) (pw_or1 (pt_cmpR (oNeN (hr.units0)) (pe_lc (compSc_of (N := ["knot", "due"]) (cap := [none, some 4]) (by kernel_rfl)) rfl (piAny (pv 3)) ⟨fun _ => (pg_name (i := 0) (show List.Nodup (["knot", "due"] : List Str) by decide +kernel) rfl (Or.inl rfl)), fun _ => (pf_one (pt_cmp (pc_dnotin (hu_of hr) (pv 0) (pv 1)))), fun _ => (pv 0)⟩) (pe_lst pa_nil) (nomark _))))) (pss_one (ps_ret pe_bl)) pss_nil)
    (pss_cons (ps_if (PW.pt (pw_and (pt_cmpR (oNeN (hr.units0)) (pv 2) pe_str (nomark _)) (pw_and1 (pt_cmpR (oNeN (hr.units0)) (pe_callB (callSum rfl) rfl T.m_sum bt_sum (pa_cons (pe_call G_counts hr rfl T.m_counts T.F_counts.kp T.b_counts .nil pass1 (PAs.h (pas_cons (pv 1) (pas_cons (pv 2) (pas_cons pe_str pas_nil))))) pa_nil)) (pe_callB call_len rfl T.m_len bt_len (pa_cons (pv 2) pa_nil)) (nomark _))))) (pss_one (ps_ret pe_bl)) pss_nil)
    (pss_cons (ps_set (i := 8) sc_law.nd rfl (Or.inl rfl) (pe_callTy (callList rfl) rfl T.m_list bt_list (pa_cons (pv 3) pa_nil)))
    (pss_cons (ps_expr (pe_bm PySem.F.plainAttrs_list PySem.F.slot_list_append PySem.F.type_list_append mt_app (pv 3) (pa_cons pe_str pa_nil)))
    (pss_cons (ps_set (i := 9) sc_law.nd rfl (Or.inl rfl) (pe_call G_L_cell_at hr rfl T.m_L_cell_at T.F_L_cell_at.kp T.b_L_cell_at .nil pass1 (PAs.h (pas_cons (pv 0) (pas_cons pe_int pas_nil)))))
    (pss_cons (ps_set (i := 10) sc_law.nd rfl (Or.inl rfl) (pe_op op_mod (pe_op op_fdivL (pv 9) pe_int) (pe_callB (call_max2 rfl) rfl T.m_max bt_max (PAs.h (pas_cons pe_int (pas_cons (pe_callB call_len rfl T.m_len bt_len (pa_cons (pv 8) pa_nil)) pas_nil))))))
    (pss_cons (ps_set (i := 11) sc_law.nd rfl (Or.inl rfl) (pe_op oAddN (pe_slice slAny (pv 8) po_none (po_some pe_int)) (pe_slice slAny (pv 8) (po_some (pv 10)) (po_some (pe_op oAddN (pv 10) pe_int)))))
    (pss_cons (ps_if (PW.pt (pw_or (pt_cmpR (oNeN (hr.units0)) (pe_call G_knots hr rfl T.m_knots T.F_knots.kp T.b_knots .nil pass1 (PAs.h (pas_cons (pv 1) (pas_cons (pv 2) pas_nil)))) (pv 8) (nomark _)) (pw_or1 (pt_not (pt_val (pe_call G_L_parted hr rfl T.m_L_parted T.F_L_parted.kp T.b_L_parted .nil pass1 (PAs.h (pas_cons (pv 1) (pas_cons (pv 2) (pas_cons (pv 11) (pas_cons (pv 4) pas_nil))))))))))) (pss_one (ps_ret pe_bl)) pss_nil)
    (pss_cons (ps_setLC (i := 12) sc_law.nd rfl rfl (compSc_of (N := ["sign", "frame"]) (cap := [none, some 1]) (by kernel_rfl)) rfl (piAny (pe_call0 G_L_signs hr rfl T.m_L_signs T.F_L_signs.kp T.b_L_signs .nil pass1)) ⟨fun _ => (pg_name (i := 0) (show List.Nodup (["sign", "frame"] : List Str) by decide +kernel) rfl (Or.inl rfl)), fun _ => (pf_one (pt_cmpR oNotIn (pv 0) (pe_ix ixAny (pv 1) pe_int (fun _ _ => rfl)) (by with_unfolding_all rfl))), fun _ => (pv 0)⟩ rfl)
    (pss_cons (ps_set (i := 5) sc_law.nd rfl (Or.inl rfl) (pe_op op_mod (pv 9) (pe_op oAddN (pe_callB call_len rfl T.m_len bt_len (pa_cons (pv 2) pa_nil)) pe_int)))
    (pss_cons (ps_set (i := 13) sc_law.nd rfl (Or.inl rfl) (pe_ix ixAny (pv 12) (pe_op op_mod (pe_op op_fdivL (pv 9) pe_int) (pe_callB call_len rfl T.m_len bt_len (pa_cons (pv 12) pa_nil))) (fun _ _ => rfl)))
    (pss_cons (ps_set (i := 14) sc_law.nd rfl (Or.inl rfl) (pe_op oAddN (pe_op oAddN (pe_slice slAny (pv 2) po_none (po_some (pv 5))) (pv 13)) (pe_slice slAny (pv 2) (po_some (pv 5)) po_none)))
    (pss_one (ps_ret (pe_and (pe_call G_L_refused hr rfl T.m_L_refused T.F_L_refused.kp T.b_L_refused .nil pass1 (PAs.h (pas_cons (pv 1) (pas_cons (pv 14) pas_nil)))) (pe_one (pe_call G_L_refused hr rfl T.m_L_refused T.F_L_refused.kp T.b_L_refused .nil pass1 (PAs.h (pas_cons (pv 1) (pas_cons (pe_op oAddN (pv 14) (pv 13)) pas_nil)))))))))))))))))))))))))), ?_⟩
  refine ⟨_, rfl, a, ns, 0, rfl, hS, by decide, ?_⟩
  refine ⟨_, rfl, cellN_small hb 0, fun L S d pF hL1 hL2 dr hd1 hd2 hpF => ?_⟩
  obtain ⟨d, rfl⟩ : ∃ k : Nat, d = k := ⟨d.toNat, (Int.toNat_of_nonneg hd1).symm⟩
  obtain ⟨f, L, rfl⟩ : ∃ f L', L = f :: L' := by
    cases L with
    | nil => simp at hL1
    | cons f L' => exact ⟨f, L', rfl⟩
  have g1 := same_new hpF (.tup [vt (f :: L), .int (d : Int)])
  have eF : SqT K (upd H pF (.tup [vt (f :: L), .int (d : Int)])) pF [vt (f :: L), .int (d : Int)] := SqT.of upd_same
  generalize upd H pF (.tup [vt (f :: L), .int (d : Int)]) = H1 at g1 eF ⊢
  have hS1 := g1.seq hS
  repeat array_get_dec
  refine .inl ⟨a, _, rfl, hS1, fun p hp => ?_⟩
  refine ⟨_, rfl, a, ns, 1, rfl, new_lst hp hS1, by decide, ?_⟩
  rw [cut_ints]
  have zc := cutN_len ns (some 3) (some 53)
  refine ⟨_, p, _, _, rfl, by simp, by omega, SqL.of upd_same, by omega, fun l hl hll => ?_⟩
  have g2 := g1.trans (same_new hp (.lst ((cutN ns (some 3) (some 53)).map V.int)))
  have eF2 := new_tup (o := .lst ((cutN ns (some 3) (some 53)).map V.int)) hp eF
  generalize upd H1 p (.lst ((cutN ns (some 3) (some 53)).map V.int)) = H2 at g2 eF2 ⊢
  have hl63 : l.length ≤ 63 := by omega
  have hl16 : ∀ c ∈ l, c < 16 ^ 8 := fun c hc => Nat.lt_trans (signs_lt c (dr.mem c (hl c hc))).2.1 (by decide)
  have hLl : (f :: L).length ≤ 100 := by omega
  have hL0 : 0 < (f :: L).length := by omega
  have hnd := dr.nodup
  have zl : l.length ≤ sizeLine := by rw [sizeLine_eq]; omega
  have hd6 : d ≤ 6 := by omega
  clear hll zc hp g1 eF hS1
  have hT2 : TO T0 H2 := .inl (g2 _ _ hT0)
  have hS2 := g2.seq hS
  clear g2 hT0 hS
  have kspec : ∀ {H1 : Hp} {Q1 : VK} {E1 : XK}, SqT K H1 pF [vt (f :: L), .int (d : Int)] → TO T0 H1 → (∀ r ls H', Kns (f :: L) f d l ls → SameT T0 H1 H' → H1 r = none → H' r = some (.lst (ls.map vt)) → TO T0 H' → Q1 (.ref r) H') → spKnots K T0 t.c_NoText [.ref pF, vt l] H1 Q1 E1 := fun h1 h2 k =>
    ⟨pF, f, L, d, l, rfl, h1, hnd, hLl, hd6, by omega, hl16, fun ⟨c, z, y⟩ => absurd (hl c z) y, fun _ => ⟨h2, k⟩⟩
  refine ⟨_, rfl, _, rfl, ?_⟩
  try dsimp (config := { proj := false, eta := false, zeta := false, iota := false }) only [tNil, tC]
  refine kspec eF2 hT2 fun r ls H3 kns sm3 hr3 er3 hT3 => ?_
  have eF3 := sqT_T eF2 hT2.tbl sm3
  have hS3 := hS2.sameT hT2.tbl sm3
  have hkl := kns.len
  have hkok : ∀ kn ∈ ls, kn.length ≤ d ∧ ∀ c ∈ kn, c ∈ f :: L := fun kn h => seen_ok hl ((kns.mem kn).mp h)
  have har := sqL_new hS2 hr3
  clear sm3 hr3 eF2 hT2 hS2
  refine ⟨_, rfl, .inr (.inl ⟨pF, _, 0, _, rfl, rfl, eF3, rfl, _, rfl, f :: L, r, ls, rfl, er3, hnd, by omega, fun kn h => ⟨by have := (hkok kn h).1; omega, (hkok kn h).2⟩, kns.nd, kns.ord, true, rfl, iteF ?_⟩)⟩
  refine fun du hdu => ?_
  have g4 := same_new hdu (.dK [])
  have edu : upd H3 du (.dK []) du = some (.dK []) := upd_same
  have nru : r ≠ du := ne_of_none er3 hdu
  generalize upd H3 du (.dK []) = H4 at g4 edu ⊢
  repeat array_get_dec
  refine ⟨by omega, by omega, ?_⟩
  refine for_range (fun n σ H' => ∃ (kvs : List (Key × V)) (r1 r2 r3 r4 r5 r6 r7 r8 r9 r10 : Option V), σ = [some (.ref a), some (.ref pF), some (vt l), some (.ref r), some (.ref du), r1, r2, r3, r4, r5, r6, r7, r8, r9, r10] ∧ Same H3 H' ∧ H' du = some (.dK kvs) ∧ KeysOk kvs ∧ kvs.length ≤ 7 * n ∧ ∀ kn, (valV kvs (key kn)).isSome = seen f d l kn n) ⟨[], _, _, _, _, _, _, _, _, _, _, rfl, g4, edu, KeysOk.nil, Nat.le_refl _, fun kn => rfl⟩ ?_ ?_
  · rintro n _ H5 hn ⟨kvs, r1, r2, r3, r4, r5, r6, r7, r8, r9, r10, rfl, g5, e5, ko5, hk5, hv5⟩
    rw [Int.toNat_natCast] at hn
    refine ⟨_, rfl, _, rfl, _, rfl, pF, f, L, d, _, l, rfl, same_tup g5 eF3, hLl, hd6, by omega, hl16, fun ⟨c, z, y⟩ => absurd (hl c z) y, fun _ => ⟨fun z => absurd z (by omega), fun _ _ => ?_⟩⟩
    have en : ((0 : Int) + (n : Int)).toNat = n := by omega
    rw [en]
    have hz := eldL_len f d l n
    have hfl : ∀ kn, falls f d l kn n = true ↔ ∃ j, j ≤ d ∧ kn = (eldL f d l n).take j := fun kn => by
      unfold falls
      rw [decide_eq_true_eq]
      constructor
      · intro e
        have := congrArg List.length e
        rw [List.length_take, hz] at this
        exact ⟨kn.length, by omega, e.symm⟩
      · rintro ⟨j, hj, rfl⟩
        rw [List.length_take, hz, Nat.min_eq_left hj]
    generalize eldL f d l n = path at hz hfl ⊢
    have zp : path.length ≤ sizeLine := by rw [sizeLine_eq]; omega
    repeat array_get_dec
    refine ⟨by omega, by omega, ?_⟩
    refine for_range (fun j σ H' => ∃ (kvs : List (Key × V)) (r3 : Option V), σ = [some (.ref a), some (.ref pF), some (vt l), some (.ref r), some (.ref du), some (.int (0 + (n : Int))), some (vt path), r3, r4, r5, r6, r7, r8, r9, r10] ∧ Same H3 H' ∧ H' du = some (.dK kvs) ∧ KeysOk kvs ∧ kvs.length ≤ 7 * n + j ∧ ∀ kn, (valV kvs (key kn)).isSome = (seen f d l kn n || decide (∃ i, i < j ∧ kn = path.take i))) ⟨kvs, _, rfl, g5, e5, ko5, by omega, fun kn => by rw [hv5, decide_eq_false (fun ⟨i, h, _⟩ => absurd h (Nat.not_lt_zero _)), Bool.or_false]⟩ ?_ ?_
    · rintro j _ H6 hj ⟨kvs, r3, rfl, g6, e6, ko6, hk6, hv6⟩
      have hj' : j < d + 1 := by omega
      repeat array_get_dec
      refine .inr (cutT zp ?_)
      rw [show (0 + (j : Int)) = ((j : Nat) : Int) by omega, cut_to]
      refine ⟨du, _, rfl, DPut.k (k := key (path.take j)) e6 (by rw [sizeLine_eq]; omega), ?_⟩
      refine ⟨_, _, rfl, over_same hdu g6, upd_same, ko6.put _ _, by have := length_putK kvs (key (path.take j)) (.bl true); omega, fun kn => ?_⟩
      rw [valV_put]
      by_cases z : kn = path.take j
      · rw [if_pos (by rw [z]), decide_eq_true ⟨j, Nat.lt_succ_self _, z⟩, Bool.or_true]; rfl
      · rw [if_neg (fun y => z (key_inj y)), hv6]
        congr 1
        rw [Bool.eq_iff_iff, decide_eq_true_eq, decide_eq_true_eq]
        constructor
        · rintro ⟨i, h1, h2⟩; exact ⟨i, by omega, h2⟩
        · rintro ⟨i, h1, h2⟩
          refine ⟨i, ?_, h2⟩
          rcases Nat.lt_or_ge i j with y | y
          · exact y
          · rw [show i = j by omega] at h2; exact absurd h2 z
    · rintro _ H6 ⟨kvs, r3, rfl, g6, e6, ko6, hk6, hv6⟩
      refine ⟨kvs, _, _, _, _, _, _, _, _, _, _, rfl, g6, e6, ko6, by omega, fun kn => ?_⟩
      rw [hv6, seen_succ]
      congr 1
      rw [Bool.eq_iff_iff, decide_eq_true_eq, hfl]
      constructor
      · rintro ⟨i, h1, h2⟩; exact ⟨i, by omega, h2⟩
      · rintro ⟨i, h1, h2⟩; exact ⟨i, by omega, h2⟩
  rintro _ H5 ⟨kvs, r1, r2, r3, r4, r5, r6, r7, r8, r9, r10, rfl, g5, e5, ko5, hk5, hv5⟩
  rw [Int.toNat_natCast] at hk5 hv5
  have hdue : Due f d l kvs := hv5
  have er5 := g5 _ _ er3
  obtain ⟨ks, hks, ksn⟩ := ko5
  have hmem : ∀ kn, kn ∈ ks ↔ kn ∈ ls := fun kn => by rw [keys_mem hks, hv5, kns.mem]
  have hlen : kvs.length = ls.length := by
    have h1 : ks.length = kvs.length := by
      have := congrArg List.length hks
      rw [List.length_map, List.length_map] at this; exact this.symm
    have h2 := nodup_le ksn fun x hx => (hmem x).mp hx
    have h3 := nodup_le kns.nd fun x hx => (hmem x).mpr hx
    omega
  have eF5 := same_tup g5 eF3
  refine ⟨_, rfl, du, kvs, rfl, e5, _, rfl, _, _, rfl, .inl ⟨_, SqL.of er5, rfl⟩, ?_⟩
  rw [List.length_map, hlen]
  refine .inl ⟨rfl, _, rfl, ifnF rfl ?_⟩
  refine ⟨_, rfl, .inl ⟨r, _, rfl, SqL.of er5, fun D hD cp => ?_⟩⟩
  refine lc_pure walk_list (caps := [some (.ref du)]) (fun _ => false) (fun v => v) (fun ys => SqL.of (new_at hD er5)) (by rw [List.length_map, sizeLine_eq]; omega) ?_ ?_
  · intro i x ys R hx hy _ h2
    rw [List.getElem?_map] at hx
    obtain ⟨kn, hkn, rfl⟩ : ∃ kn, kn ∈ ls ∧ x = vt kn := by
      cases z : ls[i]? with
      | none => rw [z] at hx; cases hx
      | some kn => rw [z] at hx; exact ⟨kn, List.mem_of_getElem? z, (Option.some.inj hx).symm⟩
    refine ⟨_, rfl, _, rfl, du, _, rfl, DGet.k (k := key kn) (new_at hD e5), _, rfl, ?_⟩
    rw [hv5, (kns.mem kn).mp hkn]
    exact iteF (h2 rfl)
  have ef : (ls.map vt).filter (fun _ => false) = [] := List.filter_eq_nil_iff.mpr fun _ _ h => nomatch h
  rw [ef, List.map_nil]
  have g6 : Same H3 (upd H5 D (.lst [])) := g5.trans (same_new hD _)
  have e6 : upd H5 D (.lst []) du = some (.dK kvs) := new_at hD e5
  have eD6 : SqL K (upd H5 D (.lst [])) D [] := SqL.of upd_same
  generalize upd H5 D (.lst []) = H6 at g6 e6 eD6 ⊢
  clear hD cp e5 er5 eF5 g5
  refine ⟨by decide, fun l3 hl3 => ?_⟩
  refine .inr (.inr ⟨D, l3, _, _, rfl, rfl, new_lst hl3 eD6, SqL.of upd_same, rfl, rfl, _, rfl, ?_⟩)
  refine iteF ?_
  have hx7 : Same H3 (upd H6 l3 (.lst [])) ∧ upd H6 l3 (.lst []) du = some (.dK kvs) := ⟨g6.trans (same_new hl3 _), new_at hl3 e6⟩
  generalize upd H6 l3 (.lst []) = H7 at hx7 ⊢
  clear g6 e6 eD6 hl3
  revert hx7
  revert H7
  try dsimp (config := { proj := false, eta := false, zeta := false, iota := false }) only [tNil, tC]
  refine with_restL (fun H7 : Hp => Same H3 H7 ∧ H7 du = some (.dK kvs)) (fun H7 : Hp => Same H3 H7 ∧ H7 du = some (.dK kvs)) (fun H7 hx7 k => ⟨_, rfl, .inl ⟨rfl, _, rfl, iteU (fun _ => ?_) (fun _ => k H7 hx7)⟩⟩) ?_
  · obtain ⟨g7, e7⟩ := hx7
    refine ⟨_, rfl, _, rfl, pF, f, L, d, l, [], by rw [str_nil]; rfl, same_tup g7 eF3, hnd, hLl, hd6, by omega, hl16, by decide, fun ⟨c, z, y⟩ => absurd (hl c z) y, fun _ H8 g8 => ⟨fun z => (by rw [knot_ok (kn := []) (Nat.zero_le _) (fun c h => (nomatch h))] at z; cases z), fun _ r8 hr8 e8 => ?_⟩⟩
    refine ⟨r8, _, rfl, SqL.of e8, ?_⟩
    rw [nat_sum, cntL_sum hnd (Nat.le_refl _) hl]
    have ea : ((List.range l.length).filter (falls f d l [])).length = l.length := by
      rw [List.filter_eq_self.mpr fun k _ => by unfold falls; exact decide_eq_true rfl, List.length_range]
    rw [ea]
    repeat array_get_dec
    refine ifnF rfl ?_
    exact k H8 ⟨g7.trans g8, g8 _ _ e7⟩
  rintro H7 ⟨g7, e7⟩
  have er7 := g7 _ _ er3
  have hT7 := hT3.same g7
  have eF7 := same_tup g7 eF3
  have hS7 := g7.seq hS3
  clear g7 hT3 eF3 hS3
  refine ⟨_, rfl, .inl ⟨r, _, rfl, .inl (SqL.of er7), fun kp hkp => ?_⟩⟩
  have nkr : r ≠ kp := ne_of_none er7 hkp
  have ek8 : upd H7 kp (.lst (ls.map vt)) kp = some (.lst (ls.map vt)) := upd_same
  have er8 := new_at (o := .lst (ls.map vt)) hkp er7
  have e8 := new_at (o := .lst (ls.map vt)) hkp e7
  have hT8 := hT7.same (same_new hkp (.lst (ls.map vt)))
  have eF8 := new_tup (o := .lst (ls.map vt)) hkp eF7
  have hS8 := new_lst (o := .lst (ls.map vt)) hkp hS7
  generalize upd H7 kp (.lst (ls.map vt)) = H8 at ek8 er8 e8 hT8 eF8 hS8 ⊢
  clear hkp er7 hT7 eF7 hS7 e7
  refine ⟨_, rfl, tyL (SqL.of er8), r, _, _, rfl, rfl, er8, by rw [List.length_map, sizeLine_eq]; omega, ?_⟩
  have ek9 : upd H8 r (.lst (ls.map vt ++ [V.str (Str.ofString "")])) kp = some (.lst (ls.map vt)) := by rw [upd_ne nkr.symm]; exact ek8
  have e9 : upd H8 r (.lst (ls.map vt ++ [V.str (Str.ofString "")])) du = some (.dK kvs) := by rw [upd_ne nru.symm]; exact e8
  have hT9 := to_upd (o := .lst (ls.map vt ++ [V.str (Str.ofString "")])) hT8 er8
  have eF9 := sqT_upd (o := .lst (ls.map vt ++ [V.str (Str.ofString "")])) eF8 er8
  have hS9 := sqL_upd (o := .lst (ls.map vt ++ [V.str (Str.ofString "")])) hS8 har
  generalize upd H8 r (.lst (ls.map vt ++ [V.str (Str.ofString "")])) = H9 at ek9 e9 hT9 eF9 hS9 ⊢
  clear ek8 er8 e8 hT8 eF8 hS8
  refine ⟨_, rfl, a, ns, 2, rfl, hS9, by decide, ?_⟩
  generalize cellN ns 2 = c2
  repeat array_get_dec
  refine ⟨by show (0 : Int) < _; split <;> omega, ?_⟩
  try dsimp (config := { proj := false, eta := false, zeta := false, iota := false }) only [tNil, tC]
  generalize c2.fdiv 3000 % _ = st
  repeat array_get_dec
  refine .inl ⟨kp, _, rfl, SqL.of ek9, fun p1 hp1 => ?_⟩
  rw [cut_vts]
  repeat array_get_dec
  refine .inl ⟨kp, _, rfl, SqL.of (new_at hp1 ek9), fun p2 hp2 => ?_⟩
  rw [cut_vts]
  have n12 : p1 ≠ p2 := ne_of_none upd_same hp2
  have z1 := cutK_len ls none (some 1)
  have z2 := cutK_len ls (some st) (some (st + 12))
  refine .inr (.inr (.inl ⟨p1, p2, _, _, rfl, rfl, new_at hp2 upd_same, upd_same, by rw [List.length_map, List.length_map, sizeLine_eq]; omega, fun p3 hp3 => ?_⟩))
  rw [← List.map_append]
  have hks3 : ∀ kn ∈ cutK ls none (some 1) ++ cutK ls (some st) (some (st + 12)), seen f d l kn l.length = true := fun kn h => by
    rcases List.mem_append.mp h with h | h
    · exact (kns.mem kn).mp (cutK_mem _ _ _ _ h)
    · exact (kns.mem kn).mp (cutK_mem _ _ _ _ h)
  generalize cutK ls none (some 1) ++ cutK ls (some st) (some (st + 12)) = ks3 at hks3 ⊢
  have g10 := ((same_new hp1 (.lst ((cutK ls none (some 1)).map vt))).trans (same_new hp2 (.lst ((cutK ls (some st) (some (st + 12))).map vt)))).trans (same_new hp3 (.lst (ks3.map vt)))
  have e3 : upd (upd (upd H9 p1 (.lst ((cutK ls none (some 1)).map vt))) p2 (.lst ((cutK ls (some st) (some (st + 12))).map vt))) p3 (.lst (ks3.map vt)) p3 = some (.lst (ks3.map vt)) := upd_same
  generalize upd (upd (upd H9 p1 (.lst ((cutK ls none (some 1)).map vt))) p2 (.lst ((cutK ls (some st) (some (st + 12))).map vt))) p3 (.lst (ks3.map vt)) = H10 at g10 e3 ⊢
  clear hp1 hp2 hp3 z1 z2 n12
  have hT10 := hT9.same g10
  have eF10 := same_tup g10 eF9
  have e10 := g10 _ _ e9
  have ek10 := g10 _ _ ek9
  clear g10 hT9 eF9 e9 ek9 hS9
  refine ⟨_, rfl, _, rfl, ?_⟩
  try dsimp (config := { proj := false, eta := false, zeta := false, iota := false }) only [tNil, tC]
  refine kspec eF10 hT10 fun r2 ls2 H11 kns2 sm11 hr11 er11 hT11 => ?_
  obtain ⟨ps, hps⟩ := hT10.tbl
  have kp11 : ∀ x o, (∀ ps, o ≠ HO.tbl ps) → H10 x = some o → H11 x = some o := fun x o hn e => sm11 x o (fun z => by subst z; rw [hps] at e; cases e; exact hn _ rfl) e
  have el : ls2 = ls := ord_one (fun kn h => (seen_ok hl ((kns2.mem kn).mp h)).2) kns2.ord kns.ord kns2.nd kns.nd fun kn => by rw [kns2.mem, kns.mem]
  subst el
  have ek11 := kp11 _ _ (fun _ z => by cases z) ek10
  have e11 := kp11 _ _ (fun _ z => by cases z) e10
  have es11 := kp11 _ _ (fun _ z => by cases z) e3
  have eF11 := sqT_T eF10 ⟨ps, hps⟩ sm11
  refine ⟨_, rfl, .inr (.inr ⟨r2, kp, _, _, rfl, rfl, SqL.of er11, SqL.of ek11, vts_flat _, vts_flat _, _, rfl, ?_⟩)⟩
  rw [eqVs_refl (vts_flat _)]
  refine iteF ?_
  refine ⟨_, rfl, _, rfl, _, rfl, _, rfl, pF, p3, du, f, L, d, l, ks3, kvs, rfl, eF11, hnd, hLl, hd6, by omega, hl16, hl, SqL.of es11, hks3, e11, hdue, fun H12 g12 => ⟨true, rfl, iteF ?_⟩⟩
  have eF3 := same_tup g12 eF11
  clear g12 eF11 es11 e11 ek11 kp11 er11 hT11 sm11 hps
  refine ⟨rfl, .inr (.inr ⟨_, rfl, fun D2 hD2 cp2 => ?_⟩)⟩
  refine lc_pure (walk_tx signs) (caps := [some (.ref pF)]) (lackV (f :: L)) (fun v => v) (fun _ => trivial) (by rw [List.length_map, signs_len]; decide) ?_ ?_
  · intro i x ys R hx hy h1 h2
    obtain ⟨c, _, rfl⟩ := sign_at hx
    have eD := new_tup (o := .lst ys) hD2 eF3
    refine ⟨_, rfl, _, rfl, .inr (.inl ⟨pF, _, 0, _, rfl, rfl, eD, rfl, .inl ⟨c, f :: L, rfl, rfl, _, rfl, ?_⟩⟩)⟩
    rw [if_pos rfl]
    by_cases z : c ∈ f :: L
    · rw [decide_eq_true z]
      exact iteF (h2 (by show (!decide (c ∈ f :: L)) = false; rw [decide_eq_true z]; rfl))
    · rw [decide_eq_false z]
      refine iteT ⟨_, rfl, ys, upd_same, hy, ?_⟩
      rw [upd_upd]; exact h1 (by show (!decide (c ∈ f :: L)) = true; rw [decide_eq_false z]; rfl)
  obtain ⟨lk, hlk, hk1, hk2⟩ := lacked_ok dr (by omega)
  rw [hlk]
  have hK : SqL K (upd H12 D2 (.lst (lk.map fun c => vt [c]))) D2 (lk.map fun c => vt [c]) := SqL.of upd_same
  have eF4 := new_tup (o := .lst (lk.map fun c => vt [c])) hD2 eF3
  generalize upd H12 D2 (.lst (lk.map fun c => vt [c])) = H13 at hK eF4 ⊢
  clear hlk hD2 eF3
  have m1 := Int.emod_nonneg c2 (show (l.length : Int) + 1 ≠ 0 by omega)
  have m2 := Int.emod_lt_of_pos c2 (show (0 : Int) < (l.length : Int) + 1 by omega)
  repeat array_get_dec
  refine ⟨by omega, ?_⟩
  try dsimp (config := { proj := false, eta := false, zeta := false, iota := false }) only [tNil, tC]
  obtain ⟨at0, hat⟩ : ∃ k : Nat, c2 % ((l.length : Int) + 1) = (k : Int) := ⟨_, (Int.toNat_of_nonneg m1).symm⟩
  rw [hat] at m1 m2 ⊢
  have hatl : at0 ≤ l.length := by omega
  have hkl : 0 < (lk.map fun c => vt [c]).length := by rw [List.length_map]; exact hk2.1
  obtain ⟨v, hv, e1⟩ := at_mod (lk.map fun c => vt [c]) hkl (c2.fdiv 64)
  obtain ⟨s1, hs, rfl⟩ := List.mem_map.mp hv
  obtain ⟨hs1, hs2⟩ := hk1 s1 hs
  repeat array_get_dec
  refine ⟨by omega, ?_⟩
  refine ixL hK e1 ?_
  repeat array_get_dec
  refine .inr (cutT zl ?_)
  rw [cut_to]
  repeat array_get_dec
  refine .inr (cutT zl ?_)
  rw [cut_from]
  repeat array_get_dec
  have hbm : s1 ∈ l.take at0 ++ [s1] ++ l.drop at0 := by simp
  have hb16 : ∀ c ∈ l.take at0 ++ [s1] ++ l.drop at0, c < 16 ^ 8 := fun c hc => by
    rcases List.mem_append.mp hc with h | h
    · rcases List.mem_append.mp h with h | h
      · exact hl16 c (List.mem_of_mem_take h)
      · rw [List.mem_singleton.mp h]; exact Nat.lt_trans hs2 (by decide)
    · exact hl16 c (List.mem_of_mem_drop h)
  have zb : (l.take at0 ++ [s1] ++ l.drop at0).length ≤ 64 := by simp only [List.length_append, List.length_take, List.length_drop, List.length_singleton]; omega
  generalize l.take at0 ++ [s1] ++ l.drop at0 = B at *
  refine ⟨pF, f, L, d, B, rfl, eF4, hnd, hLl, hd6, by omega, hb16, ⟨s1, hbm, hs1⟩, fun H14 g14 => ⟨true, rfl, iteT ?_⟩⟩
  refine ⟨_, rfl, _, rfl, _, rfl, .inr (.inl (catX (by rw [sizeLine_eq]; show _ + 1 ≤ _; omega) ?_))⟩
  refine ⟨pF, f, L, d, B ++ [s1], rfl, same_tup g14 eF4, hnd, hLl, hd6, by rw [List.length_append, List.length_singleton]; omega, fun c hc => ?_, ⟨s1, by simp, hs1⟩, fun H15 _ => q H15⟩
  rcases List.mem_append.mp hc with h | h
  · exact hb16 c h
  · rw [List.mem_singleton.mp h]; exact Nat.lt_trans hs2 (by decide)
end
theorem fin {P : Program} {w : World} {K : PySem.W.Frag} {mg : Str → Option Value} {fa c0 T0 : Addr} (hmg : mg "law" = some (.ref fa)) (h : ∃ t, Txt K mg t) :
    ∃ fd : FuncData, (∀ (s : Shared) (v : Value), BindsTo s fd ⟨[v], []⟩ [("script", v)]) ∧ ∀ base : Heap, TabX K mg base "in_order" c0 T0 → FnOk P w K mg base (CX1 P w) 8 fa fd ["script"] (spLaw K T0) := by
  obtain ⟨t, T⟩ := h
  have e := hmg.symm.trans T.m_law
  cases e
  exact ⟨_, T.bl, fun base Y => ok_law T Y⟩
theorem walk {l : PySem.W.OpenLaw} {q : Program} {loose : List Str} {XP : (Str → Option Value) → Heap → Prop} {YP : World → Heap → Prop} {d : DefRec} {K : Params → PySem.W.Frag} (hn : l.most = some 63) (hdf : d.params.defaults = [])
    (hY : ∀ (w : World) (h : Heap), YP w h → (K w.params).In h) (hnt : ∀ w : World, PySem.W.noTabs (K w.params) = true) (hdr : ((recsOf q).find? (fun e => e.name == ("in_order" : Str))).isSome = true) (htab : ∀ w : World, (PySem.W.tabIn (K w.params) "in_order").isSome = true)
    (F : ∀ (w : World) (mg : Str → Option Value) (fa : Addr) (h : Heap) (c0 T0 : Addr), (K w.params).In h → h.Ns mainGlobals mg → mg d.name = some (.ref fa) → PySem.W.tabIn (K w.params) "in_order" = some (c0, T0) →
      ∃ fd : FuncData, (∀ (s : Shared) (u : Value), BindsTo s fd ⟨[u], []⟩ [("script", u)]) ∧ ∀ base : Heap, TabX (K w.params) mg base "in_order" c0 T0 → FnOk l.prog w (K w.params) mg base (CX1 l.prog w) 8 fa fd ["script"] (spLaw (K w.params) T0)) :
    PySem.W.WalkO q loose XP YP l.row.toRowW d [] (fun f vs => PySem.call f vs) :=
  L2.walk_t (fn := "in_order") (n := 63) (k := 8) (x := "script") (CX := fun w => CX1 l.prog w) (sp := fun w T0 => spLaw (K w.params) T0) hn (by decide) hdf ⟨rfl, by decide, by decide⟩ hY hnt hdr htab F (fun _ _ a T0 ns hl hb hS hT => ⟨a, ns, rfl, hS, hl, hb, hT, fun _ => rfl⟩) fun _ _ _ _ _ z => cx1_none z
end Bp
theorem PySem.W.Fast.tw15391544319222561706 : True := .intro
theorem PySem.W.Fast.tw10905288324431220702 : True := .intro
theorem PySem.W.Fast.tw8761428660877107981 : True := .intro
theorem PySem.W.Fast.tw13481875302565864150 : True := .intro
theorem PySem.W.Fast.tw10428158941494225699 : True := .intro
theorem PySem.W.Fast.tw2258659936588033469 : True := .intro
theorem PySem.W.Fast.tw6578221140269207604 : True := .intro
theorem PySem.W.Fast.tw1468492358272390617 : True := .intro
theorem PySem.W.Fast.tw10417097022184263677 : True := .intro
theorem PySem.W.Fast.tw9542361509663418052 : True := .intro
theorem PySem.W.Fast.tw5085553637267015544 : True := .intro
theorem PySem.W.Fast.tw15205107660513442195 : True := .intro
theorem PySem.W.Fast.tw2366305070746527062 : True := .intro
theorem PySem.W.Fast.tw7973952768526498016 : True := .intro
theorem PySem.W.Fast.tw419923654291969112 : True := .intro
theorem PySem.W.Fast.tw10366402550953928376 : True := .intro
theorem PySem.W.Fast.tw2530246524262371365 : True := .intro
theorem PySem.W.Fast.tw10667195514161648492 : True := .intro
theorem PySem.W.Fast.tw18029134011730564929 : True := .intro
theorem PySem.W.Fast.tw4070159547305105404 : True := .intro
theorem PySem.W.Fast.tw2758965194863169100 : True := .intro
theorem PySem.W.Fast.tw12884244259473357791 : True := .intro
theorem PySem.W.Fast.tw16607117843800264575 : True := .intro
theorem PySem.W.Fast.tw9329696319512255366 : True := .intro
theorem PySem.W.Fast.tw2959655073516284202 : True := .intro
theorem PySem.W.Fast.tw7545583906742608571 : True := .intro
theorem PySem.W.Fast.tw4029271754464802235 : True := .intro
theorem PySem.W.Fast.tw13929640904598369011 : True := .intro
theorem PySem.W.Fast.tw5695901315080960076 : True := .intro
theorem PySem.W.Fast.tw880710792619713006 : True := .intro
theorem PySem.W.Fast.tw3689851834052010306 : True := .intro
theorem PySem.W.Fast.tw15834817533325871200 : True := .intro
theorem PySem.W.Fast.tw8496298690561146135 : True := .intro
theorem PySem.W.Fast.tw2127078560533574528 : True := .intro
theorem PySem.W.Fast.tw247959447107766371 : True := .intro
theorem PySem.W.Fast.tw3204983905308102301 : True := .intro
theorem PySem.W.Fast.tw17647895687294058268 : True := .intro
theorem PySem.W.Fast.tw12209983078851200725 : True := .intro
theorem PySem.W.Fast.tw10848394499537038102 : True := .intro
theorem PySem.W.Fast.tw14206188168456439657 : True := .intro
theorem PySem.W.Fast.tw8087187815578595606 : True := .intro
theorem PySem.W.Fast.tw3753160446347601051 : True := .intro
theorem PySem.W.Fast.tw16435057720364077750 : True := .intro
theorem PySem.W.Fast.tw9286715560405210335 : True := .intro
theorem PySem.W.Fast.tw17494540903898203653 : True := .intro
theorem PySem.W.Fast.tw15550854245247269774 : True := .intro
theorem PySem.W.Fast.tw2858073559924356741 : True := .intro
theorem PySem.W.Fast.tw2424759584060050195 : True := .intro
theorem PySem.W.Fast.tw2333551584918505818 : True := .intro
theorem PySem.W.Fast.tw5115005803580570453 : True := .intro
theorem PySem.W.Fast.tw7814915456082117483 : True := .intro
theorem PySem.W.Fast.tw11299397053919704713 : True := .intro
theorem PySem.W.Fast.tw10962323249554051708 : True := .intro
theorem PySem.W.Fast.tw15258068842371089928 : True := .intro
theorem PySem.W.Fast.tw9881434414118192190 : True := .intro
theorem PySem.W.Fast.tw18401202454708938480 : True := .intro
theorem PySem.W.Fast.tw18103620996968870341 : True := .intro
theorem PySem.W.Fast.tw14253032677631725426 : True := .intro
theorem PySem.W.Fast.tw10923259409601733179 : True := .intro
theorem PySem.W.Fast.tw3373541361826243082 : True := .intro
theorem PySem.W.Fast.tw9713565292296333629 : True := .intro
theorem PySem.W.Fast.tw18041472794176086723 : True := .intro
theorem PySem.W.Fast.tw8470279666097161933 : True := .intro
theorem PySem.W.Fast.tw17090587060332143147 : True := .intro
theorem PySem.W.Fast.tw1357594211616489260 : True := .intro
theorem PySem.W.Fast.tw18059334162696440262 : True := .intro
theorem PySem.W.Fast.tw10602608343309604978 : True := .intro
theorem PySem.W.Fast.tw5123189828481673217 : True := .intro
theorem PySem.W.Fast.tw2756944659903735513 : True := .intro
theorem PySem.W.Fast.tw17110243473231392979 : True := .intro
theorem PySem.W.Fast.tw8129099907488647023 : True := .intro
theorem PySem.W.Fast.tw14471395569126080430 : True := .intro
theorem PySem.W.Fast.tw3304864399057296192 : True := .intro
theorem PySem.W.Fast.tw7638996378099503831 : True := .intro
theorem PySem.W.Fast.tw13872608365144727098 : True := .intro
theorem PySem.W.Fast.tw14118327143860026853 : True := .intro
local macro_rules | `(tactic| sizeOf_list_dec) => `(tactic| first | (refine' Bp.fx ?n ?l ?c ?k; (case n => k_is); (case l => k_is); (case c => k_is); (case k => k_is)) | (refine' Bp.mx ?n ?i ?l ?c ?k; (case n => k_is); (case i => k_is); (case l => k_is); (case c => k_is); (case k => k_is)))
open PySem PySem.W PyProof.Rows
set_option maxRecDepth 100000 in
set_option maxHeartbeats 0 in
theorem PySem.Challenge.cw_boughpress_k13_whole_knots_part_the_plac_holds : PySem.Challenge.rw_boughpress_k13_whole_knots_part_the_plac.Holds := by
  w_on; o_law; k_head; (case hw => w_witness2)
  k_fill
  refine Bp.walk (l := PySem.Challenge.rw_boughpress_k13_whole_knots_part_the_plac) rfl rfl (fun w h Y => PySem.W.km_in_of Y) ?nt ?dr ?tb ?F
  (case nt => intro w; kernel_rfl)
  (case dr => kernel_rfl)
  (case tb => intro w; kernel_rfl)
  case F =>
    intro w mg fa h c0 T0 KX G hmg hct
    refine Bp.fin hmg ?_
    refine' Bp.txt_mk KX G ?f_checked ?f_rank ?f_elders_at ?f_elders ?f_is_knot ?f_checked_knot ?f_path_knots ?f_no_counts ?f_count_table ?f_counts ?f_in_order ?f_knots ?f_L_cell_at ?f_L_signs ?f_L_frame ?f_L_text ?f_L_ahead ?f_L_rising ?f_L_parted ?f_L_refused ?f_law ?n_all ?n_enumerate ?n_isinstance ?n_len ?n_list ?n_max ?n_min ?n_range ?n_reversed ?n_sorted ?n_str ?n_sum ?n_PressError ?n_NoText ?n_NoPlace ?n_NoKnot ?n_NoSign ?x_NoKnot ?zga_NoKnot ?zgt_NoKnot ?zcl_NoKnot ?zob_NoKnot ?zbe_NoKnot ?x_NoPlace ?zga_NoPlace ?zgt_NoPlace ?zcl_NoPlace ?zob_NoPlace ?zbe_NoPlace ?x_NoText ?zga_NoText ?zgt_NoText ?zcl_NoText ?zob_NoText ?zbe_NoText ?i_NoText_PressError ?it_L_refused_NoText_0 ?u_NoText_NoText
    (case f_checked => sizeOf_list_dec)
    (case f_rank => sizeOf_list_dec)
    (case f_elders_at => sizeOf_list_dec)
    (case f_elders => sizeOf_list_dec)
    (case f_is_knot => sizeOf_list_dec)
    (case f_checked_knot => sizeOf_list_dec)
    (case f_path_knots => sizeOf_list_dec)
    (case f_no_counts => sizeOf_list_dec)
    (case f_count_table => sizeOf_list_dec)
    (case f_counts => sizeOf_list_dec)
    (case f_in_order => sizeOf_list_dec)
    (case f_knots => sizeOf_list_dec)
    (case f_L_cell_at => sizeOf_list_dec)
    (case f_L_signs => sizeOf_list_dec)
    (case f_L_frame => sizeOf_list_dec)
    (case f_L_text => sizeOf_list_dec)
    (case f_L_ahead => sizeOf_list_dec)
    (case f_L_rising => sizeOf_list_dec)
    (case f_L_parted => sizeOf_list_dec)
    (case f_L_refused => sizeOf_list_dec)
    (case f_law => sizeOf_list_dec)
    (case n_all => k_is)
    (case n_enumerate => k_is)
    (case n_isinstance => k_is)
    (case n_len => k_is)
    (case n_list => k_is)
    (case n_max => k_is)
    (case n_min => k_is)
    (case n_range => k_is)
    (case n_reversed => k_is)
    (case n_sorted => k_is)
    (case n_str => k_is)
    (case n_sum => k_is)
    (case n_PressError => k_is)
    (case n_NoText => k_is)
    (case n_NoPlace => k_is)
    (case n_NoKnot => k_is)
    (case n_NoSign => k_is)
    (case x_NoKnot => k_exc)
    (case zga_NoKnot => k_is)
    (case zgt_NoKnot => k_is)
    (case zcl_NoKnot => k_is)
    (case zob_NoKnot => k_is)
    (case zbe_NoKnot => k_is)
    (case x_NoPlace => k_exc)
    (case zga_NoPlace => k_is)
    (case zgt_NoPlace => k_is)
    (case zcl_NoPlace => k_is)
    (case zob_NoPlace => k_is)
    (case zbe_NoPlace => k_is)
    (case x_NoText => k_exc)
    (case zga_NoText => k_is)
    (case zgt_NoText => k_is)
    (case zcl_NoText => k_is)
    (case zob_NoText => k_is)
    (case zbe_NoText => k_is)
    (case i_NoText_PressError => kit_is)
    (case it_L_refused_NoText_0 => kit_is)
    (case u_NoText_NoText => k_is)
#print axioms PySem.Challenge.cw_boughpress_k13_whole_knots_part_the_plac_holds
