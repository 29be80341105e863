import PyProof.Rows.All
import Wide.All
import OpenK.AllK
import Wide.FinOn
import Lean
import PyProof.EqAt
import PyProof.EqKinds
import PyProof.TupleCall
import KE.KDictLaws
import KE.KIntText
import KE.KRevIter
import PyProof.Draws
import PyProof.EnumMake
import PyProof.JoinWalk
import PyProof.MinMaxWalk
import PyProof.NeKinds
import PyProof.Rows.CallKw2
import PyProof.Rows.SortWalk
import PyProof.Rows.StrPadFill
import PyProof.Rows.StrRev
import PyProof.SeqI3
import PyProof.SumAny
import PyProof.WalkInts
import PyProof.ZipIter
import PySem.Challenge.RW_boughpress_k42_whole_all_trees_weighed
set_option Elab.async false
set_option linter.all false
set_option maxRecDepth 100000
namespace L2
open PySem PySem.Spec PyProof.Rows
abbrev Key := Sum Int Str
def keyIs : Key → Value → Bool
  | .inl k, v => Value.isInt k v
  | .inr x, v => Value.isStrOf x v
def keyH (w : World) : Key → Int
  | .inl k => hashInt k
  | .inr x => hashStr w x
theorem keyIs_shape : ∀ {k : Key} {v : Value}, keyIs k v = true → (∃ i t, k = Sum.inl i ∧ v = Value.int i t) ∨ (∃ x t, k = Sum.inr x ∧ v = Value.str x t)
  | .inl i, v, h => by
    obtain ⟨t, e⟩ := Value.isInt_shape (k := i) (v := v) h
    exact .inl ⟨i, t, rfl, e⟩
  | .inr x, v, h => by
    obtain ⟨t, e⟩ := Value.isStrOf_shape (x := x) (v := v) h
    exact .inr ⟨x, t, rfl, e⟩
theorem keyIs_int (i : Int) (t : Tok) : keyIs (.inl i) (.int i t) = true := by simp [keyIs, Value.isInt]
theorem keyIs_str (x : Str) (t : Tok) : keyIs (.inr x) (.str x t) = true := by simp [keyIs, Value.isStrOf]
theorem key_ll (a b : Int) : decide ((Sum.inl a : Key) = Sum.inl b) = (a == b) := by
  by_cases e : a = b
  · subst e; simp
  · have h : ¬ (Sum.inl a : Key) = Sum.inl b := fun q => e (Sum.inl.inj q)
    rw [decide_eq_false h]
    exact (beq_eq_false_iff_ne.mpr e).symm
theorem key_rr (a b : Str) : decide ((Sum.inr a : Key) = Sum.inr b) = decide (a = b) := by
  by_cases e : a = b
  · subst e; simp
  · have h : ¬ (Sum.inr a : Key) = Sum.inr b := fun q => e (Sum.inr.inj q)
    rw [decide_eq_false h, decide_eq_false e]
theorem key_lr (a : Int) (b : Str) : decide ((Sum.inl a : Key) = Sum.inr b) = false := decide_eq_false (fun q => nomatch q)
theorem key_rl (a : Str) (b : Int) : decide ((Sum.inr a : Key) = Sum.inl b) = false := decide_eq_false (fun q => nomatch q)
def mixKind (prog : Program) (w : World) : PySem.KeyKind prog w Key where
  is := keyIs
  hash := keyH w
  inj := fun v a b ha hb => by
    rcases keyIs_shape ha with ⟨i, t, rfl, rfl⟩ | ⟨x, t, rfl, rfl⟩
    · rcases keyIs_shape hb with ⟨j, u, rfl, e⟩ | ⟨y, u, rfl, e⟩
      · injection e with e1 _; rw [e1]
      · exact nomatch e
    · rcases keyIs_shape hb with ⟨j, u, rfl, e⟩ | ⟨y, u, rfl, e⟩
      · exact nomatch e
      · injection e with e1 _; rw [e1]
  byValue := fun k v h => by
    rcases keyIs_shape h with ⟨i, t, rfl, rfl⟩ | ⟨x, t, rfl, rfl⟩ <;> rfl
  pyHash := fun hv h => by
    rcases keyIs_shape hv with ⟨i, t, rfl, rfl⟩ | ⟨x, t, rfl, rfl⟩
    · exact wpAny_pyHash_int h
    · exact wpAny_pyHash_str h
  eqBool := fun hu hv h => by
    rcases keyIs_shape hu with ⟨i, t, rfl, rfl⟩ | ⟨x, t, rfl, rfl⟩
    · rcases keyIs_shape hv with ⟨j, u, rfl, rfl⟩ | ⟨y, u, rfl, rfl⟩
      · rw [key_ll] at h; exact wpAny_eqBool_int h
      · rw [key_lr] at h; exact SeqAt.EqAt.int_str i t y u _ _ _ _ h
    · rcases keyIs_shape hv with ⟨j, u, rfl, rfl⟩ | ⟨y, u, rfl, rfl⟩
      · rw [key_rl] at h; exact SeqAt.EqAt.str_int x t j u _ _ _ _ h
      · rw [key_rr] at h; exact wpAny_eqBool_str h
  «strs» := fun k x t v h => by
    rcases keyIs_shape h with ⟨i, u, rfl, e⟩ | ⟨y, u, rfl, e⟩
    · exact nomatch e
    · injection e with e1 _
      subst e1
      cases v <;> rfl
theorem mixKind_int (prog : Program) (w : World) (i : Int) (t : Tok) : (mixKind prog w).is (.inl i) (.int i t) = true := keyIs_int i t
theorem mixKind_str (prog : Program) (w : World) (x : Str) (t : Tok) : (mixKind prog w).is (.inr x) (.str x t) = true := keyIs_str x t
end L2
namespace L2
open PySem PySem.Spec PyProof.Rows
inductive V where
  | non | bl (b : Bool) | int (i : Int) | str (x : Str) | byt (b : Array UInt8) | flt (b : UInt64) | ref (a : Addr) | ty (n : String)
  deriving DecidableEq
def RelV : V → Value → Prop
  | .non, u => u = Value.none
  | .bl b, u => u = Value.bool b
  | .int i, u => ∃ t, u = Value.int i t
  | .str x, u => ∃ t, u = Value.str x t
  | .byt b, u => ∃ t, u = Value.bytes b t
  | .flt b, u => ∃ t, u = Value.float b t
  | .ref a, u => u = Value.ref a
  | .ty n, u => u = Value.type n
abbrev Vals : List V → List Value → Prop := Paired RelV
theorem Vals.length {xs : List V} {us : List Value} (r : Vals xs us) : xs.length = us.length := Paired.length r
theorem Vals.get : ∀ {xs : List V} {us : List Value} {i : Nat} {x : V}, Vals xs us → xs[i]? = some x → ∃ u, us[i]? = some u ∧ RelV x u
  | _, _, _, _, .nil, e => by simp at e
  | _, _, 0, _, .cons r _, e => by simp at e; subst e; exact ⟨_, rfl, r⟩
  | _, _, i + 1, x, .cons _ t, e => by
    obtain ⟨u, h1, h2⟩ := Vals.get (i := i) (x := x) t (by simpa using e)
    exact ⟨u, by simpa using h1, h2⟩
theorem Vals.set {x : V} {u : Value} (r : RelV x u) : ∀ {xs : List V} {us : List Value} (i : Nat), Vals xs us → Vals (xs.set i x) (us.set i u)
  | _, _, _, .nil => .nil
  | _, _, 0, .cons _ t => .cons r t
  | _, _, i + 1, .cons q t => .cons q (Vals.set r i t)
theorem Vals.append : ∀ {xs ys : List V} {us ws : List Value}, Vals xs us → Vals ys ws → Vals (xs ++ ys) (us ++ ws)
  | _, _, _, _, .nil, s => s
  | _, _, _, _, .cons r t, s => .cons r (Vals.append t s)
theorem Vals.take : ∀ {xs : List V} {us : List Value} (n : Nat), Vals xs us → Vals (xs.take n) (us.take n)
  | _, _, 0, _ => .nil
  | _, _, _ + 1, .nil => .nil
  | _, _, n + 1, .cons r t => .cons r (Vals.take n t)
theorem Vals.drop : ∀ {xs : List V} {us : List Value} (n : Nat), Vals xs us → Vals (xs.drop n) (us.drop n)
  | _, _, 0, r => r
  | _, _, _ + 1, .nil => .nil
  | _, _, n + 1, .cons _ t => Vals.drop n t
theorem Vals.none_of : ∀ {xs : List V} {us : List Value} {i : Nat}, Vals xs us → xs[i]? = none → us[i]? = none := fun {xs us i} r e => by
  have h1 := r.length
  have h2 : xs.length ≤ i := List.getElem?_eq_none_iff.mp e
  exact List.getElem?_eq_none_iff.mpr (by omega)
def RelO : Option V → Option Value → Prop
  | some v, some u => RelV v u
  | none, none => True
  | _, _ => False
def KV {κ : Type} : List (κ × V) → List (κ × Value) → Prop := Paired fun (p : κ × V) (q : κ × Value) => p.1 = q.1 ∧ RelV p.2 q.2
def kV : Key → V
  | .inl i => .int i
  | .inr x => .str x
inductive HO where
  | lst (xs : List V)
  | tup (xs : List V)
  | dK (kvs : List (Key × V)) | dT (kvs : List (List Key × V))
  | set (S : Int → Bool) (n : Nat)
  | ins (C dx : Addr) (fs : List (Str × V))
  | own (x : Addr)
  | xd (fs : List (Str × V))
  | met (f x : Addr)
  | rng (lo hi : Int)
  | frz (o : Obj) (u : HO)
  | tbl (ps : Array Value)
  | ext (φ : Heap → Prop)
abbrev Hp := Addr → Option HO
def upd (H : Hp) (a : Addr) (o : HO) : Hp := fun b => if b = a then some o else H b
theorem upd_same {H : Hp} {a : Addr} {o : HO} : upd H a o a = some o := by unfold upd; rw [if_pos rfl]
theorem upd_ne {H : Hp} {a b : Addr} {o : HO} (h : b ≠ a) : upd H a o b = H b := by unfold upd; rw [if_neg h]
theorem upd_upd {H : Hp} {a : Addr} {o u : HO} : upd (upd H a o) a u = upd H a u := by
  funext b; unfold upd; split <;> rfl
theorem ne_of {H : Hp} {a b : Addr} {o u : HO} (h : H a = some o) (h' : H b = some u) (d : o ≠ u) : a ≠ b := by
  intro e; subst e; rw [h] at h'; exact d (Option.some.inj h')
theorem ne_of_none {H : Hp} {a b : Addr} {o : HO} (h : H a = some o) (h' : H b = none) : a ≠ b := by
  intro e; subst e; rw [h] at h'; cases h'
section
variable (P : Program) (w : World)
def ObjOk (H : Hp) (h : Heap) (a : Addr) : HO → Prop
  | .lst xs => xs.length ≤ sizeLine ∧ ∃ (its : List Value) (n : Nat), Vals xs its ∧ h.get? a = some { cls := .type "list", data := .seq its.toArray n }
  | .tup xs => xs.length ≤ sizeLine ∧ ∃ its : List Value, Vals xs its ∧ IsTup h a its.toArray
  | .dK kvs => kvs.length ≤ sizeLine ∧ (a == sysModules) = false ∧ ∃ vs, KV kvs vs ∧ h.DictOf (mixKind P w) a vs
  | .dT kvs => kvs.length ≤ sizeLine ∧ (a == sysModules) = false ∧ ∃ xs : List (List Key × Addr × Value),
      Paired (fun (p : List Key × V) (q : List Key × Addr × Value) => p.1 = q.1 ∧ H q.2.1 = some (.tup (p.1.map kV)) ∧ RelV p.2 q.2.2) kvs xs ∧
      ∃ o es ep, h.get? a = some o ∧ o.ExactDict ∧ o.data = .dict es ep ∧ es.toList = xs.map (entryOfKey (tupleKind (mixKind P w))) ∧ (xs.map (·.1)).Nodup
  | .set S n => h.SetOf (intKind P w) a S n
  | .ins C dx fs => H dx = some (.own a) ∧ fs.length ≤ 1000 ∧ dx ≠ a ∧ h.get? a = some (PySem.W.instObj C dx) ∧
      ∃ mA, h.Ns1 dx mA ∧ (∀ f, RelO (fs.lookup f) (mA f)) ∧ PySem.Within mA (fs.map (·.1))
  | .own _ => ∃ o, h.get? a = some o
  | .xd fs => ∃ mA, h.Ns1 a mA ∧ ∀ f, RelO (fs.lookup f) (mA f)
  | .rng lo hi => ∃ t u v, h.get? a = some { cls := .type "range", data := .fields #[.int lo t, .int hi u, .int 1 v] }
  | .frz o u => h.get? a = some o ∧ ObjOk H h a u
  | .tbl ps => h.get? a = some { cls := .none, data := .fields ps }
  | .met f x => h.get? a = some (PySem.W.methodObj (.ref f) (.ref x))
  | .ext φ => φ h ∧ (∃ o, h.get? a = some o) ∧ ∀ h1 h2 : Heap, φ h1 → (∀ o, h1.get? a = some o → h2.get? a = some o) → φ h2
def HOk (H : Hp) (h : Heap) : Prop := ∀ a o, H a = some o → ObjOk P w H h a o
end
section
variable {P : Program} {w : World} {H H' : Hp} {h h' : Heap} {a : Addr} {o : HO}
theorem ObjOk.lt (x : ObjOk P w H h a o) : a < h.objs.size := by
  cases o with
  | lst xs => obtain ⟨_, _, _, _, e⟩ := x; exact Heap.lt_size e
  | tup xs => obtain ⟨_, _, _, p⟩ := x; exact p.lt
  | dK kvs => obtain ⟨_, _, _, _, o, _, _, e, _⟩ := x; exact Heap.lt_size e
  | dT kvs => obtain ⟨_, _, _, _, o, _, _, e, _⟩ := x; exact Heap.lt_size e
  | set S n => obtain ⟨o, _, _, _, e, _⟩ := x; exact Heap.lt_size e
  | ins C dx fs => obtain ⟨_, _, _, e, _⟩ := x; exact Heap.lt_size e
  | own y => obtain ⟨_, e⟩ := x; exact Heap.lt_size e
  | xd fs => obtain ⟨_, ⟨_, _, _, e, _⟩, _⟩ := x; exact Heap.lt_size e
  | rng lo hi => obtain ⟨_, _, _, e⟩ := x; exact Heap.lt_size e
  | frz ob u => obtain ⟨e, _⟩ := x; exact Heap.lt_size e
  | tbl ps => exact Heap.lt_size (show h.get? a = some _ from x)
  | met f y => exact Heap.lt_size (show h.get? a = some _ from x)
  | ext φ => obtain ⟨_, ⟨_, e⟩, _⟩ := x; exact Heap.lt_size e
theorem Paired.mapP {α β : Type} {F G : α → β → Prop} : ∀ {l₁ : List α} {l₂ : List β}, Paired F l₁ l₂ → (∀ a b, F a b → G a b) → Paired G l₁ l₂
  | _, _, .nil, _ => .nil
  | _, _, .cons r t, f => .cons (f _ _ r) (Paired.mapP t f)
theorem ObjOk.stay (x : ObjOk P w H h a o) (k : ∀ b u, (b = a ∨ H b = some (.own a)) → h.get? b = some u → h'.get? b = some u)
    (ho : ∀ b, H b = some (.own a) → H' b = some (.own a)) (ht : ∀ b xs, H b = some (.tup xs) → H' b = some (.tup xs)) : ObjOk P w H' h' a o := by
  induction o with
  | lst xs => obtain ⟨z, its, n, r, e⟩ := x; exact ⟨z, its, n, r, k _ _ (.inl rfl) e⟩
  | tup xs => obtain ⟨z, its, r, ob, e, c⟩ := x; exact ⟨z, its, r, ob, k _ _ (.inl rfl) e, c⟩
  | dK kvs => obtain ⟨z, y, vs, r, ob, es, ep, e, c⟩ := x; exact ⟨z, y, vs, r, ob, es, ep, k _ _ (.inl rfl) e, c⟩
  | dT kvs =>
    obtain ⟨z, y, xs, r, ob, es, ep, e, c⟩ := x
    exact ⟨z, y, xs, Paired.mapP r fun p q z => ⟨z.1, ht _ _ z.2.1, z.2.2⟩, ob, es, ep, k _ _ (.inl rfl) e, c⟩
  | set S n => obtain ⟨ob, es, ep, t, e, c⟩ := x; exact ⟨ob, es, ep, t, k _ _ (.inl rfl) e, c⟩
  | ins C dx fs =>
    obtain ⟨d, z, ne, e, mA, ⟨od, es, ep, e2, c⟩, r⟩ := x
    exact ⟨ho _ d, z, ne, k _ _ (.inl rfl) e, mA, ⟨od, es, ep, k _ _ (.inr d) e2, c⟩, r⟩
  | own y => obtain ⟨ob, e⟩ := x; exact ⟨ob, k _ _ (.inl rfl) e⟩
  | xd fs => obtain ⟨mA, ⟨od, es, ep, e, c⟩, r⟩ := x; exact ⟨mA, ⟨od, es, ep, k _ _ (.inl rfl) e, c⟩, r⟩
  | rng lo hi => obtain ⟨t, u, v, e⟩ := x; exact ⟨t, u, v, k _ _ (.inl rfl) e⟩
  | frz ob u ih => obtain ⟨e, q⟩ := x; exact ⟨k _ _ (.inl rfl) e, ih q⟩
  | tbl ps =>
    have e : h.get? a = some { cls := .none, data := .fields ps } := x
    show h'.get? a = some { cls := .none, data := .fields ps }
    exact k a _ (.inl rfl) e
  | met f y =>
    have e : h.get? a = some (PySem.W.methodObj (.ref f) (.ref y)) := x
    show h'.get? a = some (PySem.W.methodObj (.ref f) (.ref y))
    exact k a _ (.inl rfl) e
  | ext φ => obtain ⟨p, ⟨o, e⟩, st⟩ := x; exact ⟨st _ _ p fun o q => k _ _ (.inl rfl) q, ⟨o, k _ _ (.inl rfl) e⟩, st⟩
theorem HOk.lt (x : HOk P w H h) (e : H a = some o) : a < h.objs.size := (x a o e).lt
theorem HOk.fresh (x : HOk P w H h) (e : h.objs.size ≤ a) : H a = none := by
  cases q : H a with
  | none => rfl
  | some u => exact absurd (Nat.lt_of_lt_of_le (x.lt q) e) (Nat.lt_irrefl _)
theorem HOk.kept (x : HOk P w H h) (k : ∀ b u, h.get? b = some u → h'.get? b = some u) : HOk P w H h' := fun a o e =>
  (x a o e).stay (fun b u _ q => k b u q) (fun _ q => q) fun _ _ q => q
theorem HOk.laid (x : HOk P w H h) (k : ∀ b u, h.get? b = some u → h'.get? b = some u) (hp : h.objs.size ≤ a) (new : ObjOk P w (upd H a o) h' a o) : HOk P w (upd H a o) h' := fun b u e => by
  have hn := x.fresh hp
  by_cases hb : b = a
  · subst hb; rw [upd_same] at e; cases e; exact new
  · rw [upd_ne hb] at e
    exact (x b u e).stay (fun c v _ q => k c v q) (fun c q => by rw [upd_ne (ne_of_none q hn)]; exact q) fun c xs q => by rw [upd_ne (ne_of_none q hn)]; exact q
end
def Rd (H : Hp) (a : Addr) (u : HO) : Prop := H a = some u ∨ ∃ o, H a = some (.frz o u)
theorem Rd.of {H : Hp} {a : Addr} {u : HO} (h : H a = some u) : Rd H a u := .inl h
theorem Rd.ok {P : Program} {w : World} {H : Hp} {h : Heap} {a : Addr} {u : HO} (r : Rd H a u) (x : HOk P w H h) : ObjOk P w H h a u := by
  rcases r with r | ⟨o, r⟩
  · exact x a u r
  · obtain ⟨_, q⟩ := x a _ r
    exact q
def Mut : Option HO → Prop
  | some (.lst _) => True
  | some (.dK _) => True
  | some (.dT _) => True
  | some (.set _ _) => True
  | some (.ins _ _ _) => True
  | some (.ext _) => True
  | _ => False
section
variable {P : Program} {w : World} {H : Hp} {h h' : Heap} {x e : Addr} {o' : HO}
theorem HOk.write (ok : HOk P w H h) (mu : Mut (H x)) (he : e = x ∨ H e = some (.own x)) (k : ∀ b u, b ≠ e → h.get? b = some u → h'.get? b = some u) (heo : ∃ u, h'.get? e = some u)
    (new : ObjOk P w (upd H x o') h' x o') : HOk P w (upd H x o') h' := fun b u q => by
  have nown : ∀ c y, H c = some (.own y) → c ≠ x := fun c y r z => by subst z; rw [r] at mu; exact mu
  have ntup : ∀ c xs, H c = some (.tup xs) → c ≠ x := fun c xs r z => by subst z; rw [r] at mu; exact mu
  by_cases hb : b = x
  · subst hb; rw [upd_same] at q; cases q; exact new
  · rw [upd_ne hb] at q
    by_cases hbe : b = e
    · have q' : H b = some (.own x) := by
        rcases he with z | z
        · exact absurd (hbe.trans z) hb
        · rw [hbe]; exact z
      rw [q] at q'; cases q'
      obtain ⟨v, hv⟩ := heo
      exact ⟨v, by rw [hbe]; exact hv⟩
    · refine (ok b u q).stay (fun c v hc r => k c v ?_ r) (fun c r => by rw [upd_ne (nown c b r)]; exact r) fun c xs r => by rw [upd_ne (ntup c xs r)]; exact r
      rcases hc with rfl | hc
      · exact hbe
      · rintro rfl
        rcases he with z | z
        · exact nown c b hc z
        · rw [hc] at z; cases z; exact hb rfl
end
structure Un (fs ex : List Addr) (H H' : Hp) (h h' : Heap) : Prop where
  keep : ∀ b o, h.get? b = some o → H b = none → b ∉ fs → b ∉ ex → h'.get? b = some o
  slot : ∀ b o, h.get? b = some o → H b = none → b ∈ fs → b ∉ ex → ∃ sl, h'.get? b = some { o with slots := sl }
  free : ∀ b o, h.get? b = some o → H b = none → b ∉ ex → H' b = none
  there : ∀ b o, h.get? b = some o → b ∉ ex → ∃ o', h'.get? b = some o'
  tups : ∀ b xs, H b = some (.tup xs) → H' b = some (.tup xs)
  frzs : ∀ b o u, H b = some (.frz o u) → H' b = some (.frz o u)
  tbls : ∀ b ps, H b = some (.tbl ps) → ∃ more, H' b = some (.tbl (ps ++ more))
section
variable {fs fs' ex ex' : List Addr} {H H1 H2 : Hp} {h h1 h2 h' : Heap} {a x e : Addr} {o : HO}
theorem Un.any (u : Un fs ex H H1 h h1) {b : Addr} {ob : Obj} (q : h.get? b = some ob) (n : H b = none) (hx : b ∉ ex) : ∃ sl, h1.get? b = some { ob with slots := sl } := by
  by_cases hb : b ∈ fs
  · exact u.slot b ob q n hb hx
  · exact ⟨ob.slots, u.keep b ob q n hb hx⟩
theorem Un.trans (a : Un fs ex H H1 h h1) (b : Un fs ex H1 H2 h1 h2) : Un fs ex H H2 h h2 where
  keep := fun c ob q n hc hx => b.keep c ob (a.keep c ob q n hc hx) (a.free c ob q n hx) hc hx
  slot := fun c ob q n hc hx => by
    obtain ⟨sl, e1⟩ := a.slot c ob q n hc hx
    obtain ⟨sl', e2⟩ := b.slot c _ e1 (a.free c ob q n hx) hc hx
    exact ⟨sl', e2⟩
  free := fun c ob q n hx => by
    obtain ⟨o', e1⟩ := a.there c ob q hx
    exact b.free c o' e1 (a.free c ob q n hx) hx
  there := fun c ob q hx => by
    obtain ⟨o', e1⟩ := a.there c ob q hx
    exact b.there c o' e1 hx
  tups := fun c xs q => b.tups c xs (a.tups c xs q)
  frzs := fun c ob xs q => b.frzs c ob xs (a.frzs c ob xs q)
  tbls := fun c ps q => by
    obtain ⟨m1, e1⟩ := a.tbls c ps q
    obtain ⟨m2, e2⟩ := b.tbls c _ e1
    exact ⟨m1 ++ m2, by rw [e2, Array.append_assoc]⟩
theorem Un.kept (k : ∀ b u, h.get? b = some u → h'.get? b = some u) : Un fs ex H H h h' :=
  ⟨fun b ob q _ _ _ => k b ob q, fun b ob q _ _ _ => ⟨ob.slots, k b ob q⟩, fun _ _ _ n _ => n, fun b ob q _ => ⟨ob, k b ob q⟩, fun _ _ q => q, fun _ _ _ q => q, fun _ ps q => ⟨#[], by rw [q]; simp⟩⟩
theorem Un.refl : Un fs ex H H h h := Un.kept fun _ _ q => q
theorem Un.laid (k : ∀ b u, h.get? b = some u → h'.get? b = some u) (hp : h.objs.size ≤ a) (hn : H a = none) : Un fs ex H (upd H a o) h h' where
  keep := fun b u q _ _ _ => k b u q
  slot := fun b u q _ _ _ => ⟨u.slots, k b u q⟩
  free := fun b u q n _ => by rw [upd_ne (Nat.ne_of_lt (Nat.lt_of_lt_of_le (Heap.lt_size q) hp))]; exact n
  there := fun b u q _ => ⟨u, k b u q⟩
  tups := fun b xs q => by rw [upd_ne (ne_of_none q hn)]; exact q
  frzs := fun b u xs q => by rw [upd_ne (ne_of_none q hn)]; exact q
  tbls := fun b ps q => ⟨#[], by rw [upd_ne (ne_of_none q hn), q]; simp⟩
theorem Un.write (mu : Mut (H x)) (he : e = x ∨ H e = some (.own x)) (k : ∀ b u, b ≠ e → h.get? b = some u → h'.get? b = some u) (heo : ∃ u, h'.get? e = some u) : Un fs ex H (upd H x o) h h' := by
  have hx : ∀ b, H b = none → b ≠ x := fun b n z => by subst z; rw [n] at mu; exact mu
  have hb : ∀ b, H b = none → b ≠ e := fun b n z => by
    subst z
    rcases he with r | r
    · exact hx b n r
    · rw [n] at r; cases r
  have hm : ∀ b u, H b = some u → ¬ Mut (some u) → b ≠ x := fun b u q nm z => by subst z; rw [q] at mu; exact nm mu
  refine ⟨fun b u q n _ _ => k b u (hb b n) q, fun b u q n _ _ => ⟨u.slots, k b u (hb b n) q⟩, fun b u q n _ => by rw [upd_ne (hx b n)]; exact n, fun b u q _ => ?_,
    fun b xs q => by rw [upd_ne (hm b _ q fun z => z)]; exact q, fun b u xs q => by rw [upd_ne (hm b _ q fun z => z)]; exact q, fun b ps q => ⟨#[], by rw [upd_ne (hm b _ q fun z => z), q]; simp⟩⟩
  by_cases hbe : b = e
  · subst hbe; exact heo
  · exact ⟨u, k b u hbe q⟩
theorem Un.mono (u : Un fs ex H H1 h h1) (hs : ∀ b ∈ fs, b ∈ fs') (hx : ∀ b ∈ ex, b ∈ ex') : Un fs' ex' H H1 h h1 :=
  ⟨fun b ob q n hb he => u.keep b ob q n (fun z => hb (hs b z)) fun z => he (hx b z), fun _ _ q n _ he => u.any q n fun z => he (hx _ z), fun b ob q n he => u.free b ob q n fun z => he (hx b z), fun b ob q he => u.there b ob q fun z => he (hx b z), u.tups, u.frzs, u.tbls⟩
end
def trk (h : Heap) (H : Hp) : List Addr := (List.range h.objs.size).filter fun a => (H a).isSome
def hidT (h : Heap) (H : Hp) : Heap := PySem.W.hideAll h (trk h H)
theorem hidT_size (h : Heap) (H : Hp) : (hidT h H).objs.size = h.objs.size := PySem.W.hideAll_size _ _
theorem hidT_get {h : Heap} {H : Hp} {b : Addr} {o : Obj} (e : h.get? b = some o) (n : H b = none) : (hidT h H).get? b = some o :=
  PySem.W.hideAll_get _ e fun hm => by
    have q : (H b).isSome = true := (List.mem_filter.mp hm).2
    rw [n] at q; simp at q
theorem of_hidT {h : Heap} {H : Hp} {b : Addr} {o : Obj} (e : (hidT h H).get? b = some o) : h.get? b = some o ∧ H b = none := by
  have e' : h.get? b = some o := PySem.W.of_hideAll (trk h H) e
  refine ⟨e', ?_⟩
  cases q : H b with
  | none => rfl
  | some x =>
    have hm : b ∈ trk h H := List.mem_filter.mpr ⟨List.mem_range.mpr (Heap.lt_size e'), by simp [q]⟩
    have z : (hidT h H).get? b = none := PySem.W.hideAll_none (trk h H) hm
    rw [z] at e; cases e
def allNews (g h : Heap) (L : Addr) : List (Addr × Obj) := (List.range h.objs.size).filterMap fun a => if a = L ∨ (g.get? a).isSome = true then none else (h.get? a).map fun o => (a, o)
def rest (g h : Heap) (L d : Addr) : List (Addr × Obj) := (allNews g h L).filter fun p => decide (p.1 ≠ d)
end L2
namespace L2
open PySem PySem.Spec PyProof.Rows
structure Mod (K : PySem.W.Frag) (mg : Str → Option Value) (base : Heap) : Prop where
  kin : K.In base
  glob : base.Ns mainGlobals mg
  blt : ∃ mb, base.Ns builtinsNs mb ∧ ∀ x : Str, x ≠ "__name__" → mb x = bootBuiltins x
  nolimit : base.NoLimit
structure Cx where
  prog : Program
  w : World
  K : PySem.W.Frag
  mg : Str → Option Value
  base : Heap
  A : Around
  N : List Str
  s₀ : Shared
  H₀ : Hp
  env : Env
  outer : List Env
  stack : List Env
  ex : List Addr
  fn : Str → Bool
  calm : Bool
  pn : List (Addr × Obj)
  xe : Value → Shared → Prop
def frs (l : List Env) : List Addr := l.filterMap (·.frame)
abbrev Cx.fs (X : Cx) : List Addr := frs X.outer
def Vis (sc : Scope) (x : Str) : Prop := sc.names.lookup x = some .local ∨ sc.names.lookup x = some .cell ∨ sc.names.lookup x = some .free
def Loc (sc : Scope) (x : Str) : Prop := sc.names.lookup x = some .local ∨ sc.names.lookup x = some .cell
def Look (env : Env) (h : Heap) (m : Str → Option Value) (x : Str) (u : Value) : Prop :=
  (env.kindOf x = some .local ∧ m x = some u) ∨ ((env.kindOf x = some .cell ∨ env.kindOf x = some .free) ∧ ∃ c, env.cells.lookup x = some c ∧ h.IsCell c (some u))
structure Cx.Ok (X : Cx) : Prop where
  mod : Mod X.K X.mg X.base
  kind : X.env.scope.kind = .function
  glob : X.env.globals = mainGlobals
  blt : X.env.builtins = builtinsNs
  above : X.s₀.heap.objs.size ≤ X.env.locals
  inj : ∀ x y c, X.env.cells.lookup x = some c → X.env.cells.lookup y = some c → x = y
  has : ∀ x, (X.env.kindOf x = some .cell ∨ X.env.kindOf x = some .free) → ∃ c, X.env.cells.lookup x = some c
  cab : ∀ x c, X.fn x = true → X.env.cells.lookup x = some c → X.s₀.heap.objs.size ≤ c
  hd : X.calm = true → X.A.handled = none
  frames : X.A.frames = some X.stack
  stk : X.stack = X.outer ∨ (X.stack = X.env :: X.outer ∧ X.env.frame = some X.env.locals)
  exf : ∀ b ∈ X.ex, b ≠ X.env.locals ∧ ∀ x c, X.env.cells.lookup x = some c → c ≠ b
  bs : ∀ b o, X.base.get? b = some o → X.s₀.heap.get? b = some o ∧ X.H₀ b = none
  bsz : X.base.objs.size ≤ X.s₀.heap.objs.size
  noex : ∀ b o, X.base.get? b = some o → b ∉ X.ex
  exfs : ∀ b ∈ X.ex, b ∉ X.fs
  funs : X.s₀.heap.FunFrames X.base X.outer
  frf : ∀ b ∈ X.fs, X.H₀ b = none
structure Inv (X : Cx) (pins : List (Addr × Obj)) (σ : List (Option V)) (H : Hp) (s : Shared) : Prop where
  ok : X.Ok
  os : s.os = X.s₀.os
  bare : AllBare s.gens
  base : Un X.fs X.ex X.H₀ H X.s₀.heap s.heap
  loc : ∃ m, s.heap.Ns X.env.locals m ∧ ∀ (i : Nat) (x : Str) (v : V), X.N[i]? = some x → σ[i]? = some (some v) → Vis X.env.scope x → ∃ u, RelV v u ∧ Look X.env s.heap m x u
  cell : ∀ x c, X.env.cells.lookup x = some c → ∃ v, s.heap.IsCell c v
  free : H X.env.locals = none
  freeC : ∀ x c, X.env.cells.lookup x = some c → H c = none
  pin : ∀ p ∈ X.pn ++ pins, s.heap.get? p.1 = some p.2 ∧ H p.1 = none ∧ p.1 ≠ X.env.locals ∧ p.1 ∉ X.fs ∧ ∀ v, p.2.data ≠ .cell v
  hok : HOk X.prog X.w H s.heap
  len : σ.length = X.N.length
section
variable {X : Cx} {pins : List (Addr × Obj)} {σ : List (Option V)} {H H' : Hp} {s : Shared} {h' : Heap}
theorem Cx.Ok.nofr (ok : X.Ok) {b : Addr} {o : Obj} (e : X.base.get? b = some o) : b ∉ X.fs := fun hb => by
  have := (ok.funs.mem hb).1
  rw [e] at this; cases this
theorem Inv.bs (I : Inv X pins σ H s) : ∀ b o, X.base.get? b = some o → s.heap.get? b = some o ∧ H b = none := fun b o e =>
  ⟨I.base.keep b o (I.ok.bs b o e).1 (I.ok.bs b o e).2 (I.ok.nofr e) (I.ok.noex b o e), I.base.free b o (I.ok.bs b o e).1 (I.ok.bs b o e).2 (I.ok.noex b o e)⟩
theorem Inv.bk (I : Inv X pins σ H s) : ∀ b o, X.base.get? b = some o → s.heap.get? b = some o := fun b o e => (I.bs b o e).1
theorem Inv.mod (I : Inv X pins σ H s) : Mod X.K X.mg X.base := I.ok.mod
theorem Inv.kIn (I : Inv X pins σ H s) : X.K.In s.heap := I.ok.mod.kin.keeps I.bk
theorem Inv.nolimit (I : Inv X pins σ H s) : s.heap.NoLimit := I.ok.mod.nolimit.keeps I.bk
theorem Inv.fr (I : Inv X pins σ H s) : ∃ m, Fr X.base X.env.locals s.heap m :=
  let ⟨m, hn, _⟩ := I.loc
  ⟨m, hn, I.bk, Nat.le_trans I.ok.bsz I.ok.above⟩
theorem Inv.lt (I : Inv X pins σ H s) : X.env.locals < s.heap.objs.size := let ⟨_, hn, _⟩ := I.loc; hn.lt
theorem Inv.sz (I : Inv X pins σ H s) : X.s₀.heap.objs.size ≤ s.heap.objs.size := Nat.le_trans I.ok.above (Nat.le_of_lt I.lt)
theorem Inv.nofs (I : Inv X pins σ H s) {a : Addr} (h : s.heap.objs.size ≤ a) : a ∉ X.fs := fun hb => by
  obtain ⟨_, o, ho, _⟩ := I.ok.funs.mem hb
  exact absurd (Nat.lt_of_lt_of_le (Heap.lt_size ho) (Nat.le_trans I.sz h)) (Nat.lt_irrefl _)
theorem Inv.cne (I : Inv X pins σ H s) : ∀ x c, X.env.cells.lookup x = some c → c ≠ X.env.locals := fun x c e z => by
  obtain ⟨v, o, ho, hd⟩ := I.cell x c e
  obtain ⟨m, ⟨o', es, ep, ho', hd', _⟩, _⟩ := I.loc
  rw [z, ho'] at ho; cases ho; rw [hd'] at hd; cases hd
theorem Inv.funs (I : Inv X pins σ H s) : s.heap.FunFrames X.base X.outer := by
  have all : ∀ (l : List Env), (∀ b ∈ frs l, b ∈ X.fs) → X.s₀.heap.FunFrames X.base l → s.heap.FunFrames X.base l := by
    intro l
    induction l with
    | nil => intro _ _; trivial
    | cons env r ih =>
      intro hs hl
      obtain ⟨hk, ⟨L, o, hf, hn, ho, hd⟩, hr⟩ := hl
      have hL : L ∈ X.fs := hs L (by unfold frs; rw [List.filterMap_cons, hf]; exact List.mem_cons_self)
      obtain ⟨sl, e⟩ := I.base.slot L o ho (I.ok.frf L hL) hL fun z => I.ok.exfs L z hL
      exact ⟨hk, ⟨L, _, hf, hn, e, hd⟩, ih (fun b hb => hs b (by unfold frs; rw [List.filterMap_cons, hf]; exact List.mem_cons_of_mem _ hb)) hr⟩
  exact all X.outer (fun _ hb => hb) I.ok.funs
theorem Inv.stack (I : Inv X pins σ H s) : s.heap.FunFrames X.base X.stack := by
  rcases I.ok.stk with e | ⟨e, hf⟩
  · rw [e]; exact I.funs
  · rw [e]
    obtain ⟨m, hn, _⟩ := I.loc
    refine .cons (by rw [I.ok.kind]; decide) hf hn ?_ I.funs
    exact Heap.get?_none_of_le (Nat.le_trans I.ok.bsz I.ok.above)
theorem Inv.stkSub (I : Inv X pins σ H s) : ∀ b ∈ frs X.stack, b ∈ X.env.locals :: X.fs := fun b hb => by
  rcases I.ok.stk with e | ⟨e, hf⟩
  · rw [e] at hb; exact List.mem_cons_of_mem _ hb
  · rw [e] at hb
    unfold frs at hb
    rw [List.filterMap_cons, hf] at hb
    exact hb
theorem Inv.stkFree (I : Inv X pins σ H s) : ∀ b ∈ frs X.stack, H b = none := fun b hb => by
  rcases List.mem_cons.mp (I.stkSub b hb) with e | hb
  · rw [e]; exact I.free
  · obtain ⟨_, o, ho, _⟩ := I.ok.funs.mem hb
    exact I.base.free b o ho (I.ok.frf b hb) fun z => I.ok.exfs b z hb
theorem Inv.step {g' : Array GenState} {t' : Nat} {d' : Drawn} {ch : List Addr} (I : Inv X pins σ H s)
    (hch : ∀ b ∈ ch, (b ∈ X.ex ∨ X.s₀.heap.objs.size ≤ b) ∧ b ≠ X.env.locals ∧ (∀ x c, X.env.cells.lookup x = some c → c ≠ b) ∧ ∀ p ∈ X.pn ++ pins, p.1 ≠ b)
    (keep : ∀ b o, b ≠ X.env.locals → b ∉ X.fs → b ∉ ch → s.heap.get? b = some o → H b = none → h'.get? b = some o)
    (slot : ∀ b o, b ≠ X.env.locals → b ∈ X.fs → b ∉ ch → s.heap.get? b = some o → H b = none → ∃ sl, h'.get? b = some { o with slots := sl }) (free : ∀ b o, b ∉ ch → s.heap.get? b = some o → H b = none → H' b = none)
    (there : ∀ b o, b ∉ ch → s.heap.get? b = some o → ∃ o', h'.get? b = some o')
    (tups : ∀ b xs, H b = some (.tup xs) → H' b = some (.tup xs)) (frzs : ∀ b o u, H b = some (.frz o u) → H' b = some (.frz o u)) (tbls : ∀ b ps, H b = some (.tbl ps) → ∃ more, H' b = some (.tbl (ps ++ more)))
    (ns : ∀ m, s.heap.Ns X.env.locals m → h'.Ns X.env.locals m) (hok : HOk X.prog X.w H' h') (hg : AllBare g') :
    Inv X pins σ H' { s with heap := h', gens := g', drawn := d', toks := t' } := by
  have neL : ∀ b o, X.s₀.heap.get? b = some o → b ≠ X.env.locals := fun b o e => Nat.ne_of_lt (Nat.lt_of_lt_of_le (Heap.lt_size e) I.ok.above)
  have neC : ∀ b o, X.s₀.heap.get? b = some o → b ∉ X.ex → b ∉ ch := fun b o e hx hb => by
    rcases (hch b hb).1 with z | z
    · exact hx z
    · exact absurd (Nat.lt_of_lt_of_le (Heap.lt_size e) z) (Nat.lt_irrefl _)
  have cellK : ∀ x c, X.env.cells.lookup x = some c → ∀ v, s.heap.IsCell c v → h'.IsCell c v := fun x c e v ⟨o, ho, hd⟩ => by
    have nch : c ∉ ch := fun z => (hch c z).2.2.1 x c e rfl
    by_cases hc : c ∈ X.fs
    · obtain ⟨sl, q⟩ := slot c o (I.cne x c e) hc nch ho (I.freeC x c e)
      exact ⟨_, q, hd⟩
    · exact ⟨o, keep c o (I.cne x c e) hc nch ho (I.freeC x c e), hd⟩
  refine ⟨I.ok, I.os, hg, ⟨fun b o e n hb hx => ?_, fun b o e n hb hx => ?_, fun b o e n hx => ?_, fun b o e hx => ?_, fun b xs e => tups b xs (I.base.tups b xs e), fun b o xs e => frzs b o xs (I.base.frzs b o xs e), fun b ps e => ?_⟩, ?_, fun x c e => ?_, ?_, fun x c e => ?_, fun p hp => ?_, hok, I.len⟩
  · exact keep b o (neL b o e) hb (neC b o e hx) (I.base.keep b o e n hb hx) (I.base.free b o e n hx)
  · obtain ⟨sl, e1⟩ := I.base.slot b o e n hb hx
    obtain ⟨sl', e2⟩ := slot b _ (neL b o e) hb (neC b o e hx) e1 (I.base.free b o e n hx)
    exact ⟨sl', e2⟩
  · obtain ⟨o', e1⟩ := I.base.there b o e hx
    exact free b o' (neC b o e hx) e1 (I.base.free b o e n hx)
  · obtain ⟨o', e1⟩ := I.base.there b o e hx
    exact there b o' (neC b o e hx) e1
  · obtain ⟨m1, e1⟩ := I.base.tbls b ps e
    obtain ⟨m2, e2⟩ := tbls b _ e1
    exact ⟨m1 ++ m2, by rw [e2, Array.append_assoc]⟩
  · obtain ⟨m, hn, hl⟩ := I.loc
    refine ⟨m, ns m hn, fun i x v e1 e2 e3 => ?_⟩
    obtain ⟨u, r, l⟩ := hl i x v e1 e2 e3
    refine ⟨u, r, ?_⟩
    rcases l with l | ⟨k, c, e, z⟩
    · exact .inl l
    · exact .inr ⟨k, c, e, cellK x c e _ z⟩
  · obtain ⟨v, z⟩ := I.cell x c e
    exact ⟨v, cellK x c e v z⟩
  · obtain ⟨m, ⟨o, _, _, ho, _⟩, _⟩ := I.loc
    exact free _ o (fun z => (hch _ z).2.1 rfl) ho I.free
  · obtain ⟨v, o, ho, hd⟩ := I.cell x c e
    exact free c o (fun z => (hch c z).2.2.1 x c e rfl) ho (I.freeC x c e)
  · obtain ⟨e, n, ne, nf, d⟩ := I.pin p hp
    have nch : p.1 ∉ ch := fun z => (hch p.1 z).2.2.2 p hp rfl
    exact ⟨keep p.1 p.2 ne nf nch e n, free p.1 p.2 nch e n, ne, nf, d⟩
theorem Inv.un {t' : Nat} (I : Inv X pins σ H s) (u : Un X.fs [] H H' s.heap h') (hok : HOk X.prog X.w H' h') : Inv X pins σ H' { s with heap := h', toks := t' } := by
  obtain ⟨m, ⟨o, es, ep, ho, r⟩, _⟩ := id I.loc
  obtain ⟨sl, hL⟩ := u.any ho I.free (by simp)
  exact I.step (g' := s.gens) (d' := s.drawn) (ch := []) (fun _ z => nomatch z) (fun b o _ hb _ e n => u.keep b o e n hb (by simp)) (fun b o _ hb _ e n => u.slot b o e n hb (by simp)) (fun b o _ e n => u.free b o e n (by simp)) (fun b o _ e => u.there b o e (by simp)) u.tups u.frzs u.tbls (fun m' hm => by
    obtain ⟨o', es', ep', ho', r'⟩ := hm
    rw [ho] at ho'; cases ho'
    exact ⟨_, es', ep', hL, r'⟩) hok I.bare
theorem Inv.call {g' : Array GenState} {t' : Nat} {d' : Drawn} {ch : List Addr} (I : Inv X pins σ H s) (u : Un (frs X.stack) ch H H' s.heap h') (hok : HOk X.prog X.w H' h') (hg : AllBare g')
    (hch : ∀ b ∈ ch, (b ∈ X.ex ∨ X.s₀.heap.objs.size ≤ b) ∧ b ≠ X.env.locals ∧ (∀ x c, X.env.cells.lookup x = some c → c ≠ b) ∧ ∀ p ∈ X.pn ++ pins, p.1 ≠ b) :
    Inv X pins σ H' { s with heap := h', gens := g', drawn := d', toks := t' } := by
  obtain ⟨m, ⟨o, es, ep, ho, r⟩, _⟩ := id I.loc
  obtain ⟨sl, hL⟩ := u.any ho I.free fun z => (hch _ z).2.1 rfl
  exact I.step (ch := ch) hch (fun b o hL hb hc e n => u.keep b o e n (fun z => (List.mem_cons.mp (I.stkSub b z)).elim hL hb) hc) (fun b o _ _ hc e n => u.any e n hc) (fun b o hc e n => u.free b o e n hc) (fun b o hc e => u.there b o e hc) u.tups u.frzs u.tbls (fun m' hm => by
    obtain ⟨o', es', ep', ho', r'⟩ := hm
    rw [ho] at ho'; cases ho'
    exact ⟨_, es', ep', hL, r'⟩) hok hg
theorem Inv.turned {t' : Nat} {it : Addr} (I : Inv X pins σ H s) (k : ∀ b o, b ≠ it → s.heap.get? b = some o → h'.get? b = some o) (hn : H it = none) (hL : it ≠ X.env.locals)
    (h1 : it ∈ X.ex ∨ X.s₀.heap.objs.size ≤ it) (h2 : ∀ x c, X.env.cells.lookup x = some c → c ≠ it) (h3 : ∀ p ∈ X.pn ++ pins, p.1 ≠ it) : Inv X pins σ H { s with heap := h', toks := t' } := by
  have nit : ∀ b u, H b = some u → b ≠ it := fun b u e z => by rw [z, hn] at e; cases e
  refine I.step (g' := s.gens) (d' := s.drawn) (ch := [it]) (fun b hb => ?_) (fun b o _ _ hc e _ => k b o (fun z => hc (by simp [z])) e) (fun b o _ _ hc e _ => ⟨o.slots, k b o (fun z => hc (by simp [z])) e⟩) (fun _ _ _ _ n => n)
    (fun b o hc e => ⟨o, k b o (fun z => hc (by simp [z])) e⟩) (fun _ _ e => e) (fun _ _ _ e => e) (fun b ps e => ⟨#[], by rw [e]; simp⟩) (fun m hm => ?_) (fun b u e => ?_) I.bare
  · have e : b = it := by simpa using hb
    subst e
    exact ⟨h1, hL, h2, h3⟩
  · obtain ⟨o, es, ep, ho, r⟩ := hm
    exact ⟨o, es, ep, k _ o (Ne.symm hL) ho, r⟩
  · refine (I.hok b u e).stay (fun c v hc q => k c v ?_ q) (fun _ q => q) fun _ _ q => q
    rcases hc with z | z
    · rw [z]; exact nit b u e
    · exact nit c _ z
theorem Inv.tok (I : Inv X pins σ H s) (t : Nat) : Inv X pins σ H { s with toks := t } := I.un (h' := s.heap) (t' := t) Un.refl I.hok
theorem Inv.kept {t' : Nat} (I : Inv X pins σ H s) (k : ∀ b u, s.heap.get? b = some u → h'.get? b = some u) : Inv X pins σ H { s with heap := h', toks := t' } := I.un (Un.kept k) (I.hok.kept k)
theorem Inv.laid {a : Addr} {o : HO} {t' : Nat} (I : Inv X pins σ H s) (k : ∀ b u, s.heap.get? b = some u → h'.get? b = some u) (hp : s.heap.objs.size ≤ a) (new : ObjOk X.prog X.w (upd H a o) h' a o) :
    Inv X pins σ (upd H a o) { s with heap := h', toks := t' } := I.un (Un.laid k hp (I.hok.fresh hp)) (I.hok.laid k hp new)
theorem Inv.write {x e : Addr} {o : HO} {t' : Nat} (I : Inv X pins σ H s) (mu : Mut (H x)) (he : e = x ∨ H e = some (.own x)) (k : ∀ b u, b ≠ e → s.heap.get? b = some u → h'.get? b = some u) (heo : ∃ u, h'.get? e = some u)
    (new : ObjOk X.prog X.w (upd H x o) h' x o) : Inv X pins σ (upd H x o) { s with heap := h', toks := t' } := I.un (Un.write mu he k heo) (I.hok.write mu he k heo new)
theorem Inv.pins_of {pins' : List (Addr × Obj)} (I : Inv X pins σ H s) (h : ∀ p ∈ pins', s.heap.get? p.1 = some p.2 ∧ H p.1 = none ∧ p.1 ≠ X.env.locals ∧ p.1 ∉ X.fs ∧ ∀ v, p.2.data ≠ .cell v) : Inv X pins' σ H s :=
  ⟨I.ok, I.os, I.bare, I.base, I.loc, I.cell, I.free, I.freeC, fun p hp => (List.mem_append.mp hp).elim (fun z => I.pin p (List.mem_append_left _ z)) (h p), I.hok, I.len⟩
theorem nodup_ix {N : List Str} (hN : N.Nodup) {i j : Nat} {x : Str} (a : N[i]? = some x) (b : N[j]? = some x) : i = j := by
  obtain ⟨h1, e1⟩ := List.getElem?_eq_some_iff.mp a
  obtain ⟨h2, e2⟩ := List.getElem?_eq_some_iff.mp b
  exact (List.getElem_inj hN).mp (e1.trans e2.symm)
theorem store_ok2 {M : Model} {A : Around} {E : Value → Shared → Prop} {i : Nat} {x : Str} {v : V} {u : Value} {Q : Unit → Shared → Prop} (I : Inv X pins σ H s) (hN : X.N.Nodup) (hi : X.N[i]? = some x) (hx : Loc X.env.scope x) (r : RelV v u)
    (h : ∀ s', Inv X pins (σ.set i (some v)) H s' → (∃ a, Heap.SameBut a s.heap s'.heap ∧ (a = X.env.locals ∨ X.env.cells.lookup x = some a)) → Q () s') (hf : X.fn x = true ∨ X.env.scope.names.lookup x = some .local := by first | exact .inl rfl | exact .inr rfl | assumption) : wpAny M A (storeName X.env x u) Q E s := by
  obtain ⟨m, hn, hl⟩ := id I.loc
  have hcls : (X.env.scope.kind == .class || (X.env.scope.kind == .module && X.env.locals != X.env.globals)) = false := by rw [I.ok.kind]; rfl
  have hiσ : i < σ.length := by rw [I.len]; exact (List.getElem?_eq_some_iff.mp hi).1
  have cne := I.cne
  have tracked : ∀ {a : Addr} {h' : Heap}, (∃ o, s.heap.get? a = some o ∧ H a = none) → Heap.SameBut a s.heap h' → HOk X.prog X.w H h' := fun {a h'} ha hs b ob e => by
    obtain ⟨_, _, hfree⟩ := ha
    refine (I.hok b ob e).stay (fun c w' hc q => (hs.2 c ?_).trans q) (fun _ q => q) fun _ _ q => q
    rintro rfl
    rcases hc with rfl | hc
    · rw [hfree] at e; cases e
    · rw [hfree] at hc; cases hc
  rcases hx with hk | hk
  · refine wpAny_storeName_local hk hn (fun h' hn' hs => ?_) hcls
    obtain ⟨oL, _, _, hoL, _⟩ := id hn
    refine h _ ⟨I.ok, I.os, I.bare, ⟨fun b o e n hb hx => ?_, fun b o e n hb hx => ?_, I.base.free, fun b o e hx => ?_, I.base.tups, I.base.frzs, I.base.tbls⟩, ⟨_, hn', fun j y v' e1 e2 e3 => ?_⟩, fun y c e => ?_, I.free, I.freeC, fun p hp => ?_, tracked ⟨oL, hoL, I.free⟩ hs, by simpa using I.len⟩ ⟨_, hs, .inl rfl⟩
    · exact (hs.2 b (Nat.ne_of_lt (Nat.lt_of_lt_of_le (Heap.lt_size e) I.ok.above))).trans (I.base.keep b o e n hb hx)
    · obtain ⟨sl, e1⟩ := I.base.slot b o e n hb hx
      exact ⟨sl, (hs.2 b (Nat.ne_of_lt (Nat.lt_of_lt_of_le (Heap.lt_size e) I.ok.above))).trans e1⟩
    · obtain ⟨o', e1⟩ := I.base.there b o e hx
      exact ⟨o', (hs.2 b (Nat.ne_of_lt (Nat.lt_of_lt_of_le (Heap.lt_size e) I.ok.above))).trans e1⟩
    · by_cases hj : j = i
      · subst hj
        rw [hi] at e1; cases e1
        rw [List.getElem?_set_self hiσ] at e2
        cases e2
        exact ⟨u, r, .inl ⟨hk, by simp⟩⟩
      · rw [List.getElem?_set_ne (Ne.symm hj)] at e2
        obtain ⟨u', r', q⟩ := hl j y v' e1 e2 e3
        refine ⟨u', r', ?_⟩
        rcases q with ⟨k, e⟩ | ⟨k, c, e, z⟩
        · refine .inl ⟨k, ?_⟩
          have : y ≠ x := fun e => hj (nodup_ix hN e1 (e ▸ hi))
          simp [this, e]
        · exact .inr ⟨k, c, e, z.sameBut hs (cne y c e)⟩
    · obtain ⟨w', z⟩ := I.cell y c e
      exact ⟨w', z.sameBut hs (cne y c e)⟩
    · obtain ⟨e, n, ne, nf, d⟩ := I.pin p hp
      exact ⟨(hs.2 p.1 ne).trans e, n, ne, nf, d⟩
  · have hfn : X.fn x = true := by
      rcases hf with z | z
      · exact z
      · rw [z] at hk; cases hk
    obtain ⟨c, hc⟩ := I.ok.has x (.inl hk)
    obtain ⟨w', z⟩ := I.cell x c hc
    refine wpAny_storeName_cell I.ok.kind hk hc z (fun h' hc' hs => ?_)
    obtain ⟨oc, hoc, hocd⟩ := id z
    refine h { s with heap := h' } ⟨I.ok, I.os, I.bare, ⟨fun b o e n hb hx => ?_, fun b o e n hb hx => ?_, I.base.free, fun b o e hx => ?_, I.base.tups, I.base.frzs, I.base.tbls⟩, ⟨m, hn.sameBut hs (Ne.symm (cne x c hc)), fun j y v' e1 e2 e3 => ?_⟩, fun y c' e => ?_, I.free, I.freeC, fun p hp => ?_, tracked ⟨oc, hoc, I.freeC x c hc⟩ hs, by simpa using I.len⟩ ⟨c, hs, .inr hc⟩
    · exact (hs.2 b (Nat.ne_of_lt (Nat.lt_of_lt_of_le (Heap.lt_size e) (I.ok.cab x c hfn hc)))).trans (I.base.keep b o e n hb hx)
    · obtain ⟨sl, e1⟩ := I.base.slot b o e n hb hx
      exact ⟨sl, (hs.2 b (Nat.ne_of_lt (Nat.lt_of_lt_of_le (Heap.lt_size e) (I.ok.cab x c hfn hc)))).trans e1⟩
    · obtain ⟨o', e1⟩ := I.base.there b o e hx
      exact ⟨o', (hs.2 b (Nat.ne_of_lt (Nat.lt_of_lt_of_le (Heap.lt_size e) (I.ok.cab x c hfn hc)))).trans e1⟩
    · by_cases hj : j = i
      · subst hj
        rw [hi] at e1; cases e1
        rw [List.getElem?_set_self hiσ] at e2
        cases e2
        exact ⟨u, r, .inr ⟨.inl hk, c, hc, hc'⟩⟩
      · rw [List.getElem?_set_ne (Ne.symm hj)] at e2
        obtain ⟨u', r', q⟩ := hl j y v' e1 e2 e3
        refine ⟨u', r', ?_⟩
        rcases q with q | ⟨k, c', e, z'⟩
        · exact .inl q
        · refine .inr ⟨k, c', e, z'.sameBut hs ?_⟩
          rintro rfl
          exact hj (nodup_ix hN e1 (I.ok.inj _ _ _ e hc ▸ hi))
    · by_cases hcc : c' = c
      · subst hcc; exact ⟨_, hc'⟩
      · obtain ⟨w2, z2⟩ := I.cell y c' e
        exact ⟨w2, z2.sameBut hs hcc⟩
    · obtain ⟨e, n, ne, nf, d⟩ := I.pin p hp
      refine ⟨(hs.2 p.1 ?_).trans e, n, ne, nf, d⟩
      intro q
      rw [q, hoc] at e
      have q' : oc = p.2 := Option.some.inj e
      exact d w' (by rw [← q']; exact hocd)
theorem store_ok {M : Model} {A : Around} {E : Value → Shared → Prop} {i : Nat} {x : Str} {v : V} {u : Value} {Q : Unit → Shared → Prop} (I : Inv X pins σ H s) (hN : X.N.Nodup) (hi : X.N[i]? = some x) (hx : Loc X.env.scope x) (r : RelV v u)
    (h : ∀ s', Inv X pins (σ.set i (some v)) H s' → Q () s') (hf : X.fn x = true ∨ X.env.scope.names.lookup x = some .local := by first | exact .inl rfl | exact .inr rfl | assumption) : wpAny M A (storeName X.env x u) Q E s :=
  store_ok2 I hN hi hx r (fun s' I' _ => h s' I') hf
theorem Inv.call' {s' : Shared} {ch : List Addr} (I : Inv X pins σ H s) (ho : s'.os = s.os) (u : Un (frs X.stack) ch H H' s.heap s'.heap) (hok : HOk X.prog X.w H' s'.heap) (hg : AllBare s'.gens)
    (hch : ∀ b ∈ ch, (b ∈ X.ex ∨ X.s₀.heap.objs.size ≤ b) ∧ b ≠ X.env.locals ∧ (∀ x c, X.env.cells.lookup x = some c → c ≠ b) ∧ ∀ p ∈ X.pn ++ pins, p.1 ≠ b) : Inv X pins σ H' s' := by
  obtain ⟨h', g', d', t', o'⟩ := s'
  have e : o' = s.os := ho
  subst e
  exact I.call (g' := g') (t' := t') (d' := d') u hok hg hch
end
abbrev XK := Value → Option Addr → Hp → Prop
abbrev St := List (Option V)
abbrev VK := V → Hp → Prop
abbrev TE := St → Hp → VK → Prop
abbrev TT := St → Hp → (Bool → Hp → Prop) → Prop
abbrev TA := St → Hp → (List V → Hp → Prop) → Prop
structure Ends where
  nx : St → Hp → Prop
  rt : VK
  bk : St → Hp → Prop := fun _ _ => False
  ct : St → Hp → Prop := fun _ _ => False
abbrev TS := Ends → St → Hp → Prop
def EP (X : Cx) (pins : List (Addr × Obj)) (σ : St) (Q : VK) (u : Value) (s' : Shared) : Prop := ∃ v H', Inv X pins σ H' s' ∧ RelV v u ∧ Q v H'
def TP (X : Cx) (pins : List (Addr × Obj)) (σ : St) (Q : Bool → Hp → Prop) (b : Bool) (s' : Shared) : Prop := ∃ H', Inv X pins σ H' s' ∧ Q b H'
def AP (X : Cx) (pins : List (Addr × Obj)) (σ : St) (Q : List V → Hp → Prop) (us : List Value) (s' : Shared) : Prop := ∃ vs H', Inv X pins σ H' s' ∧ Vals vs us ∧ Q vs H'
def SP (X : Cx) (pins : List (Addr × Obj)) (D : Ends) (f : Flow) (s' : Shared) : Prop :=
  match f with
  | .next => ∃ σ' H', Inv X pins σ' H' s' ∧ D.nx σ' H'
  | .brk => ∃ σ' H', Inv X pins σ' H' s' ∧ D.bk σ' H'
  | .cont => ∃ σ' H', Inv X pins σ' H' s' ∧ D.ct σ' H'
  | .ret u => ∃ v σ' H', Inv X pins σ' H' s' ∧ RelV v u ∧ D.rt v H'
def PE (X : Cx) (e : Expr) (t : TE) : Prop :=
  ∀ (pins : List (Addr × Obj)) (s : Shared) (σ : St) (H : Hp) (Q : VK), Inv X pins σ H s → t σ H Q → wpAny (model X.prog X.w) X.A (eval e X.env) (EP X pins σ Q) X.xe s
def PT (X : Cx) (e : Expr) (t : TT) : Prop :=
  ∀ (pins : List (Addr × Obj)) (s : Shared) (σ : St) (H : Hp) (Q : Bool → Hp → Prop), Inv X pins σ H s → t σ H Q → wpAny (model X.prog X.w) X.A (isTrue e X.env (eval e X.env)) (TP X pins σ Q) X.xe s
def PW (X : Cx) (e : Expr) (t : TT) : Prop :=
  ∀ (whole : Sem Value) (pins : List (Addr × Obj)) (s : Shared) (σ : St) (H : Hp) (Q : Bool → Hp → Prop), Inv X pins σ H s → t σ H Q → wpAny (model X.prog X.w) X.A (isTrue e X.env whole) (TP X pins σ Q) X.xe s
theorem PW.pt {X : Cx} {e : Expr} {t : TT} (h : PW X e t) : PT X e t := h _
def PA (X : Cx) (es : List Expr) (t : TA) : Prop :=
  ∀ (pos : Pos) (pins : List (Addr × Obj)) (s : Shared) (σ : St) (H : Hp) (Q : List V → Hp → Prop), Inv X pins σ H s → t σ H Q → wpAny (model X.prog X.w) X.A (spliced (backTo pos (starEach es X.env))) (AP X pins σ Q) X.xe s
def PS (X : Cx) (st : Stmt) (t : TS) : Prop :=
  ∀ (pins : List (Addr × Obj)) (s : Shared) (σ : St) (H : Hp) (D : Ends), Inv X pins σ H s → t D σ H → wpAny (model X.prog X.w) X.A (exec st X.env) (SP X pins D) X.xe s
def PSs (X : Cx) (st : List Stmt) (t : TS) : Prop :=
  ∀ (pins : List (Addr × Obj)) (s : Shared) (σ : St) (H : Hp) (D : Ends), Inv X pins σ H s → t D σ H → wpAny (model X.prog X.w) X.A (execs st X.env) (SP X pins D) X.xe s
theorem thn {α : Type} {t : Sem α} {Q Q' : α → Shared → Prop} {M : Model} {A : Around} {E : Value → Shared → Prop} {s : Shared} (h : wpAny M A t Q E s) (hQ : ∀ a s, Q a s → Q' a s) : wpAny M A t Q' E s := wpAny_mono h hQ fun _ _ x => x
end L2
namespace L2
open PySem PySem.Spec PyProof.Rows
section
variable {X : Cx}
theorem bin {a b : Expr} {ta tb : TE} (ha : PE X a ta) (hb : PE X b tb) {pins : List (Addr × Obj)} {s : Shared} {σ : St} {H : Hp} {R : V → V → Hp → Prop} (I : Inv X pins σ H s) (h : ta σ H fun x H1 => tb σ H1 fun y H2 => R x y H2)
    {α : Type} {Q : α → Shared → Prop} {f : Value → Value → Sem α}
    (hf : ∀ v u s2 x y H2, Inv X pins σ H2 s2 → RelV x v → RelV y u → R x y H2 → wpAny (model X.prog X.w) X.A (f v u) Q X.xe s2) :
    wpAny (model X.prog X.w) X.A (eval a X.env) (fun v s₁ => wpAny (model X.prog X.w) X.A (eval b X.env) (fun u s₂ => wpAny (model X.prog X.w) X.A (f v u) Q X.xe s₂) X.xe s₁) X.xe s := by
  refine thn (ha pins s σ H _ I h) fun v s1 ⟨x, H1, I1, r1, q1⟩ => ?_
  refine thn (hb pins s1 σ H1 _ I1 q1) fun u s2 ⟨y, H2, I2, r2, q2⟩ => ?_
  exact hf v u s2 x y H2 I2 r1 r2 q2
def tVar (i : Nat) : TE := fun σ H Q => ∃ v, σ[i]? = some (some v) ∧ Q v H
def tC (v : V) : TE := fun _ H Q => Q v H
theorem pe_var {i : Nat} {x : Str} {pos : Pos} (hN : X.N[i]? = some x) (hv : Vis X.env.scope x) (hd : (x == ("__debug__" : Str)) = false := by decide) (hcd : (x == ("__classdict__" : Str)) = false := by decide) : PE X (.Name x pos) (tVar i) := by
  intro pins s σ H Q I h
  obtain ⟨v, e, h⟩ := h
  obtain ⟨m, hn, hl⟩ := I.loc
  obtain ⟨u, r, l⟩ := hl i x v hN e hv
  have fin : EP X pins σ Q u s := ⟨v, H, I, r, h⟩
  rcases l with ⟨hk, hm⟩ | ⟨hk, c, hc, hcell⟩
  · exact wpAny_Name (wpAny_loadName_local I.ok.kind hk hn hm fin) hd
  · rcases hk with hk | hk
    · exact wpAny_Name (wpAny_loadName_cell I.ok.kind hk hc hcell fin) hd
    · exact wpAny_Name (wpAny_loadName_free I.ok.kind hk hc hcell fin hcd) hd
theorem pe_int {i j pos} : PE X (.Constant (.int i) j pos) (tC (.int i)) := fun _ _ _ H _ I h => wpAny_Constant_int ⟨.int i, H, I.tok _, ⟨_, rfl⟩, h⟩
theorem pe_bl {b j pos} : PE X (.Constant (.bool b) j pos) (tC (.bl b)) := fun _ _ _ H _ I h => Constant_bool ⟨.bl b, H, I, rfl, h⟩
theorem pe_non {j pos} : PE X (.Constant .none j pos) (tC .non) := fun _ _ _ H _ I h => Constant_none ⟨.non, H, I, rfl, h⟩
theorem pe_str {x j pos} : PE X (.Constant (.str x) j pos) (tC (.str x)) := fun _ _ _ H _ I h => Calls.Constant_str ⟨.str x, H, I.tok _, ⟨_, rfl⟩, h⟩
def Gl (X : Cx) (x : Str) : Prop := X.env.kindOf x = some .globalImplicit
theorem ld_glob {E : Value → Shared → Prop} {pins : List (Addr × Obj)} {s : Shared} {σ : St} {H : Hp} {x : Str} {u : Value} {pos : Pos} {Q : Value → Shared → Prop} (I : Inv X pins σ H s) (hg : Gl X x) (hm : X.mg x = some u) (h : Q u s)
    (hd : (x == ("__debug__" : Str)) = false := by decide) : wpAny (model X.prog X.w) X.A (eval (.Name x pos) X.env) Q E s :=
  Calls.Name_function_global I.ok.kind hg (Calls.loadGlobal_global (by rw [I.ok.glob]; exact I.mod.glob.keeps I.bk) hm h) hd
theorem ld_blt {E : Value → Shared → Prop} {pins : List (Addr × Obj)} {s : Shared} {σ : St} {H : Hp} {x : Str} {u : Value} {pos : Pos} {Q : Value → Shared → Prop} (I : Inv X pins σ H s) (hg : Gl X x) (hm : X.mg x = none) (hv : bootBuiltins x = some u) (h : Q u s)
    (hn : x ≠ "__name__" := by decide) (hd : (x == ("__debug__" : Str)) = false := by decide) : wpAny (model X.prog X.w) X.A (eval (.Name x pos) X.env) Q E s := by
  obtain ⟨mb, h1, h2⟩ := I.mod.blt
  exact Calls.Name_function_global I.ok.kind hg (Calls.loadGlobal_builtin (by rw [I.ok.glob]; exact I.mod.glob.keeps I.bk) hm (by rw [I.ok.blt]; exact h1.keeps I.bk) ((h2 x hn).trans hv) h) hd
theorem pe_glob {x : Str} {v : V} {u : Value} {pos : Pos} (hg : Gl X x) (hm : X.mg x = some u) (r : RelV v u) (hd : (x == ("__debug__" : Str)) = false := by decide) : PE X (.Name x pos) (tC v) :=
  fun _ _ _ H _ I h => ld_glob I hg hm ⟨v, H, I, r, h⟩ hd
theorem pe_bltn {x : Str} {v : V} {u : Value} {pos : Pos} (hg : Gl X x) (hm : X.mg x = none) (hv : bootBuiltins x = some u) (r : RelV v u) (hn : x ≠ "__name__" := by decide) (hd : (x == ("__debug__" : Str)) = false := by decide) : PE X (.Name x pos) (tC v) :=
  fun _ _ _ H _ I h => ld_blt I hg hm hv ⟨v, H, I, r, h⟩ hn hd
variable {a b : Expr} {ta tb : TE} {pos : Pos}
def PC (X : Cx) (op : CmpOp) (a b : Expr) (t : TE) : Prop :=
  ∀ (pins : List (Addr × Obj)) (s : Shared) (σ : St) (H : Hp) (Q : VK), Inv X pins σ H s → t σ H Q →
    wpAny (model X.prog X.w) X.A (eval a X.env) (fun v s₁ => wpAny (model X.prog X.w) X.A (eval b X.env) (fun u s₂ => wpAny (model X.prog X.w) X.A (compareOp op v u) (EP X pins σ Q) X.xe s₂) X.xe s₁) X.xe s
theorem nobehind (b : Expr) {op : CmpOp} (h : op ≠ .In) (h2 : op ≠ .NotIn) : behindInMarks op b = false := by
  have e1 : (op == CmpOp.In) = false := by cases op <;> first | rfl | exact absurd rfl h
  have e2 : (op == CmpOp.NotIn) = false := by cases op <;> first | rfl | exact absurd rfl h2
  cases b <;> simp [behindInMarks, e1, e2]
def tIsN (ta : TE) : TE := fun σ H Q => ta σ H fun x H1 => Q (.bl (decide (x = .non))) H1
theorem RelV.none_iff {x : V} {v : Value} (r : RelV x v) : (v == Value.none) = decide (x = .non) := by
  cases x with
  | non => cases r; rfl
  | bl _ => cases r; rfl
  | int _ => obtain ⟨t, rfl⟩ := r; rfl
  | str _ => obtain ⟨t, rfl⟩ := r; rfl
  | byt _ => obtain ⟨t, rfl⟩ := r; rfl
  | flt _ => obtain ⟨t, rfl⟩ := r; rfl
  | ref _ => cases r; rfl
  | ty _ => cases r; rfl
theorem pc_isN {j pos'} (ha : PE X a ta) : PC X .Is a (.Constant .none j pos') (tIsN ta) := by
  intro pins s σ H Q I h
  refine thn (ha pins s σ H _ I h) fun v s1 ⟨x, H1, I1, r1, q1⟩ => ?_
  exact Constant_none (is_none_gen ⟨.bl _, H1, I1, by rw [r1.none_iff]; rfl, q1⟩)
def tB (t : TE) : TT := fun σ H Q => t σ H fun x H1 => ∃ c, x = .bl c ∧ Q c H1
theorem pt_cmp {op : CmpOp} {t : TE} (h : PC X op a b t) (h1 : behindInMarks op b = false := by first | exact nobehind _ (by decide) (by decide) | rfl) : PT X (.Compare a [op] [b] pos) (tB t) := by
  intro pins s σ H Q I hw
  refine wpAny_isTrue_Compare1 (thn (h pins s σ H _ I hw) fun v s1 h1 => thn h1 fun u s2 h2 => thn h2 fun c s3 ⟨x, H1, I1, r1, q1⟩ => ?_) h1
  obtain ⟨d, rfl, q⟩ := q1
  cases r1
  exact wpAny_truthy_bool ⟨H1, I1, q⟩
theorem pt_val {e : Expr} {t : TE} (h : PE X e t) (he : ∀ whole, isTrue e X.env whole = (do let v ← whole; standAt e.pos; holding [v] (truthy v)) := by intro _; rfl) : PT X e (tB t) := by
  intro pins s σ H Q I hw
  refine isTrue_plain (thn (h pins s σ H _ I hw) fun v s1 ⟨x, H1, I1, r1, q1⟩ => ?_) (he _)
  obtain ⟨d, rfl, q⟩ := q1
  cases r1
  exact wpAny_truthy_bool ⟨H1, I1, q⟩
variable {tA tB' : TT} {rest : List Expr}
def tAnd (t u : TT) : TT := fun σ H Q => t σ H fun c H1 => if c = true then u σ H1 Q else Q false H1
def tOr (t u : TT) : TT := fun σ H Q => t σ H fun c H1 => if c = true then Q true H1 else u σ H1 Q
def tNot (t : TT) : TT := fun σ H Q => t σ H fun c H1 => Q (!c) H1
theorem pw_and1 (ha : PT X a tA) : PW X (.BoolOp .And [a] pos) tA := by
  intro wh pins s σ H Q I h
  refine isTrue_and (thn (ha pins s σ H Q I h) fun c s1 e => ?_)
  cases c with
  | true => exact isTrue_and_nil e
  | false => exact e
theorem pw_or1 (ha : PT X a tA) : PW X (.BoolOp .Or [a] pos) tA := by
  intro wh pins s σ H Q I h
  refine isTrue_or (thn (ha pins s σ H Q I h) fun c s1 e => ?_)
  cases c with
  | false => exact isTrue_or_nil e
  | true => exact e
theorem pw_and (ha : PT X a tA) (hb : PW X (.BoolOp .And (b :: rest) pos) tB') : PW X (.BoolOp .And (a :: b :: rest) pos) (tAnd tA tB') := by
  intro wh pins s σ H Q I h
  refine isTrue_and (thn (ha pins s σ H _ I h) fun c s1 ⟨H1, I1, q1⟩ => ?_)
  cases c with
  | true => exact hb wh pins s1 σ H1 Q I1 q1
  | false => exact ⟨H1, I1, q1⟩
theorem pw_or (ha : PT X a tA) (hb : PW X (.BoolOp .Or (b :: rest) pos) tB') : PW X (.BoolOp .Or (a :: b :: rest) pos) (tOr tA tB') := by
  intro wh pins s σ H Q I h
  refine isTrue_or (thn (ha pins s σ H _ I h) fun c s1 ⟨H1, I1, q1⟩ => ?_)
  cases c with
  | true => exact ⟨H1, I1, q1⟩
  | false => exact hb wh pins s1 σ H1 Q I1 q1
theorem pt_not (ha : PT X a tA) : PT X (.UnaryOp .Not a pos) (tNot tA) := by
  intro pins s σ H Q I h
  exact isTrue_not (ha pins s σ H (fun c H1 => Q (!c) H1) I h)
def tAndV (ta tb : TE) : TE := fun σ H Q => ta σ H fun x H1 => ∃ c, x = .bl c ∧ if c = true then tb σ H1 Q else Q (.bl false) H1
def tNotV (ta : TE) : TE := fun σ H Q => ta σ H fun x H1 => ∃ c, x = .bl c ∧ Q (.bl (!c)) H1
theorem pe_one {op} {t : TE} (h : PE X a t) : PE X (.BoolOp op [a] pos) t := fun pins s σ H Q I hw => BoolOp_one (h pins s σ H Q I hw)
theorem pe_and (ha : PE X a ta) (hb : PE X (.BoolOp .And (b :: rest) pos) tb) : PE X (.BoolOp .And (a :: b :: rest) pos) (tAndV ta tb) := by
  intro pins s σ H Q I h
  refine BoolOp_and (thn (ha pins s σ H _ I h) fun v s1 ⟨x, H1, I1, r1, q1⟩ => ?_)
  obtain ⟨c, rfl, q1⟩ := q1
  cases r1
  refine wpAny_truthy_bool ?_
  cases c with
  | true => exact hb pins s1 σ H1 Q I1 q1
  | false => exact ⟨.bl false, H1, I1, rfl, q1⟩
theorem pe_not (ha : PE X a ta) : PE X (.UnaryOp .Not a pos) (tNotV ta) := by
  intro pins s σ H Q I h
  refine UnaryOp_ (thn (ha pins s σ H _ I h) fun v s1 ⟨x, H1, I1, r1, q1⟩ => ?_)
  obtain ⟨c, rfl, q1⟩ := q1
  cases r1
  exact not_of (wpAny_truthy_bool ⟨.bl (!c), H1, I1, rfl, q1⟩)
end
end L2
namespace L2
open PySem PySem.Spec PyProof.Rows
def SqL (K : PySem.W.Frag) (H : Hp) (a : Addr) (xs : List V) : Prop :=
  Rd H a (.lst xs) ∨
    ∃ (o : Obj) (its : Array Value) (n : Nat), K.lookup a = some o ∧ o.cls = .type "list" ∧ o.dict = none ∧ o.data = .seq its n ∧ its.size ≤ sizeLine ∧ Vals xs its.toList
def SqT (K : PySem.W.Frag) (H : Hp) (a : Addr) (xs : List V) : Prop :=
  Rd H a (.tup xs) ∨
    ∃ (o : Obj) (its : Array Value) (n : Nat), K.lookup a = some o ∧ o.cls = .type "tuple" ∧ o.data = .seq its n ∧ its.size ≤ sizeLine ∧ Vals xs its.toList
def absV : Value → Option V
  | .none => some .non
  | .bool b => some (.bl b)
  | .int i _ => some (.int i)
  | .str x _ => some (.str x)
  | .bytes b _ => some (.byt b)
  | .float b _ => some (.flt b)
  | .ref a => some (.ref a)
  | .type n => some (.ty n)
  | _ => none
theorem RelV.abs {x : V} {u : Value} (r : RelV x u) : absV u = some x := by
  cases x with
  | non => cases r; rfl
  | bl _ => cases r; rfl
  | int _ => obtain ⟨t, rfl⟩ := r; rfl
  | str _ => obtain ⟨t, rfl⟩ := r; rfl
  | byt _ => obtain ⟨t, rfl⟩ := r; rfl
  | flt _ => obtain ⟨t, rfl⟩ := r; rfl
  | ref _ => cases r; rfl
  | ty _ => cases r; rfl
theorem RelV.inj {x y : V} {u : Value} (r : RelV x u) (q : RelV y u) : x = y := Option.some.inj (r.abs.symm.trans q.abs)
theorem Vals.inj : ∀ {xs ys : List V} {us : List Value}, Vals xs us → Vals ys us → xs = ys
  | _, _, _, .nil, .nil => rfl
  | _, _, _, .cons r t, .cons r' t' => by rw [r.inj r', Vals.inj t t']
section
variable {X : Cx} {pins : List (Addr × Obj)} {σ : St} {H : Hp} {s : Shared} {a : Addr} {xs ys : List V}
theorem SqL.of {K : PySem.W.Frag} (h : H a = some (.lst xs)) : SqL K H a xs := .inl (.inl h)
theorem SqT.of {K : PySem.W.Frag} (h : H a = some (.tup xs)) : SqT K H a xs := .inl (.inl h)
theorem Inv.list (I : Inv X pins σ H s) (h : SqL X.K H a xs) : ∃ its : List Value, Vals xs its ∧ PlainL s.heap a its.toArray ∧ xs.length ≤ sizeLine := by
  rcases h with h | ⟨o, its, n, hk, hc, hd, hs, hz, r⟩
  · obtain ⟨z, its, n, r, e⟩ := h.ok I.hok
    exact ⟨its, r, ⟨_, n, e, rfl, rfl, rfl⟩, z⟩
  · refine ⟨its.toList, r, ⟨o, n, I.kIn a o hk, hc, hd, by simpa using hs⟩, ?_⟩
    have e := r.length
    simp only [Array.length_toList] at e
    omega
theorem Inv.tuple (I : Inv X pins σ H s) (h : SqT X.K H a xs) : ∃ its : List Value, Vals xs its ∧ IsTup s.heap a its.toArray ∧ xs.length ≤ sizeLine := by
  rcases h with h | ⟨o, its, n, hk, hc, hs, hz, r⟩
  · obtain ⟨z, its, r, p⟩ := h.ok I.hok
    exact ⟨its, r, p, z⟩
  · refine ⟨its.toList, r, ⟨o, I.kIn a o hk, hc, n, by simpa using hs⟩, ?_⟩
    have e := r.length
    simp only [Array.length_toList] at e
    omega
theorem Inv.list_inj (I : Inv X pins σ H s) (h : SqL X.K H a xs) (h' : SqL X.K H a ys) : xs = ys := by
  obtain ⟨its, r, ⟨o, n, e, _, _, d⟩, _⟩ := I.list h
  obtain ⟨its', r', ⟨o', n', e', _, _, d'⟩, _⟩ := I.list h'
  rw [e] at e'; cases e'
  rw [d] at d'
  injection d' with d1 _
  have : its = its' := by simpa using congrArg Array.toList d1
  subst this
  exact r.inj r'
theorem Inv.tuple_inj (I : Inv X pins σ H s) (h : SqT X.K H a xs) (h' : SqT X.K H a ys) : xs = ys := by
  obtain ⟨its, r, ⟨o, e, _, n, d⟩, _⟩ := I.tuple h
  obtain ⟨its', r', ⟨o', e', _, n', d'⟩, _⟩ := I.tuple h'
  rw [e] at e'; cases e'
  rw [d] at d'
  injection d' with d1 _
  have : its = its' := by simpa using congrArg Array.toList d1
  subst this
  exact r.inj r'
end
abbrev Cx.wish (X : Cx) (E : Value → Shared → Prop) : Cx := { X with xe := E }
abbrev Cx.nox (X : Cx) : Cx := X.wish fun _ _ => False
theorem Cx.Ok.wish {X : Cx} (ok : X.Ok) (E : Value → Shared → Prop) : (X.wish E).Ok :=
  ⟨ok.mod, ok.kind, ok.glob, ok.blt, ok.above, ok.inj, ok.has, ok.cab, ok.hd, ok.frames, ok.stk, ok.exf, ok.bs, ok.bsz, ok.noex, ok.exfs, ok.funs, ok.frf⟩
theorem Cx.Ok.unwish {X : Cx} {E : Value → Shared → Prop} (ok : (X.wish E).Ok) : X.Ok :=
  ⟨ok.mod, ok.kind, ok.glob, ok.blt, ok.above, ok.inj, ok.has, ok.cab, ok.hd, ok.frames, ok.stk, ok.exf, ok.bs, ok.bsz, ok.noex, ok.exfs, ok.funs, ok.frf⟩
section
variable {X : Cx} {pins : List (Addr × Obj)} {σ : St} {H : Hp} {s : Shared} {E : Value → Shared → Prop}
theorem Inv.wish (I : Inv X pins σ H s) (E : Value → Shared → Prop) : Inv (X.wish E) pins σ H s := ⟨I.ok.wish E, I.os, I.bare, I.base, I.loc, I.cell, I.free, I.freeC, I.pin, I.hok, I.len⟩
theorem Inv.unwish (I : Inv (X.wish E) pins σ H s) : Inv X pins σ H s := ⟨I.ok.unwish, I.os, I.bare, I.base, I.loc, I.cell, I.free, I.freeC, I.pin, I.hok, I.len⟩
theorem SP.unwish {D : Ends} {f : Flow} {s' : Shared} (h : SP (X.wish E) pins D f s') : SP X pins D f s' := by
  cases f with
  | next => obtain ⟨σ', H', I, q⟩ := h; exact ⟨σ', H', I.unwish, q⟩
  | brk => obtain ⟨σ', H', I, q⟩ := h; exact ⟨σ', H', I.unwish, q⟩
  | cont => obtain ⟨σ', H', I, q⟩ := h; exact ⟨σ', H', I.unwish, q⟩
  | ret u => obtain ⟨v, σ', H', I, r, q⟩ := h; exact ⟨v, σ', H', I.unwish, r, q⟩
theorem PE.nox {e : Expr} {t : TE} (h : PE X.nox e t) : PE X e t := fun pins s σ H Q I hw =>
  wpAny_mono (h pins s σ H Q (I.wish _) hw) (fun _ _ ⟨v, H', I', r, q⟩ => ⟨v, H', I'.unwish, r, q⟩) fun _ _ z => False.elim z
theorem PT.nox {e : Expr} {t : TT} (h : PT X.nox e t) : PT X e t := fun pins s σ H Q I hw =>
  wpAny_mono (h pins s σ H Q (I.wish _) hw) (fun _ _ ⟨H', I', q⟩ => ⟨H', I'.unwish, q⟩) fun _ _ z => False.elim z
theorem PSs.nox {st : List Stmt} {t : TS} (h : PSs X.nox st t) : PSs X st t := fun pins s σ H D I hw =>
  wpAny_mono (h pins s σ H D (I.wish _) hw) (fun _ _ q => q.unwish) fun _ _ z => False.elim z
end
section
variable {X : Cx} {st : Stmt} {rest : List Stmt} {t u : TS} {e : Expr} {te : TE} {pos : Pos}
def tNext : TS := fun D σ H => D.nx σ H
def tSeq (t u : TS) : TS := fun D σ H => t { D with nx := u D } σ H
theorem pss_nil : PSs X [] tNext := fun _ _ σ H _ I h => wpAny_execs_nil ⟨σ, H, I, h⟩
theorem pss_cons (h1 : PS X st t) (h2 : PSs X rest u) : PSs X (st :: rest) (tSeq t u) := by
  intro pins s σ H D I h
  refine wpAny_execs_cons (thn (h1 pins s σ H { D with nx := u D } I h) fun f s1 q => ?_)
  cases f with
  | next =>
    obtain ⟨σ', H', I', q⟩ := q
    exact h2 pins s1 σ' H' D I' q
  | ret v => exact q
  | brk => exact q
  | cont => exact q
theorem pss_one (h1 : PS X st t) : PSs X [st] t := by
  intro pins s σ H D I h
  refine wpAny_execs_cons (thn (h1 pins s σ H D I h) fun f s1 q => ?_)
  cases f with
  | next => exact wpAny_execs_nil q
  | ret v => exact q
  | brk => exact q
  | cont => exact q
theorem Inv.quiet {pins : List (Addr × Obj)} {σ : St} {H : Hp} {s : Shared} (I : Inv X pins σ H s) : interactive X.env = false := by simp [interactive, I.ok.kind]
def tDrop (te : TE) : TS := fun D σ H => te σ H fun _ H1 => D.nx σ H1
theorem ps_expr (he : PE X e te) (hs : swapsWith e none pos.line X.env = pure false := by rfl) : PS X (.Expr e pos) (tDrop te) := by
  intro pins s σ H D I h
  exact wpAny_Expr_any (thn (he pins s σ H _ I h) fun v s1 ⟨x, H1, I1, r1, q1⟩ => ⟨σ, H1, I1, q1⟩) I.quiet hs
def tRet (te : TE) : TS := fun D σ H => te σ H D.rt
theorem ps_ret (he : PE X e te) : PS X (.Return (some e) pos) (tRet te) := by
  intro pins s σ H D I h
  exact wpAny_Return_some (thn (he pins s σ H _ I h) fun v s1 ⟨x, H1, I1, r1, q1⟩ => ⟨x, σ, H1, I1, r1, q1⟩)
def tIfS (c : TT) (t u : TS) : TS := fun D σ H => c σ H fun b H1 => if b = true then t D σ H1 else u D σ H1
theorem ps_if {c : Expr} {a b : List Stmt} {tc : TT} (hc : PT X c tc) (ha : PSs X a t) (hb : PSs X b u) : PS X (.If c a b pos) (tIfS tc t u) := by
  intro pins s σ H D I h
  refine wpAny_If (thn (hc pins s σ H _ I h) fun d s1 ⟨H1, I1, q1⟩ => ?_)
  cases d with
  | true => exact ha pins s1 σ H1 D I1 q1
  | false => exact hb pins s1 σ H1 D I1 q1
end
abbrev TG := V → St → Hp → (St → Hp → Prop) → Prop
abbrev TGs := List V → St → Hp → (St → Hp → Prop) → Prop
def PG (X : Cx) (target : Expr) (t : TG) : Prop :=
  ∀ (pins : List (Addr × Obj)) (s : Shared) (σ : St) (H : Hp) (v : V) (u : Value) (Q : St → Hp → Prop), Inv X pins σ H s → RelV v u → t v σ H Q →
    wpAny (model X.prog X.w) X.A (assign target X.env u) (fun _ s' => ∃ σ' H', Inv X pins σ' H' s' ∧ Q σ' H') X.xe s
def PGs (X : Cx) (ts : List Expr) (t : TGs) : Prop :=
  ∀ (pins : List (Addr × Obj)) (s : Shared) (σ : St) (H : Hp) (vs : List V) (us : List Value) (Q : St → Hp → Prop), Inv X pins σ H s → Vals vs us → t vs σ H Q →
    wpAny (model X.prog X.w) X.A (assignInOrder ((assignEach ts X.env).map (·.2)) us) (fun _ s' => ∃ σ' H', Inv X pins σ' H' s' ∧ Q σ' H') X.xe s
abbrev TSet := V → V → V → Hp → (Hp → Prop) → Prop
def PSet (X : Cx) (t : TSet) : Prop :=
  ∀ (pins : List (Addr × Obj)) (s : Shared) (σ : St) (H : Hp) (o i v : V) (ov iv u : Value) (Q : Hp → Prop), Inv X pins σ H s → RelV o ov → RelV i iv → RelV v u → t o i v H Q →
    wpAny (model X.prog X.w) X.A (setItem ov iv u) (fun _ s' => ∃ H', Inv X pins σ H' s' ∧ Q H') X.xe s
abbrev TIp := V → V → Hp → VK → Prop
def PIp (X : Cx) (op : Operator) (t : TIp) : Prop :=
  ∀ (pins : List (Addr × Obj)) (s : Shared) (σ : St) (H : Hp) (x y : V) (v u : Value) (Q : VK), Inv X pins σ H s → RelV x v → RelV y u → t x y H Q →
    wpAny (model X.prog X.w) X.A (inplaceOp op v u) (EP X pins σ Q) X.xe s
section
variable {X : Cx} {pos : Pos}
def gName (i : Nat) : TG := fun v σ H Q => Q (σ.set i (some v)) H
theorem pg_name {i : Nat} {x : Str} (hN : X.N.Nodup) (hi : X.N[i]? = some x) (hx : Loc X.env.scope x) (hf : X.fn x = true ∨ X.env.scope.names.lookup x = some .local := by first | exact .inl rfl | exact .inr rfl | assumption) : PG X (.Name x pos) (gName i) := by
  intro pins s σ H v u Q I r h
  exact wpAny_assign_Name (store_ok I hN hi hx r (fun s' I' => ⟨_, H, I', h⟩) hf)
def gNil : TGs := fun vs σ H Q => vs = [] ∧ Q σ H
def gCons (t : TG) (u : TGs) : TGs := fun vs σ H Q => ∃ v r, vs = v :: r ∧ t v σ H fun σ' H' => u r σ' H' Q
theorem pgs_nil : PGs X [] gNil := by
  intro pins s σ H vs us Q I r h
  obtain ⟨e, h⟩ := h
  subst e
  cases r
  exact assignInOrder_nil ⟨σ, H, I, h⟩
theorem pgs_cons {e : Expr} {es : List Expr} {t : TG} {u : TGs} (h1 : PG X e t) (h2 : PGs X es u)
    (hs : (assignEach (e :: es) X.env).map (·.2) = assign e X.env :: (assignEach es X.env).map (·.2) := by rfl) : PGs X (e :: es) (gCons t u) := by
  intro pins s σ H vs us Q I r h
  obtain ⟨v, vr, e1, h⟩ := h
  subst e1
  cases r with
  | cons r rr =>
    rw [hs]
    refine assignInOrder_cons (thn (h1 pins s σ H _ _ _ I r h) fun _ s1 ⟨σ1, H1, I1, q1⟩ => ?_)
    exact h2 pins s1 σ1 H1 _ _ Q I1 rr q1
def gTup (K : PySem.W.Frag) (n : Nat) (t : TGs) : TG := fun v σ H Q => ∃ a xs, v = .ref a ∧ SqT K H a xs ∧ xs.length = n ∧ t xs σ H Q
theorem pg_tup {es : List Expr} {k : Nat} {t : TGs} {n : Nat} (hc : X.calm = true) (h : PGs X es t)
    (hn : (assignEach es X.env).length = n := by rfl) (hst : (assignEach es X.env).findIdx? (·.1) = none := by rfl) : PG X (.Tuple es k pos) (gTup X.K n t) := by
  intro pins s σ H v u Q I r hw
  obtain ⟨a, xs, e1, hq, hl, hw⟩ := hw
  subst e1
  cases r
  obtain ⟨its, rv, ht, hz⟩ := I.tuple hq
  refine assign_Tuple_tuple (I.ok.hd hc) ht (by simp [hn, ← hl, rv.length]) hst fun h' hx => ?_
  have I1 : Inv X pins σ H { s with heap := h' } := I.kept (t' := s.toks) fun b o e => hx b o (Nat.ne_of_lt (Heap.lt_size e)) e
  exact h pins _ σ H xs _ Q I1 (by simpa using rv) hw
def tAsg (te : TE) (g : TG) : TS := fun D σ H => te σ H fun x H1 => g x σ H1 D.nx
theorem ps_set {i : Nat} {x : Str} {e : Expr} {te : TE} {pos' : Pos} (hN : X.N.Nodup) (hi : X.N[i]? = some x) (hx : Loc X.env.scope x) (he : PE X e te) (hs : swapsWith e (some (.Name x pos')) pos.line X.env = pure false := by rfl) (hf : X.fn x = true ∨ X.env.scope.names.lookup x = some .local := by first | exact .inl rfl | exact .inr rfl | assumption) :
    PS X (.Assign [.Name x pos'] e pos) (tAsg te (gName i)) := by
  intro pins s σ H D I h
  refine wpAny_Assign_Name (thn (he pins s σ H _ I h) fun v s1 ⟨y, H1, I1, r1, q1⟩ => ?_) hs
  exact store_ok I1 hN hi hx r1 (fun s2 I2 => ⟨_, H1, I2, q1⟩) hf
def tPar (i j : Nat) (ta : TA) : TS := fun D σ H => ta σ H fun vs H1 => ∃ v w, vs = [v, w] ∧ D.nx ((σ.set i (some v)).set j (some w)) H1
theorem ps_par {i j : Nat} {x y : Str} {a b : Expr} {ta : TA} {px py pt : Pos} {kt k2 pt2} (hc : X.calm = true) (hN : X.N.Nodup) (hi : X.N[i]? = some x) (hj : X.N[j]? = some y) (hij : i ≠ j)
    (hx : X.env.scope.names.lookup x = some .local) (hy : X.env.scope.names.lookup y = some .local) (ha : PA X [a, b] ta)
    (hw : swappedStores [.Tuple [.Name x px, .Name y py] kt pt] (.Tuple [a, b] k2 pt2) X.env = pure (some [x, y]))
    (hs : swapsWithSole [.Tuple [.Name x px, .Name y py] kt pt] (.Tuple [a, b] k2 pt2) pos.line X.env = pure false := by rfl) :
    PS X (.Assign [.Tuple [.Name x px, .Name y py] kt pt] (.Tuple [a, b] k2 pt2) pos) (tPar i j ta) := by
  intro pins s σ H D I h
  rw [exec_Assign_arm]
  refine wpAny_bind (wpAny_standAt ?_)
  rw [hs]
  refine wpAny_bind (wpAny_pure ?_)
  rw [if_neg (by decide)]
  refine wpAny_bind (Tuple_ (thn (ha _ pins s σ H _ I h) fun us s1 ⟨vs, H1, I1, r1, q1⟩ => ?_))
  obtain ⟨v, w, e1, q1⟩ := q1
  subst e1
  obtain ⟨u1, u2, rfl, rv, rw'⟩ : ∃ u1 u2, us = [u1, u2] ∧ RelV v u1 ∧ RelV w u2 := by
    cases r1 with
    | cons p q =>
      cases q with
      | cons p' q' =>
        cases q'
        exact ⟨_, _, rfl, p, p'⟩
  refine wpAny_newObj_type ?_ (by show 2 ≤ sizeLine; decide)
  have I2 : Inv X pins σ H1 { s1 with heap := s1.heap.push { cls := .type "tuple", data := .seq [u1, u2].toArray } } := I1.kept (t' := s1.toks) fun b o e => Heap.get?_push_of_some _ e
  rw [hw]
  refine wpAny_bind (wpAny_pure ?_)
  show wpAny (model X.prog X.w) X.A (do rule "assign.swapped-stores"; let items ← unpackItems (.ref s1.heap.objs.size) 2 none; assignInOrder [fun v => bindName X.env y v, fun v => bindName X.env x v] items.reverse; pure Flow.next) _ _ _
  refine wpAny_bind (wpAny_rule (wpAny_bind (unpackItems_tuple (items := #[u1, u2]) (I.ok.hd hc) (IsTup.new s1.heap _) fun h' hx' => ?_)))
  have I3 := I2.kept (h' := h') (t' := s1.toks) fun b o e => hx' b o (Nat.ne_of_lt (Heap.lt_size e)) e
  show wpAny _ _ (assignInOrder [fun v => bindName X.env y v, fun v => bindName X.env x v] [u2, u1] >>= fun _ => pure Flow.next) _ _ _
  refine wpAny_bind (assignInOrder_cons (wpAny_bindName (store_ok I3 hN hj (.inl hy) rw' (fun s2 I4 => ?_) (.inr hy))))
  refine assignInOrder_cons (wpAny_bindName (store_ok I4 hN hi (.inl hx) rv (fun s3 I5 => assignInOrder_nil (wpAny_pure ?_)) (.inr hx)))
  rw [List.set_comm _ _ (Ne.symm hij)] at I5
  exact ⟨_, H1, I5, q1⟩
def tAugS (to ti te : TE) (tget : V → V → Hp → VK → Prop) (tip : TIp) (tset : TSet) : TS := fun D σ H => to σ H fun o H1 => ti σ H1 fun i H2 => tget o i H2 fun x H3 => te σ H3 fun y H4 => tip x y H4 fun z H5 => tset o i z H5 fun H6 => D.nx σ H6
def PGet (X : Cx) (t : V → V → Hp → VK → Prop) : Prop :=
  ∀ (pins : List (Addr × Obj)) (s : Shared) (σ : St) (H : Hp) (o i : V) (ov iv : Value) (Q : VK), Inv X pins σ H s → RelV o ov → RelV i iv → t o i H Q →
    wpAny (model X.prog X.w) X.A (getItem ov iv) (EP X pins σ Q) X.xe s
theorem ps_augS {o i e : Expr} {to ti te : TE} {tget : V → V → Hp → VK → Prop} {tip : TIp} {tset : TSet} {op : Operator} {tpos : Pos} (ho : PE X o to) (hi : PE X i ti) (hg : PGet X tget) (he : PE X e te) (hp : PIp X op tip) (hs : PSet X tset)
    (ha : ∀ ov iv new, augStore i ov iv new = (do holding [new, ov, iv] (setItem ov iv new); release [new, ov, iv] []; pure .next) := by intros; rfl) : PS X (.AugAssign (.Subscript o i tpos) op e pos) (tAugS to ti te tget tip tset) := by
  intro pins s σ H D I h
  refine wpAny_AugAssign_SubscriptAny (thn (ho pins s σ H _ I h) fun ov s1 ⟨x1, H1, I1, r1, q1⟩ => ?_) ha
  refine thn (hi pins s1 σ H1 _ I1 q1) fun iv s2 ⟨x2, H2, I2, r2, q2⟩ => ?_
  refine thn (hg pins s2 σ H2 x1 x2 ov iv _ I2 r1 r2 q2) fun old s3 ⟨x3, H3, I3, r3, q3⟩ => ?_
  refine thn (he pins s3 σ H3 _ I3 q3) fun v s4 ⟨x4, H4, I4, r4, q4⟩ => ?_
  refine thn (hp pins s4 σ H4 x3 x4 old v _ I4 r3 r4 q4) fun new s5 ⟨x5, H5, I5, r5, q5⟩ => ?_
  exact thn (hs pins s5 σ H5 x1 x2 x5 ov iv new _ I5 r1 r2 r5 q5) fun _ s6 ⟨H6, I6, q6⟩ => ⟨σ, H6, I6, q6⟩
end
section
variable {X : Cx} {pos : Pos}
def tWhile (c : TT) (tb : TS) : TS := fun D σ H => ∃ W : Nat → St → Hp → Prop, (∃ m, W m σ H) ∧ ∀ m σ H, W m σ H →
  c σ H fun b H1 => if b = true then ∃ N : St → Hp → Prop, (∀ σ' H', N σ' H' → ∃ m', m' < m ∧ W m' σ' H') ∧ tb { D with nx := N, ct := N, bk := D.nx } σ H1 else D.nx σ H1
theorem ps_while {c : Expr} {body : List Stmt} {tc : TT} {tb : TS} (hp : PassesOwn (model X.prog X.w) X.A X.env X.xe) (hc : PT X c tc) (hb : PSs X body tb) : PS X (.While c body [] pos) (tWhile tc tb) := by
  intro pins s σ H D I h
  obtain ⟨W, ⟨m0, w0⟩, turn⟩ := h
  refine wpAny_While (codeAny_whileLoop (fun n s' => ∃ σ' H', Inv X pins σ' H' s' ∧ W n σ' H') ?_ m0 ⟨σ, H, I, w0⟩)
  rintro n s1 ⟨σ1, H1, I1, w1⟩
  refine wpAny_passesOwn hp (thn (hc pins s1 σ1 H1 _ I1 (turn n σ1 H1 w1)) fun b s2 ⟨H2, I2, q2⟩ => ?_)
  cases b with
  | true =>
    obtain ⟨N, hN, q2⟩ := q2
    rw [if_pos rfl]
    refine wpAny_passesOwn hp (thn (hb pins s2 σ1 H2 _ I2 q2) fun f s3 q3 => ?_)
    cases f with
    | next =>
      obtain ⟨σ3, H3, I3, n3⟩ := q3
      obtain ⟨m', hm, w3⟩ := hN σ3 H3 n3
      exact ⟨m', hm, σ3, H3, I3, w3⟩
    | cont =>
      obtain ⟨σ3, H3, I3, n3⟩ := q3
      obtain ⟨m', hm, w3⟩ := hN σ3 H3 n3
      exact ⟨m', hm, σ3, H3, I3, w3⟩
    | brk => exact q3
    | ret v => exact q3
  | false =>
    rw [if_neg Bool.false_ne_true]
    exact wpAny_execs_nil ⟨σ1, H2, I2, q2⟩
end
structure It where
  go : Nat → Hp → Prop
  yld : Nat → Hp → V → Hp → Prop
  stop : Nat → Hp → Prop
def FpOk (X : Cx) (pins : List (Addr × Obj)) (H : Hp) (b : Addr) : Prop :=
  H b = none ∧ b ≠ X.env.locals ∧ b ∉ X.fs ∧ (b ∈ X.ex ∨ X.s₀.heap.objs.size ≤ b) ∧ (∀ x c, X.env.cells.lookup x = some c → c ≠ b) ∧ ∀ p ∈ X.pn ++ pins, p.1 ≠ b
theorem Inv.fpOk {X : Cx} {pins : List (Addr × Obj)} {σ : St} {H H' : Hp} {s : Shared} {b : Addr} (I : Inv X pins σ H s) (hb : s.heap.objs.size ≤ b) (hn : H' b = none) : FpOk X pins H' b := by
  refine ⟨hn, Nat.ne_of_gt (Nat.lt_of_lt_of_le I.lt hb), I.nofs hb, .inr (Nat.le_trans I.sz hb), fun x c e z => ?_, fun p hp z => ?_⟩
  · obtain ⟨v, q⟩ := I.cell x c e
    exact absurd (Nat.lt_of_lt_of_le q.lt (by rw [z]; exact hb)) (Nat.lt_irrefl _)
  · exact absurd (Nat.lt_of_lt_of_le (Heap.lt_size (I.pin p hp).1) (by rw [z]; exact hb)) (Nat.lt_irrefl _)
structure Turn (P : Program) (w : World) (K : PySem.W.Frag) (tg : Expr) (J : It) (fp : List Addr) (it : Addr) (tn : Nat → Heap → Prop) : Prop where
  mem : it ∈ fp
  obj : ∀ i h, tn i h → ∀ b ∈ fp, ∃ o, h.get? b = some o ∧ ∀ v, o.data ≠ .cell v
  keep : ∀ i h h', tn i h → (∀ b ∈ fp, ∀ o, h.get? b = some o → h'.get? b = some o) → tn i h'
  item : ∀ (X : Cx), X.prog = P → X.w = w → X.K = K → X.calm = true → ∀ (i : Nat) (pins : List (Addr × Obj)) (s : Shared) (σ : St) (H : Hp) (E : Value → Shared → Prop), Inv X pins σ H s → (∀ b ∈ fp, FpOk X pins H b) → tn i s.heap → J.go i H →
    wpAny (model P w) X.A (pyNext (.ref it)) (fun r s1 => ∃ u, r = some u ∧
      wpAny (model P w) X.A (letOwnedTupleGo tg (.ref it) u) (fun _ s2 => ∃ x H', Inv X pins σ H' s2 ∧ RelV x u ∧ J.yld i H x H' ∧ tn (i + 1) s2.heap ∧ ∀ b ∈ fp, H' b = none) E s1) E s
  done : ∀ (X : Cx), X.prog = P → X.w = w → X.K = K → X.calm = true → ∀ (i : Nat) (pins : List (Addr × Obj)) (s : Shared) (σ : St) (H : Hp) (E : Value → Shared → Prop), Inv X pins σ H s → (∀ b ∈ fp, FpOk X pins H b) → tn i s.heap → J.stop i H →
    wpAny (model P w) X.A (pyNext (.ref it)) (fun r s1 => r = none ∧ Inv X pins σ H s1) E s
  self : ∀ (A : Around) (i : Nat) (s : Shared) (Q : Value → Shared → Prop) (E : Value → Shared → Prop), tn i s.heap → Q (.ref it) s → wpAny (model P w) A (pyIter (.ref it)) Q E s
abbrev TI := St → Hp → (It → Hp → Prop) → Prop
def PIE (X : Cx) (pins : List (Addr × Obj)) (σ : St) (tg : Expr) (R : It → Hp → Prop) (itv : Value) (s2 : Shared) : Prop :=
  ∃ (it : Addr) (fp : List Addr) (tn : Nat → Heap → Prop) (J : It) (H' : Hp), itv = .ref it ∧ Inv X pins σ H' s2 ∧ Turn X.prog X.w X.K tg J fp it tn ∧ tn 0 s2.heap ∧ (∀ b ∈ fp, FpOk X pins H' b) ∧ R J H'
def PI (X : Cx) (tg iter : Expr) (wi : TI) : Prop :=
  ∀ (pins : List (Addr × Obj)) (s : Shared) (σ : St) (H : Hp) (R : It → Hp → Prop), Inv X pins σ H s → wi σ H R →
    wpAny (model X.prog X.w) X.A (eval iter X.env) (fun v s1 => wpAny (model X.prog X.w) X.A (pyIter v) (PIE X pins σ tg R) X.xe s1) X.xe s
theorem go_of {M : Model} {A : Around} {E : Value → Shared → Prop} {s : Shared} {tg : Expr} {it : Addr} {u : Value} {o : Obj} {n : String} {vs : Array Value} {Q : Unit → Shared → Prop} (ho : s.heap.get? it = some o) (hc : o.cls = .type n) (hd : o.data = .fields vs)
    (hn : ["enumerate", "zip", "dict_itemiterator", "dict_reverseitemiterator", "odict_iterator", "itertools.zip_longest", "itertools.pairwise"].contains n = false) (hQ : Q () s) : wpAny M A (letOwnedTupleGo tg (.ref it) u) Q E s := by
  unfold letOwnedTupleGo
  cases tg <;> first
    | exact wpAny_pure hQ
    | (cases u <;> first
        | exact wpAny_pure hQ
        | (refine wpAny_bind (wpAny_load ho ?_)
           rw [hc, hd]
           show wpAny M A (if (["enumerate", "zip", "dict_itemiterator", "dict_reverseitemiterator", "odict_iterator", "itertools.zip_longest", "itertools.pairwise"].contains n && vs[0]? == some (rawInt _)) = true then _ else _) Q E s
           rw [if_neg (by intro h; rw [hn, Bool.false_and] at h; cases h)]
           exact wpAny_pure hQ))
def Itl (K : PySem.W.Frag) (a : Addr) : It :=
  ⟨fun i H => ∃ xs x, SqL K H a xs ∧ xs[i]? = some x, fun i H x H' => H' = H ∧ ∀ xs, SqL K H a xs → xs[i]? = some x, fun i H => ∃ xs, SqL K H a xs ∧ xs.length ≤ i⟩
def Itt (K : PySem.W.Frag) (a : Addr) : It :=
  ⟨fun i H => ∃ xs x, SqT K H a xs ∧ xs[i]? = some x, fun i H x H' => H' = H ∧ ∀ xs, SqT K H a xs → xs[i]? = some x, fun i H => ∃ xs, SqT K H a xs ∧ xs.length ≤ i⟩
def Itr (lo : Int) (n : Nat) : It := ⟨fun i _ => i < n, fun i H x H' => H' = H ∧ x = .int (lo + i), fun i _ => n ≤ i⟩
theorem turn_list {P : Program} {w : World} {K : PySem.W.Frag} {tg : Expr} (a it : Addr) : Turn P w K tg (Itl K a) [it] it (fun i h => h.IsListIter it a i) where
  mem := by simp
  obj := fun i h st b hb => by
    have e : b = it := by simpa using hb
    subst e
    obtain ⟨o, e, c, d⟩ := st
    exact ⟨o, e, fun v z => by rw [d] at z; cases z⟩
  keep := fun i h h' st k => st.at fun o e => k it (by simp) o e
  item := by
    intro X hP hw hK hc i pins s σ H E I hf st hg
    subst hP hw hK
    obtain ⟨xs, x, hq, hx⟩ := hg
    obtain ⟨its, rv, p, hz⟩ := I.list hq
    obtain ⟨u, hu, ru⟩ := rv.get hx
    obtain ⟨f0, f1, f2, f3, f4, f5⟩ := hf it (by simp)
    refine wpAny_pyNext_list_item st p.isList (x := u) (by simpa using hu) fun h' st' sb => ?_
    have I1 : Inv X pins σ H { s with heap := h' } := I.turned (t' := s.toks) (fun b o hb e => (sb.2 b hb).trans e) f0 f1 f3 f4 f5
    obtain ⟨o, e, c, d⟩ := id st'
    exact ⟨u, rfl, go_of (s := { s with heap := h' }) e c d (by decide) ⟨x, H, I1, ru, ⟨rfl, fun ys hy => by rw [I.list_inj hy hq]; exact hx⟩, st', fun b hb => (hf b hb).1⟩⟩
  done := by
    intro X hP hw hK hc i pins s σ H E I hf st hg
    subst hP hw hK
    obtain ⟨xs, hq, hx⟩ := hg
    obtain ⟨its, rv, p, hz⟩ := I.list hq
    obtain ⟨f0, f1, f2, f3, f4, f5⟩ := hf it (by simp)
    have hl := rv.length
    exact wpAny_pyNext_list_end (I.ok.hd hc) st p.isList (by simp; omega) fun h' eb => ⟨rfl, I.turned (t' := s.toks) (fun b o hb e => eb b o hb e) f0 f1 f3 f4 f5⟩
  self := fun _ _ _ _ _ st h => wpAny_pyIter_listiter st h
theorem turn_tuple {P : Program} {w : World} {K : PySem.W.Frag} {tg : Expr} (a it : Addr) : Turn P w K tg (Itt K a) [it] it (fun i h => h.IsTupleIter it a i) where
  mem := by simp
  obj := fun i h st b hb => by
    have e : b = it := by simpa using hb
    subst e
    obtain ⟨o, e, c, d⟩ := st
    exact ⟨o, e, fun v z => by rw [d] at z; cases z⟩
  keep := fun i h h' st k => st.at fun o e => k it (by simp) o e
  item := by
    intro X hP hw hK hc i pins s σ H E I hf st hg
    subst hP hw hK
    obtain ⟨xs, x, hq, hx⟩ := hg
    obtain ⟨its, rv, p, hz⟩ := I.tuple hq
    obtain ⟨u, hu, ru⟩ := rv.get hx
    obtain ⟨f0, f1, f2, f3, f4, f5⟩ := hf it (by simp)
    refine wpAny_pyNext_tuple_item st (show s.heap.IsTuple a its.toArray from p) (x := u) (by simpa using hu) fun h' st' sb => ?_
    have I1 : Inv X pins σ H { s with heap := h' } := I.turned (t' := s.toks) (fun b o hb e => (sb.2 b hb).trans e) f0 f1 f3 f4 f5
    obtain ⟨o, e, c, d⟩ := id st'
    exact ⟨u, rfl, go_of (s := { s with heap := h' }) e c d (by decide) ⟨x, H, I1, ru, ⟨rfl, fun ys hy => by rw [I.tuple_inj hy hq]; exact hx⟩, st', fun b hb => (hf b hb).1⟩⟩
  done := by
    intro X hP hw hK hc i pins s σ H E I hf st hg
    subst hP hw hK
    obtain ⟨xs, hq, hx⟩ := hg
    obtain ⟨its, rv, p, hz⟩ := I.tuple hq
    obtain ⟨f0, f1, f2, f3, f4, f5⟩ := hf it (by simp)
    have hl := rv.length
    exact wpAny_pyNext_tuple_end (I.ok.hd hc) st (show s.heap.IsTuple a its.toArray from p) (by simp; omega) fun h' eb => ⟨rfl, I.turned (t' := s.toks) (fun b o hb e => eb b o hb e) f0 f1 f3 f4 f5⟩
  self := fun _ _ _ _ _ st h => wpAny_pyIter_tupleiter st h
theorem turn_range {P : Program} {w : World} {K : PySem.W.Frag} {tg : Expr} (it : Addr) (lo : Int) (n : Nat) : Turn P w K tg (Itr lo n) [it] it (fun i h => IsRangeIter h it (lo + (i : Nat) * 1) ((n : Int) - (i : Nat)) 1) where
  mem := by simp
  obj := fun i h st b hb => by
    have e : b = it := by simpa using hb
    subst e
    exact ⟨_, st, fun v z => by
      have z' : Data.fields _ = Data.cell v := z
      cases z'⟩
  keep := fun i h h' st k => k it (by simp) _ st
  item := by
    intro X hP hw hK hc i pins s σ H E I hf st hg
    subst hP hw hK
    obtain ⟨f0, f1, f2, f3, f4, f5⟩ := hf it (by simp)
    have W := Walks.range (prog := X.prog) (w := X.w) (I.ok.hd hc) it lo 1 n
    refine W.item i s _ _ hg st fun v h' tk hv st' kk => ?_
    obtain ⟨t, rfl⟩ := hv
    have I1 : Inv X pins σ H { s with heap := h', toks := tk } := I.turned (fun b o hb e => kk b o (by simpa using hb) e) f0 f1 f3 f4 f5
    refine ⟨_, rfl, go_of (s := { s with heap := h', toks := tk }) (n := "range_iterator") st' rfl rfl (by decide) ⟨.int (lo + i), H, I1, ⟨t, ?_⟩, ⟨rfl, rfl⟩, st', fun b hb => (hf b hb).1⟩⟩
    rw [Int.mul_one]
  done := by
    intro X hP hw hK hc i pins s σ H E I hf st hg
    subst hP hw hK
    obtain ⟨f0, f1, f2, f3, f4, f5⟩ := hf it (by simp)
    exact wpAny_pyNext_range_end (I.ok.hd hc) st (by have : n ≤ i := hg; omega) fun h' eb => ⟨rfl, I.turned (t' := s.toks) (fun b o hb e => eb b o hb e) f0 f1 f3 f4 f5⟩
  self := fun _ _ _ _ _ st h => wpAny_pyIter_rangeiter st h
end L2
namespace L2
open PySem PySem.Spec PyProof.Rows
section
variable {X : Cx} {tg : Expr}
def iList (K : PySem.W.Frag) (tl : TE) : TI := fun σ H R => tl σ H fun x H1 => ∃ a, x = .ref a ∧ (∃ xs, SqL K H1 a xs) ∧ R (Itl K a) H1
theorem pi_list {l : Expr} {tl : TE} (hl : PE X l tl) : PI X tg l (iList X.K tl) := by
  intro pins s σ H R I h
  refine thn (hl pins s σ H _ I h) fun v s1 ⟨x, H1, I1, r1, q1⟩ => ?_
  obtain ⟨a, e, ⟨xs, hq⟩, q⟩ := q1
  subst e
  cases r1
  obtain ⟨its, rv, p, hz⟩ := I1.list hq
  refine wpAny_pyIter_list p.isList ?_
  refine ⟨s1.heap.objs.size, [s1.heap.objs.size], _, _, H1, rfl, I1.kept (t' := s1.toks) fun b o e => Heap.get?_push_of_some _ e, turn_list a _, ⟨_, Heap.get?_push_size _ rfl, rfl, rfl⟩, fun b hb => ?_, q⟩
  have e : b = s1.heap.objs.size := by simpa using hb
  subst e
  exact I1.fpOk (Nat.le_refl _) (I1.hok.fresh (Nat.le_refl _))
theorem range_it {pins : List (Addr × Obj)} {σ : St} {H : Hp} {s : Shared} {R : It → Hp → Prop} {E : Value → Shared → Prop} {lo hi : Int} {t u v : Tok} {tk : Nat} (I : Inv X pins σ H s) (h1 : -(2 ^ 62) ≤ lo) (h2 : lo < 2 ^ 62) (h3 : -(2 ^ 62) ≤ hi) (h4 : hi < 2 ^ 62)
    (q : R (Itr lo (hi - lo).toNat) H) : wpAny (model X.prog X.w) X.A (pyIter (.ref s.heap.objs.size)) (PIE X pins σ tg R) E { s with heap := s.heap.push { cls := .type "range", data := .fields #[.int lo t, .int hi u, .int 1 v] }, toks := tk } := by
  refine wpAny_pyIter_range (IsRange.new ..) (small_one h1 h2 h3 h4) ?_
  have I1 : Inv X pins σ H { s with heap := s.heap.push { cls := .type "range", data := .fields #[.int lo t, .int hi u, .int 1 v] }, toks := tk } := I.kept fun b o e => Heap.get?_push_of_some _ e
  refine ⟨(s.heap.push { cls := .type "range", data := .fields #[.int lo t, .int hi u, .int 1 v] }).objs.size, [(s.heap.push { cls := .type "range", data := .fields #[.int lo t, .int hi u, .int 1 v] }).objs.size], _, _, H, rfl,
    I1.kept (t' := tk) fun b o e => Heap.get?_push_of_some _ e, turn_range _ lo (hi - lo).toNat, ?_, fun b hb => ?_, q⟩
  · have e1 : lo + ((0 : Nat) : Int) * 1 = lo := by simp
    have e2 : (((hi - lo).toNat : Nat) : Int) - ((0 : Nat) : Int) = Builtin.Range.rangeSize lo hi 1 := by rw [rangeSize_one]; split <;> omega
    show IsRangeIter _ _ (lo + ((0 : Nat) : Int) * 1) ((((hi - lo).toNat : Nat) : Int) - ((0 : Nat) : Int)) 1
    rw [e1, e2]
    exact Heap.get?_push_size _ rfl
  · have e : b = (s.heap.push { cls := .type "range", data := .fields #[.int lo t, .int hi u, .int 1 v] }).objs.size := by simpa using hb
    subst e
    exact I1.fpOk (Nat.le_refl _) (I1.hok.fresh (Nat.le_refl _))
def iRng1 (ta : TA) : TI := fun σ H R => ta σ H fun vs H1 => ∃ j : Int, vs = [.int j] ∧ -(2 ^ 62) ≤ j ∧ j < 2 ^ 62 ∧ R (Itr 0 j.toNat) H1
theorem pi_range1 {a : Expr} {ta : TA} {p pos : Pos} (hg : Gl X "range") (hm : X.mg "range" = none) (ha : PA X [a] ta) (hs : starEach [a] X.env = [(false, eval a X.env)] := by rfl) : PI X tg (.Call (.Name "range" p) [a] [] pos) (iRng1 ta) := by
  intro pins s σ H R I h
  refine Call_ (ld_blt I hg hm boot_range (PyProof.Rows.callWith_type1 (thn (ha pos pins s σ H _ I h) fun us s1 ⟨vs, H1, I1, r1, q1⟩ => ?_) hs rfl))
  obtain ⟨j, e, q1, q2, q⟩ := q1
  subst e
  cases r1 with
  | cons r rr =>
    cases rr
    obtain ⟨t, rfl⟩ := r
    exact call_range_1 (range_it I1 (by omega) (by omega) q1 q2 (by simpa using q))
def tFor (wi : TI) (g : TG) (tb : TS) : TS := fun D σ H => wi σ H fun J H1 => ∃ W : Nat → Nat → St → Hp → Prop, (∃ m, W 0 m σ H1) ∧ ∀ i m σ H, W i m σ H →
  (J.stop i H ∧ D.nx σ H) ∨ (J.go i H ∧ ∃ N : St → Hp → Prop, (∀ σ' H', N σ' H' → ∃ m', m' < m ∧ W (i + 1) m' σ' H') ∧ ∀ x H', J.yld i H x H' → g x σ H' fun σ2 H2 => tb { D with nx := N, ct := N, bk := D.nx } σ2 H2)
def pinsAt (fp : List Addr) (h : Heap) : List (Addr × Obj) := fp.filterMap fun b => (h.get? b).map fun o => (b, o)
theorem mem_pinsAt {fp : List Addr} {h : Heap} {b : Addr} {o : Obj} (hb : b ∈ fp) (e : h.get? b = some o) : (b, o) ∈ pinsAt fp h := List.mem_filterMap.mpr ⟨b, hb, by rw [e]; rfl⟩
theorem of_pinsAt {fp : List Addr} {h : Heap} {p : Addr × Obj} (hp : p ∈ pinsAt fp h) : p.1 ∈ fp ∧ h.get? p.1 = some p.2 := by
  obtain ⟨b, hb, e⟩ := List.mem_filterMap.mp hp
  cases q : h.get? b with
  | none => rw [q] at e; cases e
  | some o =>
    rw [q] at e
    have e' : (b, o) = p := Option.some.inj e
    subst e'
    exact ⟨hb, q⟩
theorem Inv.pinned {pins : List (Addr × Obj)} {σ : St} {H : Hp} {s : Shared} {fp : List Addr} (I : Inv X pins σ H s) (hf : ∀ b ∈ fp, FpOk X pins H b) (ho : ∀ b ∈ fp, ∃ o, s.heap.get? b = some o ∧ ∀ v, o.data ≠ .cell v) : Inv X (pins ++ pinsAt fp s.heap) σ H s :=
  I.pins_of fun p hp => (List.mem_append.mp hp).elim (fun z => I.pin p (List.mem_append_right _ z)) fun z => by
    obtain ⟨hb, e⟩ := of_pinsAt z
    obtain ⟨f0, f1, f2, _⟩ := hf p.1 hb
    obtain ⟨o, e', d⟩ := ho p.1 hb
    rw [e] at e'; cases e'
    exact ⟨e, f0, f1, f2, d⟩
theorem Inv.unpinned {pins pl : List (Addr × Obj)} {σ : St} {H : Hp} {s : Shared} (I : Inv X (pins ++ pl) σ H s) : Inv X pins σ H s := I.pins_of fun p hp => I.pin p (List.mem_append_right _ (List.mem_append_left _ hp))
theorem ps_for {iter : Expr} {body : List Stmt} {wi : TI} {g : TG} {tb : TS} {pos : Pos} (hp : PassesOwn (model X.prog X.w) X.A X.env X.xe) (hc : X.calm = true) (hi : PI X tg iter wi) (hg : PG X tg g) (hb : PSs X body tb)
    (hs : ∀ x, foldedSetIterable iter X.env x = pure x := by intro _; rfl) : PS X (.For tg iter body [] pos) (tFor wi g tb) := by
  intro pins s σ H D I h
  refine wpAny_For (thn (hi pins s σ H _ I h) fun v s1 h1 => thn h1 fun itv s2 h2 => ?_) hs
  obtain ⟨it, fp, tn, J, H2, e, I2, T, st2, f2, W, ⟨m0, w0⟩, turn⟩ := h2
  subst e
  have stat : ∀ {H' : Hp}, (∀ b ∈ fp, H' b = none) → ∀ b ∈ fp, FpOk X pins H' b := fun hn b hb => ⟨hn b hb, (f2 b hb).2⟩
  refine codeAny_forLoop_any (fun n s' => ∃ i σ' H', Inv X pins σ' H' s' ∧ tn i s'.heap ∧ (∀ b ∈ fp, H' b = none) ∧ W i n σ' H') ?_ m0 ⟨0, σ, H2, I2, st2, fun b hb => (f2 b hb).1, w0⟩
  rintro n s3 ⟨i, σ3, H3, I3, st3, fr3, w3⟩
  rcases turn i n σ3 H3 w3 with ⟨stop, qn⟩ | ⟨go, N, hN, step⟩
  · refine wpAny_passesOwn hp (thn (T.done X rfl rfl rfl hc i pins s3 σ3 H3 X.xe I3 (stat fr3) st3 stop) fun r s4 ⟨hr, I4⟩ => ?_)
    subst hr
    exact wpAny_execs_nil ⟨σ3, H3, I4, qn⟩
  · refine wpAny_passesOwn hp (thn (T.item X rfl rfl rfl hc i pins s3 σ3 H3 X.xe I3 (stat fr3) st3 go) fun r s4 ⟨u, hr, h4⟩ => ?_)
    subst hr
    refine wpAny_passesOwn hp (thn h4 fun _ s5 ⟨x, H5, I5, r5, y5, st5, fr5⟩ => ?_)
    have I5' := I5.pinned (stat fr5) (T.obj _ _ st5)
    refine wpAny_passesOwn hp (thn (hg _ s5 σ3 H5 x u _ I5' r5 (step x H5 y5)) fun _ s6 ⟨σ6, H6, I6, q6⟩ => ?_)
    refine wpAny_passesOwn hp (thn (hb _ s6 σ6 H6 _ I6 q6) fun f s7 q7 => ?_)
    have again : ∀ {σ7 : St} {H7 : Hp}, Inv X (pins ++ pinsAt fp s5.heap) σ7 H7 s7 → N σ7 H7 → ∃ m, m < n ∧ ∃ i σ' H', Inv X pins σ' H' s7 ∧ tn i s7.heap ∧ (∀ b ∈ fp, H' b = none) ∧ W i m σ' H' := fun {σ7 H7} I7 n7 => by
      obtain ⟨m', hm, w7⟩ := hN σ7 H7 n7
      refine ⟨m', hm, i + 1, σ7, H7, I7.unpinned, T.keep _ _ _ st5 fun b hb o e => (I7.pin (b, o) (List.mem_append_right _ (List.mem_append_right _ (mem_pinsAt hb e)))).1, fun b hb => ?_, w7⟩
      obtain ⟨o, e, d⟩ := T.obj _ _ st5 b hb
      exact (I7.pin (b, o) (List.mem_append_right _ (List.mem_append_right _ (mem_pinsAt hb e)))).2.1
    cases f with
    | next => obtain ⟨σ7, H7, I7, n7⟩ := q7; exact again I7 n7
    | cont => obtain ⟨σ7, H7, I7, n7⟩ := q7; exact again I7 n7
    | brk => obtain ⟨σ7, H7, I7, q7⟩ := q7; exact ⟨σ7, H7, I7.unpinned, q7⟩
    | ret v => obtain ⟨x7, σ7, H7, I7, r7, q7⟩ := q7; exact ⟨x7, σ7, H7, I7.unpinned, r7, q7⟩
end
theorem for_list {K : PySem.W.Frag} {a : Addr} {xs : List V} {g : TG} {tb : TS} {D : Ends} {σ : St} {H : Hp} (Pv : Nat → St → Hp → Prop) (h0 : Pv 0 σ H) (hl : ∀ i σ H, i ≤ xs.length → Pv i σ H → SqL K H a xs)
    (hs : ∀ i x σ H, xs[i]? = some x → Pv i σ H → g x σ H fun σ2 H2 => tb { D with nx := Pv (i + 1), ct := Pv (i + 1), bk := D.nx } σ2 H2) (hd : ∀ σ H, Pv xs.length σ H → D.nx σ H) :
    ∃ W : Nat → Nat → St → Hp → Prop, (∃ m, W 0 m σ H) ∧ ∀ i m σ H, W i m σ H →
      ((Itl K a).stop i H ∧ D.nx σ H) ∨ ((Itl K a).go i H ∧ ∃ N : St → Hp → Prop, (∀ σ' H', N σ' H' → ∃ m', m' < m ∧ W (i + 1) m' σ' H') ∧ ∀ x H', (Itl K a).yld i H x H' → g x σ H' fun σ2 H2 => tb { D with nx := N, ct := N, bk := D.nx } σ2 H2) := by
  refine ⟨fun i m σ H => m = xs.length - i ∧ i ≤ xs.length ∧ Pv i σ H, ⟨xs.length, by simp, Nat.zero_le _, h0⟩, ?_⟩
  rintro i m σ H ⟨rfl, hi, p⟩
  have q := hl i σ H hi p
  by_cases hlt : i < xs.length
  · refine .inr ⟨⟨xs, xs[i], q, by simp [hlt]⟩, Pv (i + 1), fun σ' H' p' => ⟨xs.length - (i + 1), by omega, rfl, hlt, p'⟩, fun x H' y => ?_⟩
    obtain ⟨e, y⟩ := y
    subst e
    exact hs i x σ _ (y xs q) p
  · have e : i = xs.length := by omega
    subst e
    exact .inl ⟨⟨xs, q, Nat.le_refl _⟩, hd σ H p⟩
theorem for_range {lo : Int} {n : Nat} {g : TG} {tb : TS} {D : Ends} {σ : St} {H : Hp} (Pv : Nat → St → Hp → Prop) (h0 : Pv 0 σ H)
    (hs : ∀ i σ H, i < n → Pv i σ H → g (.int (lo + i)) σ H fun σ2 H2 => tb { D with nx := Pv (i + 1), ct := Pv (i + 1), bk := D.nx } σ2 H2) (hd : ∀ σ H, Pv n σ H → D.nx σ H) :
    ∃ W : Nat → Nat → St → Hp → Prop, (∃ m, W 0 m σ H) ∧ ∀ i m σ H, W i m σ H →
      ((Itr lo n).stop i H ∧ D.nx σ H) ∨ ((Itr lo n).go i H ∧ ∃ N : St → Hp → Prop, (∀ σ' H', N σ' H' → ∃ m', m' < m ∧ W (i + 1) m' σ' H') ∧ ∀ x H', (Itr lo n).yld i H x H' → g x σ H' fun σ2 H2 => tb { D with nx := N, ct := N, bk := D.nx } σ2 H2) := by
  refine ⟨fun i m σ H => m = n - i ∧ i ≤ n ∧ Pv i σ H, ⟨n, by simp, Nat.zero_le _, h0⟩, ?_⟩
  rintro i m σ H ⟨rfl, hi, p⟩
  by_cases hlt : i < n
  · refine .inr ⟨hlt, Pv (i + 1), fun σ' H' p' => ⟨n - (i + 1), by omega, rfl, hlt, p'⟩, fun x H' y => ?_⟩
    obtain ⟨e, y⟩ := y
    subst e y
    exact hs i σ _ hlt p
  · have e : i = n := by omega
    subst e
    exact .inl ⟨Nat.le_refl _, hd σ H p⟩
theorem while_by {c : TT} {tb : TS} {D : Ends} {σ : St} {H : Hp} (Pv : St → Hp → Prop) (μ : St → Hp → Nat) (h0 : Pv σ H)
    (hs : ∀ σ H, Pv σ H → c σ H fun b H1 => if b = true then tb { D with nx := fun σ' H' => Pv σ' H' ∧ μ σ' H' < μ σ H, ct := fun σ' H' => Pv σ' H' ∧ μ σ' H' < μ σ H, bk := D.nx } σ H1 else D.nx σ H1)
    (mono : ∀ σ H Q Q', (∀ b H1, Q b H1 → Q' b H1) → c σ H Q → c σ H Q') : tWhile c tb D σ H := by
  refine ⟨fun m σ H => m = μ σ H ∧ Pv σ H, ⟨_, rfl, h0⟩, ?_⟩
  rintro m σ H ⟨rfl, p⟩
  refine mono σ H _ _ (fun b H1 q => ?_) (hs σ H p)
  cases b with
  | true => exact ⟨_, fun σ' H' ⟨p', l⟩ => ⟨_, l, rfl, p'⟩, q⟩
  | false => exact q
end L2
namespace L2
open PySem PySem.Spec PyProof.Rows
abbrev R2 := V → V → Hp → VK → Prop
def OpR (X : Cx) (f : Value → Value → Sem Value) (r : R2) : Prop :=
  ∀ (pins : List (Addr × Obj)) (s : Shared) (σ : St) (H : Hp) (x y : V) (v u : Value) (Q : VK), Inv X pins σ H s → RelV x v → RelV y u → r x y H Q →
    wpAny (model X.prog X.w) X.A (f v u) (EP X pins σ Q) X.xe s
def UnR (X : Cx) (f : Value → Sem Value) (r : V → Hp → VK → Prop) : Prop :=
  ∀ (pins : List (Addr × Obj)) (s : Shared) (σ : St) (H : Hp) (x : V) (v : Value) (Q : VK), Inv X pins σ H s → RelV x v → r x H Q →
    wpAny (model X.prog X.w) X.A (f v) (EP X pins σ Q) X.xe s
def CallR (X : Cx) (f : Value) (r : List V → Hp → VK → Prop) : Prop :=
  ∀ (pins : List (Addr × Obj)) (s : Shared) (σ : St) (H : Hp) (xs : List V) (us : List Value) (Q : VK), Inv X pins σ H s → Vals xs us → r xs H Q →
    wpAny (model X.prog X.w) X.A (call f us) (EP X pins σ Q) X.xe s
def TruR (X : Cx) (r : V → Hp → (Bool → Hp → Prop) → Prop) : Prop :=
  ∀ (pins : List (Addr × Obj)) (s : Shared) (σ : St) (H : Hp) (x : V) (v : Value) (Q : Bool → Hp → Prop), Inv X pins σ H s → RelV x v → r x H Q →
    wpAny (model X.prog X.w) X.A (truthy v) (TP X pins σ Q) X.xe s
def tOp (r : R2) (ta tb : TE) : TE := fun σ H Q => ta σ H fun x H1 => tb σ H1 fun y H2 => r x y H2 Q
def tUn (r : V → Hp → VK → Prop) (ta : TE) : TE := fun σ H Q => ta σ H fun x H1 => r x H1 Q
def rI (C : Int → Int → Prop) (g : Int → Int → V) : R2 := fun x y H Q => ∃ i j, x = .int i ∧ y = .int j ∧ C i j ∧ Q (g i j) H
def rI0 (g : Int → Int → V) : R2 := fun x y H Q => ∃ i j, x = .int i ∧ y = .int j ∧ Q (g i j) H
def rU (g : Int → V) : V → Hp → VK → Prop := fun x H Q => ∃ i, x = .int i ∧ Q (g i) H
section
variable {X : Cx} {a b c : Expr} {ta tb tc : TE} {pos : Pos}
theorem binT (ha : PE X a ta) (hb : PE X b tb) {pins : List (Addr × Obj)} {s : Shared} {σ : St} {H : Hp} {R : V → V → Hp → Prop} (I : Inv X pins σ H s)
    (h : ta σ H fun x H1 => tb σ H1 fun y H2 => R x y H2) {Q : Value → Shared → Prop} {f : Value → Value → Sem Value}
    (hf : ∀ v u s2 x y H2, Inv X pins σ H2 s2 → RelV x v → RelV y u → R x y H2 → wpAny (model X.prog X.w) X.A (f v u) Q X.xe s2) :
    wpAny (model X.prog X.w) X.A (eval a X.env) (fun v s₁ => wpAny (model X.prog X.w) X.A (eval b X.env) (fun u s₂ => wpAny (model X.prog X.w) X.A (f v u) Q X.xe s₂) X.xe s₁) X.xe s := by
  refine thn (ha pins s σ H _ I h) fun v s1 ⟨x, H1, I1, r1, q1⟩ => ?_
  refine thn (hb pins s1 σ H1 _ I1 q1) fun u s2 ⟨y, H2, I2, r2, q2⟩ => ?_
  exact hf v u s2 x y H2 I2 r1 r2 q2
theorem pe_op {op : Operator} {r : R2} (ho : OpR X (binaryOp op) r) (ha : PE X a ta) (hb : PE X b tb) : PE X (.BinOp a op b pos) (tOp r ta tb) := by
  intro pins s σ H Q I h
  exact wpAny_BinOp (binT ha hb I h fun v u s2 x y H2 I2 rx ry q => ho pins s2 σ H2 x y v u Q I2 rx ry q)
theorem pe_un {op : UnaryOp} {r : V → Hp → VK → Prop} (ho : UnR X (unaryOp op) r) (ha : PE X a ta) : PE X (.UnaryOp op a pos) (tUn r ta) := by
  intro pins s σ H Q I h
  exact UnaryOp_ (thn (ha pins s σ H _ I h) fun v s1 ⟨x, H1, I1, r1, q1⟩ => ho pins s1 σ H1 x v Q I1 r1 q1)
theorem opI {f : Value → Value → Sem Value} {C : Int → Int → Prop} {g : Int → Int → Int}
    (rule : ∀ (i j : Int) (t u : Tok) (s : Shared) (Q : Value → Shared → Prop) (E : Value → Shared → Prop), C i j → Q (.int (g i j) s.toks) { s with toks := s.toks + 1 } → wpAny (model X.prog X.w) X.A (f (.int i t) (.int j u)) Q E s) :
    OpR X f (rI C fun i j => .int (g i j)) := by
  intro pins s σ H x y v u Q I rx ry h
  obtain ⟨i, j, rfl, rfl, hc, q⟩ := h
  obtain ⟨t, rfl⟩ := rx
  obtain ⟨t', rfl⟩ := ry
  exact rule i j t t' s _ _ hc ⟨.int (g i j), H, I.tok _, ⟨_, rfl⟩, q⟩
theorem opI0 {f : Value → Value → Sem Value} {g : Int → Int → Int}
    (rule : ∀ (i j : Int) (t u : Tok) (s : Shared) (Q : Value → Shared → Prop) (E : Value → Shared → Prop), Q (.int (g i j) s.toks) { s with toks := s.toks + 1 } → wpAny (model X.prog X.w) X.A (f (.int i t) (.int j u)) Q E s) :
    OpR X f (rI0 fun i j => .int (g i j)) := by
  intro pins s σ H x y v u Q I rx ry h
  obtain ⟨i, j, rfl, rfl, q⟩ := h
  obtain ⟨t, rfl⟩ := rx
  obtain ⟨t', rfl⟩ := ry
  exact rule i j t t' s _ _ ⟨.int (g i j), H, I.tok _, ⟨_, rfl⟩, q⟩
theorem opB0 {f : Value → Value → Sem Value} {g : Int → Int → Bool}
    (rule : ∀ (i j : Int) (t u : Tok) (s : Shared) (Q : Value → Shared → Prop) (E : Value → Shared → Prop), Q (.bool (g i j)) s → wpAny (model X.prog X.w) X.A (f (.int i t) (.int j u)) Q E s) :
    OpR X f (rI0 fun i j => .bl (g i j)) := by
  intro pins s σ H x y v u Q I rx ry h
  obtain ⟨i, j, rfl, rfl, q⟩ := h
  obtain ⟨t, rfl⟩ := rx
  obtain ⟨t', rfl⟩ := ry
  exact rule i j t t' s _ _ ⟨.bl (g i j), H, I, rfl, q⟩
def CPow (i j : Int) : Prop := 0 ≤ j ∧ j ≤ 1000000 ∧ i.natAbs < 2 ^ 64
def CMul (i j : Int) : Prop := (-(2 ^ 64) < i ∧ i < 2 ^ 64) ∨ (-(2 ^ 64) < j ∧ j < 2 ^ 64)
theorem CMul.ok {i j : Int} (h : CMul i j) : IntMulOk i j := by
  rcases h with ⟨h1, h2⟩ | ⟨h1, h2⟩
  · exact .of_left (intBits_le_64 h1 h2)
  · exact .of_right (intBits_le_64 h1 h2)
theorem op_add : OpR X (binaryOp .Add) (rI0 fun i j => .int (i + j)) := opI0 fun _ _ _ _ _ _ _ q => add_int q
theorem op_sub : OpR X (binaryOp .Sub) (rI0 fun i j => .int (i - j)) := opI0 fun _ _ _ _ _ _ _ q => sub_int q
theorem op_mod : OpR X (binaryOp .Mod) (rI (fun _ j => 0 < j) fun i j => .int (i % j)) := opI fun i j _ _ _ _ _ hc q => by
  have h1 : (0 : Int) < j := hc
  exact mod_int' (by omega) (by rw [Int.fmod_eq_emod_of_nonneg i (by omega)]; exact q)
theorem op_pow : OpR X (binaryOp .Pow) (rI CPow fun i j => .int (i ^ j.toNat)) := opI fun _ _ _ _ _ _ _ hc q => pow_int_small hc.1 hc.2.1 hc.2.2 q
theorem unI {f : Value → Sem Value} {g : Int → Int}
    (rule : ∀ (i : Int) (t : Tok) (s : Shared) (Q : Value → Shared → Prop) (E : Value → Shared → Prop), Q (.int (g i) s.toks) { s with toks := s.toks + 1 } → wpAny (model X.prog X.w) X.A (f (.int i t)) Q E s) :
    UnR X f (rU fun i => .int (g i)) := by
  intro pins s σ H x v Q I rx h
  obtain ⟨i, rfl, q⟩ := h
  obtain ⟨t, rfl⟩ := rx
  exact rule i t s _ _ ⟨.int (g i), H, I.tok _, ⟨_, rfl⟩, q⟩
theorem un_neg : UnR X (unaryOp .USub) (rU fun i => .int (-i)) := unI fun _ _ _ _ _ q => neg_int q
end
def scal : V → V → Bool
  | .non, .non => true | .non, .int _ => true | .int _, .non => true | .non, .bl _ => true | .bl _, .non => true | .non, .str _ => true | .str _, .non => true
  | .int _, .int _ => true | .bl _, .bl _ => true | .str _, .str _ => true | .byt _, .byt _ => true
  | .int _, .str _ => true | .str _, .int _ => true | .bl _, .str _ => true | .str _, .bl _ => true
  | _, _ => false
def rEq : R2 := fun x y H Q => scal x y = true ∧ Q (.bl (decide (x = y))) H
def rNe : R2 := fun x y H Q => scal x y = true ∧ Q (.bl (!decide (x = y))) H
theorem dec_int {i j : Int} : decide (V.int i = V.int j) = (i == j) := by
  rw [Bool.eq_iff_iff]
  simp
theorem dec_bl {i j : Bool} : decide (V.bl i = V.bl j) = (i == j) := by
  rw [Bool.eq_iff_iff]
  simp
theorem dec_str {i j : Str} : decide (V.str i = V.str j) = (i == j) := by
  rw [Bool.eq_iff_iff]
  simp
theorem dec_byt {i j : Array UInt8} : decide (V.byt i = V.byt j) = (i.toList == j.toList) := by
  rw [Bool.eq_iff_iff]
  cases i
  cases j
  simp
section
variable {X : Cx} {a b c : Expr} {ta tb tc : TE} {pos : Pos}
theorem fin_bl {pins : List (Addr × Obj)} {σ : St} {H : Hp} {s : Shared} {Q : VK} {k k' : Bool} (I : Inv X pins σ H s) (q : Q (.bl k) H) (e : k = k') : EP X pins σ Q (.bool k') s := by
  subst e
  exact ⟨.bl k, H, I, rfl, q⟩
theorem op_eq : OpR X (compareOp .Eq) rEq := by
  intro pins s σ H x y v u Q I rx ry h
  obtain ⟨hs, q⟩ := h
  cases x with
  | non =>
    cases rx
    cases y with
    | non => cases ry; exact PySem.EqNone.eq_none_none (fin_bl I q (by simp))
    | bl j => cases ry; exact PySem.EqNone.eq_none_bool (fin_bl I q (by simp))
    | int j => obtain ⟨t', rfl⟩ := ry; exact PySem.EqNone.eq_none_int (fin_bl I q (by simp))
    | str j => obtain ⟨t', rfl⟩ := ry; exact PySem.EqNone.eq_none_str (fin_bl I q (by simp))
    | _ => exact absurd (show false = true from hs) Bool.false_ne_true
  | bl i =>
    cases rx
    cases y with
    | non => cases ry; exact PySem.EqNone.eq_bool_none (fin_bl I q (by simp))
    | bl j => cases ry; exact eq_bool (fin_bl I q dec_bl)
    | str j => obtain ⟨t', rfl⟩ := ry; exact PySem.EqMixed.eq_bool_str (fin_bl I q (by simp))
    | _ => exact absurd (show false = true from hs) Bool.false_ne_true
  | int i =>
    obtain ⟨t, rfl⟩ := rx
    cases y with
    | non => cases ry; exact PySem.EqNone.eq_int_none (fin_bl I q (by simp))
    | int j => obtain ⟨t', rfl⟩ := ry; exact eq_int (fin_bl I q dec_int)
    | str j => obtain ⟨t', rfl⟩ := ry; exact PySem.EqMixed.eq_int_str (fin_bl I q (by simp))
    | _ => exact absurd (show false = true from hs) Bool.false_ne_true
  | str i =>
    obtain ⟨t, rfl⟩ := rx
    cases y with
    | non => cases ry; exact PySem.EqNone.eq_str_none (fin_bl I q (by simp))
    | bl j => cases ry; exact PySem.EqMixed.eq_str_bool (fin_bl I q (by simp))
    | int j => obtain ⟨t', rfl⟩ := ry; exact PySem.EqMixed.eq_str_int (fin_bl I q (by simp))
    | str j => obtain ⟨t', rfl⟩ := ry; exact eq_str (fin_bl I q dec_str)
    | _ => exact absurd (show false = true from hs) Bool.false_ne_true
  | byt i =>
    obtain ⟨t, rfl⟩ := rx
    cases y with
    | byt j => obtain ⟨t', rfl⟩ := ry; exact PySem.W.eq_bytes (fin_bl I q dec_byt)
    | _ => exact absurd (show false = true from hs) Bool.false_ne_true
  | _ => cases y <;> exact absurd (show false = true from hs) Bool.false_ne_true
theorem op_ne : OpR X (compareOp .NotEq) rNe := by
  intro pins s σ H x y v u Q I rx ry h
  obtain ⟨hs, q⟩ := h
  cases x with
  | non =>
    cases rx
    cases y with
    | non => cases ry; exact PySem.EqNone.ne_none_none (fin_bl I q (by simp))
    | bl j => cases ry; exact PySem.EqNone.ne_none_bool (fin_bl I q (by simp))
    | int j => obtain ⟨t', rfl⟩ := ry; exact PySem.EqNone.ne_none_int (fin_bl I q (by simp))
    | str j => obtain ⟨t', rfl⟩ := ry; exact PySem.EqNone.ne_none_str (fin_bl I q (by simp))
    | _ => exact absurd (show false = true from hs) Bool.false_ne_true
  | bl i =>
    cases rx
    cases y with
    | non => cases ry; exact PySem.EqNone.ne_bool_none (fin_bl I q (by simp))
    | bl j => cases ry; exact ne_bool (fin_bl I q (congrArg not dec_bl))
    | str j => obtain ⟨t', rfl⟩ := ry; exact PySem.EqMixed.ne_bool_str (fin_bl I q (by simp))
    | _ => exact absurd (show false = true from hs) Bool.false_ne_true
  | int i =>
    obtain ⟨t, rfl⟩ := rx
    cases y with
    | non => cases ry; exact PySem.EqNone.ne_int_none (fin_bl I q (by simp))
    | int j => obtain ⟨t', rfl⟩ := ry; exact ne_int (fin_bl I q (congrArg not dec_int))
    | str j => obtain ⟨t', rfl⟩ := ry; exact PySem.EqMixed.ne_int_str (fin_bl I q (by simp))
    | _ => exact absurd (show false = true from hs) Bool.false_ne_true
  | str i =>
    obtain ⟨t, rfl⟩ := rx
    cases y with
    | non => cases ry; exact PySem.EqNone.ne_str_none (fin_bl I q (by simp))
    | bl j => cases ry; exact PySem.EqMixed.ne_str_bool (fin_bl I q (by simp))
    | int j => obtain ⟨t', rfl⟩ := ry; exact PySem.EqMixed.ne_str_int (fin_bl I q (by simp))
    | str j => obtain ⟨t', rfl⟩ := ry; exact ne_str (fin_bl I q (congrArg not dec_str))
    | _ => exact absurd (show false = true from hs) Bool.false_ne_true
  | byt i =>
    obtain ⟨t, rfl⟩ := rx
    cases y with
    | byt j => obtain ⟨t', rfl⟩ := ry; exact PySem.W.ne_bytes (fin_bl I q (congrArg not dec_byt))
    | _ => exact absurd (show false = true from hs) Bool.false_ne_true
  | _ => cases y <;> exact absurd (show false = true from hs) Bool.false_ne_true
theorem op_lt : OpR X (compareOp .Lt) (rI0 fun i j => .bl (decide (i < j))) := opB0 fun _ _ _ _ _ _ _ q => lt_int q
theorem op_gt : OpR X (compareOp .Gt) (rI0 fun i j => .bl (decide (j < i))) := opB0 fun _ _ _ _ _ _ _ q => gt_int q
theorem op_lt_str : OpR X (compareOp .Lt) (fun x y H Q => ∃ i j, x = .str i ∧ y = .str j ∧ Q (.bl (decide (i.cps.toList < j.cps.toList))) H) := by
  intro pins s σ H x y v u Q I rx ry h
  obtain ⟨i, j, rfl, rfl, q⟩ := h
  obtain ⟨t, rfl⟩ := rx
  obtain ⟨t', rfl⟩ := ry
  exact lt_str (fin_bl I q rfl)
theorem OpR.or {f : Value → Value → Sem Value} {r r' : R2} (h : OpR X f r) (h' : OpR X f r') : OpR X f (fun x y H Q => r x y H Q ∨ r' x y H Q) := by
  intro pins s σ H x y v u Q I rx ry q
  rcases q with q | q
  · exact h pins s σ H x y v u Q I rx ry q
  · exact h' pins s σ H x y v u Q I rx ry q
theorem nomark (b : Expr) {op : CmpOp} (h : op ≠ .In := by decide) (h2 : op ≠ .NotIn := by decide) : behindInMarks op b = false := by
  have e1 : (op == CmpOp.In) = false := by cases op <;> first | rfl | exact absurd rfl h
  have e2 : (op == CmpOp.NotIn) = false := by cases op <;> first | rfl | exact absurd rfl h2
  cases b <;> simp [behindInMarks, e1, e2]
theorem pe_cmpR {op : CmpOp} {r : R2} (ho : OpR X (compareOp op) r) (ha : PE X a ta) (hb : PE X b tb) (hm : behindInMarks op b = false) : PE X (.Compare a [op] [b] pos) (tOp r ta tb) := by
  intro pins s σ H Q I h
  exact wpAny_Compare1 (binT ha hb I h fun v u s2 x y H2 I2 rx ry q => ho pins s2 σ H2 x y v u Q I2 rx ry q) hm
def tTest (t : TE) : TT := fun σ H Q => t σ H fun x H' => ∃ k, x = .bl k ∧ Q k H'
theorem pt_cmpR {op : CmpOp} {r : R2} (ho : OpR X (compareOp op) r) (ha : PE X a ta) (hb : PE X b tb) (hm : behindInMarks op b = false) : PT X (.Compare a [op] [b] pos) (tTest (tOp r ta tb)) := by
  intro pins s σ H Q I h
  refine wpAny_isTrue_Compare1 (thn (ha pins s σ H _ I h) fun v s1 ⟨x, H1, I1, r1, q1⟩ => thn (hb pins s1 σ H1 _ I1 q1) fun u s2 ⟨y, H2, I2, r2, q2⟩ =>
    thn (ho pins s2 σ H2 x y v u _ I2 r1 r2 q2) fun c s3 ⟨z, H3, I3, r3, k, e, q3⟩ => ?_) hm
  subst e
  cases r3
  exact wpAny_truthy_bool ⟨H3, I3, q3⟩
def TruV (K : PySem.W.Frag) (x : V) (H : Hp) (k : Bool) : Prop :=
  match x with
  | .non => k = false
  | .bl b => k = b
  | .int i => k = (i != 0)
  | .str y => y.length ≤ sizeLine ∧ k = ((y.length : Int) != 0)
  | .byt y => y.size ≤ sizeLine ∧ k = ((y.size : Int) != 0)
  | .ref p => (∃ xs, SqL K H p xs ∧ k = !xs.isEmpty) ∨ (∃ xs, SqT K H p xs ∧ k = !xs.isEmpty) ∨ ∃ kvs, H p = some (.dK kvs) ∧ k = !kvs.isEmpty
  | _ => False
theorem isEmpty_kv {κ : Type} {kvs : List (κ × V)} {vs : List (κ × Value)} (r : KV kvs vs) : (!vs.isEmpty) = !kvs.isEmpty := by
  cases r <;> rfl
theorem isEmpty_of {xs : List V} {its : List Value} (r : Vals xs its) : (!its.toArray.isEmpty) = !xs.isEmpty := by
  cases r <;> simp
theorem line63 : (sizeLine : Nat) < 2 ^ 63 := by rw [sizeLine_eq]; decide
theorem tru_ok : TruR X (fun x H Q => ∃ k, TruV X.K x H k ∧ Q k H) := by
  intro pins s σ H x v Q I rx h
  obtain ⟨k, e, q⟩ := h
  have hl := line63
  have hs : sizeLine = 16777216 := sizeLine_eq
  cases x with
  | non =>
    cases rx
    have e' : k = false := e
    subst e'
    exact truthy_none ⟨H, I, q⟩
  | bl b =>
    cases rx
    have e' : k = b := e
    subst e'
    exact wpAny_truthy_bool ⟨H, I, q⟩
  | int i =>
    obtain ⟨t, rfl⟩ := rx
    have e' : k = (i != 0) := e
    subst e'
    exact PySem.P.truthy_int ⟨H, I, q⟩
  | str y =>
    obtain ⟨t, rfl⟩ := rx
    obtain ⟨hy, e'⟩ : y.length ≤ sizeLine ∧ k = ((y.length : Int) != 0) := e
    subst e'
    exact PySem.P.truthy_str (by omega) ⟨H, I.tok _, q⟩
  | byt y =>
    obtain ⟨t, rfl⟩ := rx
    obtain ⟨hy, e'⟩ : y.size ≤ sizeLine ∧ k = ((y.size : Int) != 0) := e
    subst e'
    exact PySem.W.truthy_bytes (by omega) ⟨H, I.tok _, q⟩
  | ref p =>
    cases rx
    have e' : (∃ xs, SqL X.K H p xs ∧ k = !xs.isEmpty) ∨ (∃ xs, SqT X.K H p xs ∧ k = !xs.isEmpty) ∨ ∃ kvs, H p = some (.dK kvs) ∧ k = !kvs.isEmpty := e
    rcases e' with ⟨xs, hx, e'⟩ | ⟨xs, hx, e'⟩ | ⟨kvs, hx, e'⟩
    · subst e'
      obtain ⟨its, r, pl, hz⟩ := I.list hx
      have hlen := r.length
      exact wpAny_truthy_list pl.isList (by simp only [List.size_toArray]; omega) ⟨H, I.tok _, by rw [isEmpty_of r]; exact q⟩
    · subst e'
      obtain ⟨its, r, pl, hz⟩ := I.tuple hx
      have hlen := r.length
      exact truthy_tuple pl (by simp only [List.size_toArray]; omega) ⟨H, I.tok _, by rw [isEmpty_of r]; exact q⟩
    · subst e'
      obtain ⟨hz, hS, vs, r, m⟩ : kvs.length ≤ sizeLine ∧ (p == sysModules) = false ∧ ∃ vs, KV kvs vs ∧ s.heap.DictOf (mixKind X.prog X.w) p vs := I.hok p _ hx
      have hlen : kvs.length = vs.length := Paired.length r
      exact wpAny_truthy_dict hS m (by omega) ⟨H, I.tok _, by rw [isEmpty_kv r]; exact q⟩
  | _ => exact (show False from e).elim
theorem op_add_str : OpR X (binaryOp .Add) (fun x y H Q => ∃ i j, x = .str i ∧ y = .str j ∧ i.length + j.length ≤ sizeLine ∧ Q (.str (i ++ j)) H) := by
  intro pins s σ H x y v u Q I rx ry h
  obtain ⟨i, j, rfl, rfl, hz, q⟩ := h
  obtain ⟨t, rfl⟩ := rx
  obtain ⟨t', rfl⟩ := ry
  exact add_str (fun t' tk => ⟨.str (i ++ j), H, I.tok _, ⟨_, rfl⟩, q⟩) hz
theorem iop_add_str : OpR X (inplaceOp .Add) (fun x y H Q => ∃ i j, x = .str i ∧ y = .str j ∧ i.length + j.length ≤ sizeLine ∧ Q (.str (i ++ j)) H) := by
  intro pins s σ H x y v u Q I rx ry h
  obtain ⟨i, j, rfl, rfl, hz, q⟩ := h
  obtain ⟨t, rfl⟩ := rx
  obtain ⟨t', rfl⟩ := ry
  exact iadd_str (fun t' tk => ⟨.str (i ++ j), H, I.tok _, ⟨_, rfl⟩, q⟩) hz
theorem vals1 {x : V} {us : List Value} (r : Vals [x] us) : ∃ u, us = [u] ∧ RelV x u := by
  cases r with
  | cons r1 r2 => cases r2; exact ⟨_, rfl, r1⟩
theorem vals2 {x y : V} {us : List Value} (r : Vals [x, y] us) : ∃ u w', us = [u, w'] ∧ RelV x u ∧ RelV y w' := by
  cases r with
  | cons r1 r2 =>
    cases r2 with
    | cons r3 r4 => cases r4; exact ⟨_, _, rfl, r1, r3⟩
theorem call_abs : CallR X (.builtin "abs") (fun xs H Q => ∃ i, xs = [.int i] ∧ Q (.int (if i < 0 then -i else i)) H) := by
  intro pins s σ H xs us Q I r h
  obtain ⟨i, rfl, q⟩ := h
  obtain ⟨u, rfl, t, rfl⟩ := vals1 r
  exact call_abs_int fun u tk => ⟨.int (if i < 0 then -i else i), H, I.tok _, ⟨_, rfl⟩, q⟩
theorem call_max2 (hc : X.calm = true) : CallR X (.builtin "max") (fun xs H Q => ∃ i j, xs = [.int i, .int j] ∧ Q (.int (if j > i then j else i)) H) := by
  intro pins s σ H xs us Q I r h
  obtain ⟨i, j, rfl, q⟩ := h
  obtain ⟨u, w', rfl, ⟨t, rfl⟩, ⟨t', rfl⟩⟩ := vals2 r
  refine max_two_ints (I.ok.hd hc) fun h' tk k => ⟨_, H, I.kept k, ?_, q⟩
  by_cases hj : j > i
  · rw [if_pos hj, if_pos hj]; exact ⟨_, rfl⟩
  · rw [if_neg hj, if_neg hj]; exact ⟨_, rfl⟩
def LenV (K : PySem.W.Frag) (x : V) (H : Hp) (n : Nat) : Prop :=
  match x with
  | .str y => y.length ≤ sizeLine ∧ n = y.length
  | .byt y => y.size ≤ sizeLine ∧ n = y.size
  | .ref p => (∃ xs, SqL K H p xs ∧ n = xs.length) ∨ ∃ xs, SqT K H p xs ∧ n = xs.length
  | _ => False
theorem call_len : CallR X (.builtin "len") (fun xs H Q => ∃ x n, xs = [x] ∧ LenV X.K x H n ∧ Q (.int n) H) := by
  intro pins s σ H xs us Q I r h
  obtain ⟨x, n, rfl, e, q⟩ := h
  obtain ⟨u, rfl, rx⟩ := vals1 r
  have hl := line63
  have hs : sizeLine = 16777216 := sizeLine_eq
  cases x with
  | str y =>
    obtain ⟨t, rfl⟩ := rx
    obtain ⟨hy, e'⟩ : y.length ≤ sizeLine ∧ n = y.length := e
    subst e'
    exact len_str (by omega) ⟨.int _, H, I.tok _, ⟨_, rfl⟩, q⟩
  | byt y =>
    obtain ⟨t, rfl⟩ := rx
    obtain ⟨hy, e'⟩ : y.size ≤ sizeLine ∧ n = y.size := e
    subst e'
    exact PySem.W.len_bytes (by omega) ⟨.int _, H, I.tok _, ⟨_, rfl⟩, q⟩
  | ref p =>
    cases rx
    have e' : (∃ xs, SqL X.K H p xs ∧ n = xs.length) ∨ ∃ xs, SqT X.K H p xs ∧ n = xs.length := e
    rcases e' with ⟨xs, hx, e'⟩ | ⟨xs, hx, e'⟩
    · subst e'
      obtain ⟨its, r', pl, hz⟩ := I.list hx
      have hlen := r'.length
      exact Calls.call_len_list pl.isList (by simp only [List.size_toArray]; omega) ⟨.int xs.length, H, I.tok _, ⟨_, by simp only [List.size_toArray]; rw [hlen]⟩, q⟩
    · subst e'
      obtain ⟨its, r', pl, hz⟩ := I.tuple hx
      have hlen := r'.length
      exact len_tuple pl (by simp only [List.size_toArray]; omega) ⟨.int xs.length, H, I.tok _, ⟨_, by simp only [List.size_toArray]; rw [hlen]⟩, q⟩
  | _ => exact (show False from e).elim
end
end L2
namespace L2
open PySem PySem.Spec PyProof.Rows
structure ObjM (h : Heap) (x dx C : Addr) (mA : Str → Option Value) : Prop where
  obj : h.get? x = some (PySem.W.instObj C dx)
  ns : h.Ns1 dx mA
  ne : dx ≠ x
theorem lookIn_ns {h : Heap} {dx : Addr} {mA : Str → Option Value} (n : h.Ns1 dx mA) : ∃ od, h.get? dx = some od ∧ ∀ name, PySem.W.lookIn name od = some (mA name) := by
  obtain ⟨o, es, ep, ho, hd, hk, _, hm⟩ := n
  refine ⟨o, ho, fun name => ?_⟩
  have e := hm name
  unfold nsFind findBy at e
  rw [← Array.find?_toList] at e
  unfold PySem.W.lookIn
  rw [hd]
  dsimp only
  split
  · rename_i y q
    rw [q] at e
    exact congrArg some e
  · rename_i q
    rw [q] at e
    have a : es.toList.any (·.refKey) = false := by
      rw [List.any_eq_false]
      intro y hy
      obtain ⟨z, t, hkey⟩ := hk y (Array.mem_toList_iff.mp hy)
      simp [DictEntry.refKey, hkey]
    have a' : ¬ es.toList.any (·.refKey) = true := by rw [a]; exact Bool.false_ne_true
    rw [if_neg a']
    exact congrArg some e
theorem ObjM.look {h : Heap} {x dx C : Addr} {mA : Str → Option Value} (I : ObjM h x dx C mA) : ∃ od, PySem.W.InstAt h x (PySem.W.instObj C dx) C (some od) ∧ ∀ name, PySem.W.lookIn name od = some (mA name) :=
  let ⟨od, ho, hl⟩ := lookIn_ns I.ns
  ⟨od, ⟨I.obj, rfl, rfl, ho⟩, hl⟩
section
variable {prog : Program} {w : World} {A : Around} {E : Value → Shared → Prop} {s : Shared} {K : PySem.W.Frag} {x dx C f : Addr} {mA : Str → Option Value} {name : Str} {v : Value}
theorem get_map {expr : Bool} {Q : Value → Shared → Prop} (X : K.In s.heap) (I : ObjM s.heap x dx C mA) (hg : PySem.W.plainGet K C name = true) (hh : PySem.W.hasDictIn K C = true)
    (ha : PySem.W.findIn K (.ref C) name = some none) (hv : mA name = some v) (hv' : PySem.W.handedIn v = true) (h : Q v { s with toks := s.toks + 1 }) :
    wpAny (model prog w) A (getAttr (.ref x) name expr) Q E s := by
  obtain ⟨od, J, hl⟩ := I.look
  exact PySem.W.get_value X J (PySem.W.plainGet_of hg).1 (PySem.W.findObj_own hh ha rfl (by rw [hl, hv])) hv' h
theorem get_meth {pl : Sem Bool} {Q : Value × List Value → Shared → Prop} (X : K.In s.heap) (I : ObjM s.heap x dx C mA) (hg : PySem.W.plainGet K C name = true)
    (hf : PySem.W.findIn K (.ref C) name = some (some (.ref f))) (ht : PySem.W.isFn K (.ref f) = true) (hv : mA name = none) (h : Q (.ref f, [.ref x]) s) :
    wpAny (model prog w) A (getMethod (.ref x) name pl) Q E s := by
  obtain ⟨od, J, hl⟩ := I.look
  exact PySem.W.method_fn X J (PySem.W.plainGet_of hg).1 (PySem.W.plainGet_of hg).2 hf (beq_iff_eq.mp ht) (by show (PySem.W.lookIn name od).map (·.isSome) = some false; rw [hl, hv]; rfl) h
theorem set_map {ns : List Str} {Q : Unit → Shared → Prop} (X : K.In s.heap) (I : ObjM s.heap x dx C mA)
    (hs : PySem.W.findIn K (.ref C) "__setattr__" = some (some (.builtin "object.__setattr__"))) (hp : PySem.W.plainOver K C = true) (ht : PySem.W.takerIn K C name = some none) (hh : PySem.W.hasDictIn K C = true)
    (hw : PySem.Within mA ns) (hsz : ns.length ≤ sizeLine)
    (h : ∀ h', ObjM h' x dx C (fun y => if y = name then some v else mA y) → Heap.SameBut dx s.heap h' → Q () { s with heap := h', toks := s.toks + 2 }) :
    wpAny (model prog w) A (setAttr (.ref x) name v) Q E s := by
  obtain ⟨od, J, hl⟩ := I.look
  refine PySem.W.set_plain X J hs (PySem.W.osa_open (s := { s with toks := s.toks + 1 }) (r := none) X J hp ht fun b => ?_)
  obtain ⟨cd, hc, hd'⟩ := PySem.W.any_some hh
  have hx : s.heap.get? x = some ⟨.ref C, some dx, .plain, #[]⟩ := I.obj
  refine wpAny_bind (wpAny_pure (wpAny_bind (wpAny_bind (wpAny_loadPart hx (wpAny_bind (PySem.W.Looks.here (s := { s with toks := s.toks + 1 }) (PySem.W.looks_clsIn X hc) ?_))))))
  rw [hd']
  refine wpAny_pure (a := some dx) (wpAny_bind (wpAny_pure (wpAny_bind ?_)))
  refine wpAny_nsSet1 (s := { s with toks := s.toks + 1 }) I.ns fun h' hn2 hs2 => ?_
  obtain ⟨oD, esD, epD, hoD, hdD, hcD⟩ := hn2.count (PySem.Within.cons name v hw)
  refine wpAny_bind (wpAny_lookBehind hoD (by rw [hdD]; exact pastItsLine_dict (Nat.le_trans hcD (by rw [List.length_cons]; omega))) ?_)
  exact wpAny_pure (h _ ⟨(hs2.2 _ (Ne.symm I.ne)).trans I.obj, hn2, I.ne⟩ hs2)
theorem make_map {R : Result → Shared → Prop} {vs : List Value} {kw : List (Str × Value)} (X : K.In s.heap) (hm : PySem.W.makesIn K C = true)
    (hi : PySem.W.findIn K (.ref C) "__init__" = some (some (.ref f))) (hf : PySem.W.typeIn K (.ref f) = some (.type "function"))
    (h : codeAny (model prog w) (A.under (.builtin "type.__call__" ⟨.ref C :: vs, kw⟩)) (.call (.ref f) ⟨.ref (s.heap.objs.size + 1) :: vs, kw⟩) (PySem.W.InitBack (s.heap.objs.size + 1) R)
      { s with heap := (s.heap.push PySem.W.emptyDict).push (PySem.W.instObj C s.heap.objs.size) }) :
    codeAny (model prog w) A (.call (.ref C) ⟨vs, kw⟩) R s := by
  obtain ⟨hh, g, d, t, os⟩ := s
  exact PySem.W.make_core (PySem.W.makes_of X hm) (PySem.W.looks_findIn X hi) (fun self => PySem.W.bind_fn X self hf) (.inl rfl) h
end
def putF (f : Str) (v : V) : List (Str × V) → List (Str × V)
  | [] => [(f, v)]
  | (g, x) :: r => if g = f then (g, v) :: r else (g, x) :: putF f v r
theorem lookup_putF (f g : Str) (v : V) : ∀ fs : List (Str × V), (putF f v fs).lookup g = if g = f then some v else fs.lookup g
  | [] => by
    show List.lookup g [(f, v)] = _
    by_cases h : g = f
    · have hb : (g == f) = true := beq_iff_eq.mpr h
      simp only [List.lookup, hb, if_pos h]
    · have hb : (g == f) = false := beq_eq_false_iff_ne.mpr h
      simp only [List.lookup, hb, if_neg h]
  | (k, x) :: r => by
    have ih := lookup_putF f g v r
    rw [show putF f v ((k, x) :: r) = (if k = f then (k, v) :: r else (k, x) :: putF f v r) from rfl]
    by_cases hk : k = f
    · rw [if_pos hk]
      by_cases h : g = k
      · have hb : (g == k) = true := beq_iff_eq.mpr h
        simp only [List.lookup, hb, if_pos (h.trans hk)]
      · have hb : (g == k) = false := beq_eq_false_iff_ne.mpr h
        simp only [List.lookup, hb, if_neg (fun e : g = f => h (e.trans hk.symm))]
    · rw [if_neg hk]
      by_cases h : g = k
      · have hb : (g == k) = true := beq_iff_eq.mpr h
        simp only [List.lookup, hb, if_neg (fun e : g = f => hk (h.symm.trans e))]
      · have hb : (g == k) = false := beq_eq_false_iff_ne.mpr h
        simp only [List.lookup, hb]
        exact ih
theorem keys_putF (f : Str) (v : V) : ∀ fs : List (Str × V), f ∈ (putF f v fs).map (·.1) ∧ ∀ g, g ∈ fs.map (·.1) → g ∈ (putF f v fs).map (·.1)
  | [] => ⟨by simp [putF], fun g h => by simp at h⟩
  | (k, x) :: r => by
    obtain ⟨i1, i2⟩ := keys_putF f v r
    rw [show putF f v ((k, x) :: r) = (if k = f then (k, v) :: r else (k, x) :: putF f v r) from rfl]
    by_cases hk : k = f
    · rw [if_pos hk]
      subst hk
      exact ⟨by simp, fun g h => by simpa using h⟩
    · rw [if_neg hk]
      refine ⟨?_, fun g h => ?_⟩
      · rw [List.map_cons]
        exact List.mem_cons_of_mem _ i1
      · rw [List.map_cons] at h ⊢
        rcases List.mem_cons.mp h with e | e
        · exact List.mem_cons.mpr (.inl e)
        · exact List.mem_cons_of_mem _ (i2 g e)
theorem length_putF (f : Str) (v : V) : ∀ fs : List (Str × V), (putF f v fs).length ≤ fs.length + 1
  | [] => by simp [putF]
  | (k, x) :: r => by
    have ih := length_putF f v r
    rw [show putF f v ((k, x) :: r) = (if k = f then (k, v) :: r else (k, x) :: putF f v r) from rfl]
    by_cases hk : k = f
    · rw [if_pos hk, List.length_cons, List.length_cons]; omega
    · rw [if_neg hk, List.length_cons, List.length_cons]; omega
theorem RelO.some_of {v : V} {o : Option Value} (r : RelO (some v) o) : ∃ u, o = some u ∧ RelV v u := by
  cases o with
  | none => exact (show False from r).elim
  | some u => exact ⟨u, rfl, r⟩
theorem RelO.none_of {o : Option Value} (r : RelO none o) : o = none := by
  cases o with
  | none => rfl
  | some u => exact (show False from r).elim
theorem handed_of {v : V} {u : Value} (r : RelV v u) : PySem.W.handedIn u = true := by
  cases v with
  | non => cases (show u = Value.none from r); rfl
  | bl b => cases (show u = Value.bool b from r); rfl
  | int i => obtain ⟨t, e⟩ := (show ∃ t, u = Value.int i t from r); cases e; rfl
  | str x => obtain ⟨t, e⟩ := (show ∃ t, u = Value.str x t from r); cases e; rfl
  | byt b => obtain ⟨t, e⟩ := (show ∃ t, u = Value.bytes b t from r); cases e; rfl
  | flt b => obtain ⟨t, e⟩ := (show ∃ t, u = Value.float b t from r); cases e; rfl
  | ref a => cases (show u = Value.ref a from r); rfl
  | ty n => cases (show u = Value.type n from r); rfl
section
variable {P : Program} {w : World} {H H' : Hp} {h h' : Heap} {a C dx : Addr} {fs fs' : List (Str × V)}
theorem ins_get (hok : HOk P w H h) (e : H a = some (.ins C dx fs)) : ∃ mA, ObjM h a dx C mA ∧ (∀ f, RelO (fs.lookup f) (mA f)) ∧ PySem.Within mA (fs.map (·.1)) ∧ fs.length ≤ 1000 ∧ H dx = some (.own a) := by
  obtain ⟨d, z, ne, ob, mA, n, r, q⟩ := (show ObjOk P w H h a (.ins C dx fs) from hok a _ e)
  exact ⟨mA, ⟨ob, n, ne⟩, r, q, z, d⟩
end
structure Cls (K : PySem.W.Frag) (C : Addr) : Prop where
  pg : PySem.W.plainGet K C Str.empty = true
  hd : PySem.W.hasDictIn K C = true
  po : PySem.W.plainOver K C = true
  sa : PySem.W.findIn K (.ref C) "__setattr__" = some (some (.builtin "object.__setattr__"))
theorem Cls.get {K : PySem.W.Frag} {C : Addr} (c : Cls K C) (f : Str) : PySem.W.plainGet K C f = true := c.pg
def NoAttr (K : PySem.W.Frag) (C : Addr) (f : Str) : Prop := PySem.W.findIn K (.ref C) f = some none
theorem NoAttr.taker {K : PySem.W.Frag} {C : Addr} {f : Str} (n : NoAttr K C f) : PySem.W.takerIn K C f = some none := by
  unfold PySem.W.takerIn
  rw [show PySem.W.findIn K (.ref C) f = some none from n]
  rfl
structure Con (K : PySem.W.Frag) (C : Addr) (f : Str) (v : V) (u : Value) : Prop where
  at_ : PySem.W.findIn K (.ref C) f = some (some u)
  rel : RelV v u
  get : PySem.W.specialIn K u "__get__" = some none
  cp : PySem.W.copiedNames.contains f = false
structure Meth (K : PySem.W.Frag) (C : Addr) (m : Str) (f : Addr) : Prop where
  at_ : PySem.W.findIn K (.ref C) m = some (some (.ref f))
  fn : PySem.W.isFn K (.ref f) = true
  kp : PySem.W.keepIn K (.ref f) = true
section
variable {X : Cx} {pins : List (Addr × Obj)} {σ : St} {H : Hp} {s : Shared} {a C dx : Addr} {fs : List (Str × V)} {f : Str} {v : V} {A : Around} {E : Value → Shared → Prop}
theorem getattr_ok {b : Bool} {Q : Value → Shared → Prop} (I : Inv X pins σ H s) (e : H a = some (.ins C dx fs)) (c : Cls X.K C) (n : NoAttr X.K C f) (l : fs.lookup f = some v)
    (h : ∀ u s', Inv X pins σ H s' → RelV v u → Q u s') : wpAny (model X.prog X.w) A (getAttr (.ref a) f b) Q E s := by
  obtain ⟨mA, O, r, _, _, _⟩ := ins_get I.hok e
  obtain ⟨u, hu, ru⟩ := RelO.some_of (v := v) (o := mA f) (by rw [← l]; exact r f)
  exact get_map I.kIn O (c.get f) c.hd n hu (handed_of ru) (h u _ (I.tok _) ru)
theorem getmeth_ok {m : Str} {g : Addr} {pl : Sem Bool} {Q : Value × List Value → Shared → Prop} (I : Inv X pins σ H s) (e : H a = some (.ins C dx fs)) (c : Cls X.K C) (k : Meth X.K C m g) (l : fs.lookup m = none)
    (h : Q (.ref g, [.ref a]) s) : wpAny (model X.prog X.w) A (getMethod (.ref a) m pl) Q E s := by
  obtain ⟨mA, O, r, _, _, _⟩ := ins_get I.hok e
  have hn : mA m = none := RelO.none_of (by rw [← l]; exact r m)
  exact get_meth I.kIn O (c.get m) k.at_ k.fn hn h
theorem setattr_ok {y : V} {u : Value} {Q : Unit → Shared → Prop} (I : Inv X pins σ H s) (e : H a = some (.ins C dx fs)) (c : Cls X.K C) (n : NoAttr X.K C f) (hl : fs.length < 1000) (ry : RelV y u)
    (h : ∀ s', Inv X pins σ (upd H a (.ins C dx (putF f y fs))) s' → Q () s') : wpAny (model X.prog X.w) A (setAttr (.ref a) f u) Q E s := by
  obtain ⟨mA, O, r, wi, _, ho⟩ := ins_get I.hok e
  have hz : (fs.map (·.1)).length ≤ sizeLine := by rw [List.length_map, sizeLine_eq]; omega
  refine set_map I.kIn O c.sa c.po n.taker c.hd wi hz fun h' O' sb => h _ ?_
  have hd : ∃ o, h'.get? dx = some o := let ⟨o, _, _, e', _⟩ := O'.ns; ⟨o, e'⟩
  refine I.write (x := a) (e := dx) (by rw [e]; exact True.intro) (.inr ho) (fun b q hb z => (sb.2 b hb).trans z) hd ?_
  refine ⟨by rw [upd_ne O.ne]; exact ho, ?_, O.ne, O'.obj, _, O'.ns, fun g => ?_, fun g hg => ?_⟩
  · have := length_putF f y fs; omega
  · show RelO ((putF f y fs).lookup g) (if g = f then some u else mA g)
    rw [lookup_putF]
    by_cases q : g = f
    · rw [if_pos q, if_pos q]; exact ry
    · rw [if_neg q, if_neg q]; exact r g
  · by_cases q : g = f
    · rw [q]; exact (keys_putF f y fs).1
    · refine (keys_putF f y fs).2 g (wi g fun z => hg ?_)
      show (if g = f then some u else mA g) = none
      rw [if_neg q]; exact z
theorem Inv.made (I : Inv X pins σ H s) : Inv X pins σ (upd (upd H s.heap.objs.size (.own (s.heap.objs.size + 1))) (s.heap.objs.size + 1) (.ins C s.heap.objs.size []))
    { s with heap := (s.heap.push PySem.W.emptyDict).push (PySem.W.instObj C s.heap.objs.size) } := by
  have e1 : (s.heap.push PySem.W.emptyDict).get? s.heap.objs.size = some PySem.W.emptyDict := Heap.get?_push_size s.heap rfl
  have e2 : ((s.heap.push PySem.W.emptyDict).push (PySem.W.instObj C s.heap.objs.size)).get? (s.heap.objs.size + 1) = some (PySem.W.instObj C s.heap.objs.size) := by
    have := Heap.get?_push_size (s.heap.push PySem.W.emptyDict) (o := PySem.W.instObj C s.heap.objs.size) rfl
    rwa [Heap.size_push] at this
  have e3 : (s.heap.push PySem.W.emptyDict).Ns s.heap.objs.size (fun _ => none) := ⟨PySem.W.emptyDict, #[], _, e1, rfl, (fun e he => absurd he (by simp)), fun _ => rfl⟩
  have I1 := I.laid (a := s.heap.objs.size) (o := .own (s.heap.objs.size + 1)) (h' := s.heap.push PySem.W.emptyDict) (t' := s.toks) (fun b u q => Heap.get?_push_of_some _ q) (Nat.le_refl _) ⟨_, e1⟩
  refine I1.laid (a := s.heap.objs.size + 1) (o := .ins C s.heap.objs.size []) (t' := s.toks) (fun b u q => Heap.get?_push_of_some _ q) (Nat.le_of_eq (Heap.size_push _ _)) ?_
  have ne : s.heap.objs.size ≠ s.heap.objs.size + 1 := Nat.ne_of_lt (Nat.lt_succ_self _)
  refine ⟨by rw [upd_ne ne, upd_same], Nat.zero_le _, ne, e2, fun _ => none, (Heap.Ns1.of_empty e3).at fun o q => Heap.get?_push_of_some _ q, fun _ => True.intro, fun y hy => absurd rfl hy⟩
theorem attr_of {prog : Program} {w : World} {env : Env} {e : Expr} {f : Str} {pos : Pos} {s : Shared} {Q : Value → Shared → Prop} (hb : attributeBase e f env (eval e env) = eval e env)
    (h : wpAny (model prog w) A (eval e env) (fun o s₁ => wpAny (model prog w) A (getAttr o f true) Q E s₁) E s) : wpAny (model prog w) A (eval (.Attribute e f pos) env) Q E s :=
  Attribute_any_ h (by rw [arm_eval_Attribute, hb])
end
def tFld (K : PySem.W.Frag) (ta : TE) (f : Str) : TE := fun σ H Q => ta σ H fun x H1 => ∃ a C dx fs v, x = .ref a ∧ H1 a = some (.ins C dx fs) ∧ Cls K C ∧ NoAttr K C f ∧ fs.lookup f = some v ∧ Q v H1
def sFld (K : PySem.W.Frag) (ta tv : TE) (f : Str) : TS := fun D σ H => tv σ H fun y H1 => ta σ H1 fun x H2 => ∃ a C dx fs, x = .ref a ∧ H2 a = some (.ins C dx fs) ∧ Cls K C ∧ NoAttr K C f ∧ fs.length < 1000 ∧
  D.nx σ (upd H2 a (.ins C dx (putF f y fs)))
def InOp (X : Cx) (op : Operator) (rd : V → V → Hp → VK → Prop) : Prop :=
  ∀ (pins : List (Addr × Obj)) (s : Shared) (σ : St) (H : Hp) (x y : V) (u v : Value) (Q : VK), Inv X pins σ H s → RelV x u → RelV y v → rd x y H Q → wpAny (model X.prog X.w) X.A (inplaceOp op u v) (EP X pins σ Q) X.xe s
def sFldAug (K : PySem.W.Frag) (ta tv : TE) (rd : V → V → Hp → VK → Prop) (f : Str) : TS := fun D σ H => ta σ H fun x H1 => ∃ a C dx fs v, x = .ref a ∧ H1 a = some (.ins C dx fs) ∧ Cls K C ∧ NoAttr K C f ∧ fs.lookup f = some v ∧
  tv σ H1 fun y H2 => rd v y H2 fun z H3 => ∃ dx' fs', H3 a = some (.ins C dx' fs') ∧ fs'.length < 1000 ∧ D.nx σ (upd H3 a (.ins C dx' (putF f z fs')))
section
variable {X : Cx} {o e value : Expr} {f : Str} {pos pos' tpos : Pos} {ta tv : TE}
theorem pe_fld (he : PE X e ta) (hb : attributeBase e f X.env (eval e X.env) = eval e X.env) : PE X (.Attribute e f pos) (tFld X.K ta f) := by
  intro pins s σ H Q I h
  refine attr_of hb (thn (he pins s σ H _ I h) fun u s1 ⟨x, H1, I1, rx, a, C, dx, fs, v, ex, ea, c, n, l, q⟩ => ?_)
  subst ex
  obtain rfl : u = Value.ref a := rx
  exact getattr_ok I1 ea c n l fun u' s2 I2 ru => ⟨v, H1, I2, ru, q⟩
theorem ps_fld (ha : PE X o ta) (hv : PE X value tv) (hs : swapsWith value (some (.Attribute o f pos')) pos.line X.env = pure false) : PS X (.Assign [.Attribute o f pos'] value pos) (sFld X.K ta tv f) := by
  intro pins s σ H D I h
  refine plainObj_wpAny_Assign_Attribute (thn (hv pins s σ H _ I h) fun u s1 ⟨y, H1, I1, ry, q⟩ => thn (ha pins s1 σ H1 _ I1 q) fun ov s2 ⟨x, H2, I2, rx, a, C, dx, fs, ex, ea, c, n, l, q2⟩ => ?_) hs
  subst ex
  obtain rfl : ov = Value.ref a := rx
  exact setattr_ok I2 ea c n l ry fun s3 I3 => ⟨σ, _, I3, q2⟩
theorem ps_fldaug {op : Operator} {rd : V → V → Hp → VK → Prop} (ha : PE X o ta) (hv : PE X value tv) (hop : InOp X op rd) : PS X (.AugAssign (.Attribute o f tpos) op value pos) (sFldAug X.K ta tv rd f) := by
  intro pins s σ H D I h
  refine wpAny_AugAssign_AttributeAny (thn (ha pins s σ H _ I h) fun ov s1 ⟨x, H1, I1, rx, a, C, dx, fs, v, ex, ea, c, n, l, q⟩ => ?_)
  subst ex
  obtain rfl : ov = Value.ref a := rx
  refine getattr_ok I1 ea c n l fun u s2 I2 ru => thn (hv pins s2 σ H1 _ I2 q) fun w3 s3 ⟨y, H2, I3, ry, q3⟩ => thn (hop pins s3 σ H2 v y u w3 _ I3 ru ry q3) fun w4 s4 ⟨z, H3, I4, rz, dx', fs', ea', l', q4⟩ => ?_
  exact setattr_ok I4 ea' c n l' rz fun s5 I5 => ⟨σ, _, I5, q4⟩
theorem methcall_of {pl : Sem Bool} {m : Str} {apos : Pos} {args : List Expr} {pins : List (Addr × Obj)} {s : Shared} {σ : St} {H : Hp} {Q : Value → Shared → Prop} {te : TE} (he : PE X e te) (I : Inv X pins σ H s)
    (h : te σ H fun x H1 => ∃ a C dx fs g, x = .ref a ∧ H1 a = some (.ins C dx fs) ∧ Cls X.K C ∧ Meth X.K C m g ∧ fs.lookup m = none ∧
      ∀ s1, Inv X pins σ H1 s1 → wpAny (model X.prog X.w) X.A (callWith pos (.ref g) [.ref a] (backTo pos (starEach args X.env)) (backToKw pos (keywordEach [] X.env))) Q X.xe s1)
    (ht : eval (.Call (.Attribute e m apos) args [] pos) X.env = (do
      let ov ← eval e X.env
      standAt apos.atName
      let (f, first) ← holding [ov] (getMethod ov m pl)
      callWith pos f first (backTo pos (starEach args X.env)) (backToKw pos (keywordEach [] X.env)))) :
    wpAny (model X.prog X.w) X.A (eval (.Call (.Attribute e m apos) args [] pos) X.env) Q X.xe s := by
  refine PySem.W.methodCall_KW (pl := pl) (thn (he pins s σ H _ I h) fun u s1 ⟨x, H1, I1, rx, a, C, dx, fs, g, ex, ea, c, k, l, q⟩ => ?_) ht
  subst ex
  obtain rfl : u = Value.ref a := rx
  exact getmeth_ok I1 ea c k l (q s1 I1)
end
section
variable {X : Cx} {pins : List (Addr × Obj)} {σ : St} {H : Hp} {s : Shared} {A : Around} {E : Value → Shared → Prop} {Q : Value → Shared → Prop} {c : Value} {b : Bool}
inductive TyOf (K : PySem.W.Frag) (H : Hp) : V → Value → Prop where
  | non : TyOf K H .non (.type "NoneType")
  | bl (x : Bool) : TyOf K H (.bl x) (.type "bool")
  | int (i : Int) : TyOf K H (.int i) (.type "int")
  | str (x : Str) : TyOf K H (.str x) (.type "str")
  | flt (x : UInt64) : TyOf K H (.flt x) (.type "float")
  | lst {a : Addr} {xs : List V} (e : H a = some (.lst xs)) : TyOf K H (.ref a) (.type "list")
  | frz {a : Addr} {o : Obj} {xs : List V} (e : H a = some (.frz o (.lst xs))) : TyOf K H (.ref a) (.type "list")
  | tup {a : Addr} {xs : List V} (e : H a = some (.tup xs)) : TyOf K H (.ref a) (.type "tuple")
  | dK {a : Addr} {kvs : List (Key × V)} (e : H a = some (.dK kvs)) : TyOf K H (.ref a) (.type "dict")
  | dT {a : Addr} {kvs : List (List Key × V)} (e : H a = some (.dT kvs)) : TyOf K H (.ref a) (.type "dict")
  | ins {a C dx : Addr} {fs : List (Str × V)} (e : H a = some (.ins C dx fs)) (cl : Cls K C) (ha : PySem.W.findIn K (.ref C) "__class__" = some (some (.builtin "object.__class__")))
      (hn : PySem.W.specialIn K (.builtin "object.__class__") "__get__" = some (some (.builtin "getset_descriptor.__get__"))) (htk : PySem.W.takesIn K (.builtin "object.__class__") = some true)
      (hm : PySem.W.mroIn K C (.type "object") = some true) : TyOf K H (.ref a) (.ref C)
theorem isinst_ok {x : V} {u t : Value} (I : Inv X pins σ H s) (rx : RelV x u) (ty : TyOf X.K H x t) (e : PySem.W.kitOne X.K t c = some b) (h : ∀ tk, Q (.bool b) { s with toks := tk }) :
    wpAny (model X.prog X.w) A (call (.builtin "isinstance") [u, c]) Q E s := by
  cases ty with
  | non => cases (show u = Value.none from rx); exact PySem.W.kia_one PySem.W.kitx_none I.kIn True.intro e (fun z => nomatch z) h
  | bl y => cases (show u = Value.bool y from rx); exact PySem.W.kia_one PySem.W.kitx_bool I.kIn True.intro e (fun z => nomatch z) h
  | int i => obtain ⟨t, q⟩ := (show ∃ t, u = Value.int i t from rx); cases q; exact PySem.W.kia_one PySem.W.kitx_int I.kIn True.intro e (fun z => nomatch z) h
  | str y => obtain ⟨t, q⟩ := (show ∃ t, u = Value.str y t from rx); cases q; exact PySem.W.kia_one PySem.W.kitx_str I.kIn True.intro e (fun z => nomatch z) h
  | flt y => obtain ⟨t, q⟩ := (show ∃ t, u = Value.float y t from rx); cases q; exact PySem.W.kia_one PySem.W.kitx_float I.kIn True.intro e (fun z => nomatch z) h
  | @lst a xs ea =>
    cases (show u = Value.ref a from rx)
    obtain ⟨_, _, n, _, h1⟩ := (show ObjOk X.prog X.w H s.heap a (.lst xs) from I.hok a _ ea)
    exact PySem.W.kia_one PySem.W.kitx_list I.kIn ⟨_, h1, rfl⟩ e (fun z => nomatch z) h
  | @frz a ob xs ea =>
    cases (show u = Value.ref a from rx)
    obtain ⟨_, _, _, n, _, h1⟩ := (show ObjOk X.prog X.w H s.heap a (.frz ob (.lst xs)) from I.hok a _ ea)
    exact PySem.W.kia_one PySem.W.kitx_list I.kIn ⟨_, h1, rfl⟩ e (fun z => nomatch z) h
  | @tup a xs ea =>
    cases (show u = Value.ref a from rx)
    obtain ⟨_, _, _, p⟩ := (show ObjOk X.prog X.w H s.heap a (.tup xs) from I.hok a _ ea)
    obtain ⟨o, h1, h2, _⟩ := p
    exact PySem.W.kia_one PySem.W.kitx_tuple I.kIn ⟨o, h1, h2⟩ e (fun z => nomatch z) h
  | @dK a kvs ea =>
    cases (show u = Value.ref a from rx)
    obtain ⟨_, _, vs, _, p⟩ := (show ObjOk X.prog X.w H s.heap a (.dK kvs) from I.hok a _ ea)
    obtain ⟨o, es, ep, h1, h2, _⟩ := p
    exact PySem.W.kia_one PySem.W.kitx_dict I.kIn ⟨o, h1, h2.1⟩ e (fun z => nomatch z) h
  | @dT a kvs ea =>
    cases (show u = Value.ref a from rx)
    obtain ⟨_, _, xs, _, o, es, ep, h1, h2, _⟩ := (show ObjOk X.prog X.w H s.heap a (.dT kvs) from I.hok a _ ea)
    exact PySem.W.kia_one PySem.W.kitx_dict I.kIn ⟨o, h1, h2.1⟩ e (fun z => nomatch z) h
  | @ins a C dx fs ea cl ha hn htk hm =>
    cases (show u = Value.ref a from rx)
    obtain ⟨mA, O, _⟩ := ins_get I.hok ea
    obtain ⟨od, J, _⟩ := O.look
    exact PySem.W.kia_one (PySem.W.kitx_own (cl.get _) cl.hd ha hn htk hm) I.kIn J e (fun z => nomatch z) h
end
end L2
namespace L2
open PySem PySem.Spec PyProof.Rows
structure Room (k : Nat) (A : Around) : Prop where
  hd : A.handled = none
  dp : A.depth + 3 * k + 5 < recursionLimit
  un : A.units + 16 * k + 200 < cLine
theorem Room.mono {j k : Nat} {A : Around} (r : Room k A) (h : j ≤ k) : Room j A := ⟨r.hd, by have := r.dp; omega, by have := r.un; omega⟩
theorem Room.deeper {k : Nat} {A : Around} (r : Room (k + 1) A) (env : Env) : Room k (A.deeper env) :=
  ⟨r.hd, by have := r.dp; show A.depth + 1 + 3 * k + 5 < _; omega, by have := r.un; show A.units + 3 + 16 * k + 200 < _; omega⟩
theorem Room.in1 {k : Nat} {A : Around} (r : Room (k + 1) A) : Room k A.in1 :=
  ⟨r.hd, by have := r.dp; show A.depth + 3 * k + 5 < _; omega, by have := r.un; show A.units + 1 + 16 * k + 200 < _; omega⟩
theorem make_depth {A : Around} {C : Addr} {us : List Value} {kw : List (Str × Value)} : (A.under (.builtin "type.__call__" ⟨.ref C :: us, kw⟩)).depth = A.depth + 1 := by
  first | rfl | simp [Around.under, Code.weight, Code.isCreation, Code.isGuard, Code.isCaller, Code.frames, Code.isFrame, guardIds]
theorem make_units {A : Around} {C : Addr} {us : List Value} {kw : List (Str × Value)} : (A.under (.builtin "type.__call__" ⟨.ref C :: us, kw⟩)).units = A.units + 1 := by
  first | rfl | simp [Around.under, Code.cUnits, Code.frames, Code.isFrame]
theorem Room.make {k : Nat} {A : Around} (r : Room (k + 1) A) (C : Addr) (us : List Value) (kw : List (Str × Value)) : Room k (A.under (.builtin "type.__call__" ⟨.ref C :: us, kw⟩)) :=
  ⟨r.hd, by have := r.dp; rw [make_depth]; omega, by have := r.un; rw [make_units]; omega⟩
theorem Room.depth {k : Nat} {A : Around} (r : Room k A) : A.depth < recursionLimit := by have := r.dp; omega
theorem Room.units {k : Nat} {A : Around} (r : Room k A) : A.units + 64 < cLine := by have := r.un; omega
theorem Room.units0 {k : Nat} {A : Around} (r : Room k A) : A.units < cLine := by have := r.un; omega
def tNil : TA := fun _ H Q => Q [] H
def tCons (ta : TE) (tr : TA) : TA := fun σ H Q => ta σ H fun x H1 => tr σ H1 fun xs H2 => Q (x :: xs) H2
section
variable {X : Cx} {e : Expr} {es : List Expr} {te : TE} {t : TA} {pos : Pos}
theorem pa_nil : PA X [] tNil := fun _ _ _ _ H Q I h => Calls.spliced_nil ⟨[], H, I, .nil, h⟩
theorem pa_cons (ha : PE X e te) (hr : PA X es t) (hs : starEach (e :: es) X.env = (false, eval e X.env) :: starEach es X.env := by rfl) : PA X (e :: es) (tCons te t) := by
  intro pos pins s σ H Q I h
  rw [hs]
  show wpAny _ _ (spliced ((false, eval e X.env) :: backTo pos (starEach es X.env))) _ _ s
  refine Calls.spliced_cons (thn (ha pins s σ H _ I h) fun u s1 ⟨x, H1, I1, r1, q1⟩ => ?_)
  exact thn (hr pos pins s1 σ H1 _ I1 q1) fun us s2 ⟨xs, H2, I2, r2, q2⟩ => ⟨x :: xs, H2, I2, .cons r1 r2, q2⟩
def tTup (t : TA) : TE := fun σ H Q => t σ H fun xs H1 => xs.length ≤ sizeLine ∧ ∀ p, H1 p = none → Q (.ref p) (upd H1 p (.tup xs))
def tLst (t : TA) : TE := fun σ H Q => t σ H fun xs H1 => xs.length ≤ sizeLine ∧ ∀ p, H1 p = none → Q (.ref p) (upd H1 p (.lst xs))
theorem pe_tup {x1} (h : PA X es t) : PE X (.Tuple es x1 pos) (tTup t) := by
  intro pins s σ H Q I hq
  refine wpAny_Tuple_spliced (thn (h pos pins s σ H _ I hq) fun us s1 ⟨xs, H1, I1, r, z, q⟩ => ⟨by rw [← r.length]; exact z, ?_⟩)
  have hf : H1 s1.heap.objs.size = none := I1.hok.fresh (Nat.le_refl _)
  refine ⟨.ref s1.heap.objs.size, upd H1 s1.heap.objs.size (.tup xs), I1.laid (t' := s1.toks) (fun b u e => Heap.get?_push_of_some _ e) (Nat.le_refl _) ?_, rfl, q _ hf⟩
  exact ⟨z, us, r, ⟨_, Heap.get?_push_size _ rfl, rfl, _, rfl⟩⟩
theorem pe_lst (h : PA X es t) : PE X (.List es pos) (tLst t) := by
  intro pins s σ H Q I hq
  refine wpAny_List_spliced (thn (h pos pins s σ H _ I hq) fun us s1 ⟨xs, H1, I1, r, z, q⟩ => ⟨by rw [← r.length]; exact z, ?_⟩)
  have hf : H1 s1.heap.objs.size = none := I1.hok.fresh (Nat.le_refl _)
  refine ⟨.ref s1.heap.objs.size, upd H1 s1.heap.objs.size (.lst xs), I1.laid (t' := s1.toks) (fun b u e => Heap.get?_push_of_some _ e) (Nat.le_refl _) ?_, rfl, q _ hf⟩
  exact ⟨z, us, 0, r, Heap.get?_push_size _ rfl⟩
end
abbrev Sp := List V → Hp → VK → XK → Prop
abbrev CXT := List Env → Hp → Shared → XK → Value → Shared → Prop
structure Env0 (P : Program) (w : World) (K : PySem.W.Frag) (mg : Str → Option Value) (base : Heap) (A : Around) (outer : List Env) (s : Shared) (H : Hp) : Prop where
  frames : A.frames = some outer
  mod : Mod K mg base
  bs : ∀ b o, base.get? b = some o → s.heap.get? b = some o ∧ H b = none
  bsz : base.objs.size ≤ s.heap.objs.size
  funs : s.heap.FunFrames base outer
  frf : ∀ b ∈ frs outer, H b = none
  hok : HOk P w H s.heap
  bare : AllBare s.gens
def CE (outer : List Env) (P : Program) (w : World) (H : Hp) (s : Shared) (Q : VK) (u : Value) (s' : Shared) : Prop :=
  ∃ v H', s'.os = s.os ∧ AllBare s'.gens ∧ Un (frs outer) [] H H' s.heap s'.heap ∧ HOk P w H' s'.heap ∧ RelV v u ∧ Q v H'
def CR (CX : CXT) (outer : List Env) (P : Program) (w : World) (H : Hp) (s : Shared) (Q : VK) (E : XK) (r : Result) (s' : Shared) : Prop :=
  match r with
  | .ok (.ret u) => CE outer P w H s Q u s'
  | .ok _ => False
  | .error e => CX outer H s E e s'
structure FnOk (P : Program) (w : World) (K : PySem.W.Frag) (mg : Str → Option Value) (base : Heap) (CX : CXT) (k : Nat) (f : Addr) (fd : FuncData) (ps : List Str) (sp : Sp) : Prop where
  len : ∀ vs H Q E, sp vs H Q E → vs.length = ps.length
  run : ∀ (A : Around) (outer : List Env) (s : Shared) (H : Hp) (args : Args) (us : List Value) (vs : List V) (Q : VK) (E : XK), Room k A → Env0 P w K mg base A outer s H → BindsTo s fd args (ps.zip us) → Vals vs us → sp vs H Q E →
    codeAny (model P w) A (.call (.ref f) args) (CR CX outer P w H s Q E) s
theorem FnOk.mono {P : Program} {w : World} {K : PySem.W.Frag} {mg : Str → Option Value} {base : Heap} {CX : CXT} {j k : Nat} {f : Addr} {fd : FuncData} {ps : List Str} {sp : Sp} (F : FnOk P w K mg base CX j f fd ps sp) (h : j ≤ k) :
    FnOk P w K mg base CX k f fd ps sp := ⟨F.len, fun A outer s H args us vs Q E hr => F.run A outer s H args us vs Q E (hr.mono h)⟩
theorem FnOk.imp {P : Program} {w : World} {K : PySem.W.Frag} {mg : Str → Option Value} {base : Heap} {CX : CXT} {k : Nat} {f : Addr} {fd : FuncData} {ps : List Str} {sp sp' : Sp} (F : FnOk P w K mg base CX k f fd ps sp)
    (h : ∀ vs H Q E, sp' vs H Q E → sp vs H Q E) : FnOk P w K mg base CX k f fd ps sp' :=
  ⟨fun vs H Q E q => F.len vs H Q E (h _ _ _ _ q), fun A outer s H args us vs Q E hr he hb hv hs => F.run A outer s H args us vs Q E hr he hb hv (h _ _ _ _ hs)⟩
theorem Env0.make {P : Program} {w : World} {K : PySem.W.Frag} {mg : Str → Option Value} {base : Heap} {A : Around} {outer : List Env} {s : Shared} {H : Hp} (e : Env0 P w K mg base A outer s H) (C : Addr) (us : List Value) (kw : List (Str × Value)) :
    Env0 P w K mg base (A.under (.builtin "type.__call__" ⟨.ref C :: us, kw⟩)) outer s H := ⟨by first | exact e.frames | (simpa [Around.under, Code.envs, Code.isFrame, pushEnvs] using e.frames), e.mod, e.bs, e.bsz, e.funs, e.frf, e.hok, e.bare⟩
theorem Env0.in1 {P : Program} {w : World} {K : PySem.W.Frag} {mg : Str → Option Value} {base : Heap} {A : Around} {outer : List Env} {s : Shared} {H : Hp} (e : Env0 P w K mg base A outer s H) :
    Env0 P w K mg base A.in1 outer s H := ⟨e.frames, e.mod, e.bs, e.bsz, e.funs, e.frf, e.hok, e.bare⟩
section
variable {X : Cx} {pins : List (Addr × Obj)} {σ : St} {H : Hp} {s s' : Shared}
theorem Inv.env0 (I : Inv X pins σ H s) : Env0 X.prog X.w X.K X.mg X.base X.A X.stack s H :=
  ⟨I.ok.frames, I.ok.mod, I.bs, Nat.le_trans I.ok.bsz I.sz, I.stack, I.stkFree, I.hok, I.bare⟩
theorem Inv.after {Q : VK} {u : Value} (I : Inv X pins σ H s) (h : CE X.stack X.prog X.w H s Q u s') : EP X pins σ Q u s' := by
  obtain ⟨v, H', os, bare, un, hok, r, q⟩ := h
  obtain ⟨hh, g, d, t, os'⟩ := s'
  obtain rfl : os' = s.os := os
  exact ⟨v, H', I.call (h' := hh) (g' := g) (d' := d) (t' := t) (ch := []) un hok bare (fun b z => absurd z (by simp)), r, q⟩
end
def tCall (sp : Sp) (dvs : List V) (E : XK) (t : TA) : TE := fun σ H Q => t σ H fun vs H1 => sp (vs ++ dvs) H1 Q E
def tMeth (C : Addr) (m : Str) (sp : Sp) (dvs : List V) (E : XK) (ta : TE) (t : TA) : TE := fun σ H Q => ta σ H fun x H1 => ∃ a dx fs, x = .ref a ∧ H1 a = some (.ins C dx fs) ∧ fs.lookup m = none ∧
  t σ H1 fun vs H2 => sp (x :: (vs ++ dvs)) H2 Q E
def tMake (C : Addr) (sp : Sp) (dvs : List V) (E : XK) (t : TA) : TE := fun σ H Q => t σ H fun vs H1 => ∀ x dx, H1 x = none → H1 dx = none → dx ≠ x →
  sp (.ref x :: (vs ++ dvs)) (upd (upd H1 dx (.own x)) x (.ins C dx [])) (fun v H2 => v = .non ∧ Q (.ref x) H2) E
def Binds (K : PySem.W.Frag) (fd : FuncData) (ps : List Str) (ds : List Value) : Prop :=
  ∀ (s : Shared) (us : List Value), K.In s.heap → (us ++ ds).length = ps.length → BindsTo s fd ⟨us, []⟩ (ps.zip (us ++ ds))
theorem Binds.all {K : PySem.W.Frag} {fd : FuncData} {ps : List Str} (h : ∀ us : List Value, us.length = ps.length → bindArgs fd ⟨us, []⟩ = pure (ps.zip us)) : Binds K fd ps [] := fun s us _ hl => by
  rw [List.append_nil] at hl ⊢
  exact .of_eq (h us hl)
def Passes (CX : CXT) (X : Cx) (E : XK) : Prop := ∀ (pins : List (Addr × Obj)) (σ : St) (H : Hp) (s : Shared) (e : Value) (s' : Shared), Inv X pins σ H s → CX X.stack H s E e s' → X.xe e s'
section
variable {X : Cx} {CX : CXT} {k : Nat} {f C : Addr} {fd : FuncData} {ps : List Str} {sp : Sp} {dvs : List V} {ds : List Value} {E : XK} {x m : Str} {p pos apos : Pos} {e o : Expr} {es : List Expr} {ta : TE} {t : TA}
theorem run_fn {pins : List (Addr × Obj)} {σ : St} {H : Hp} {s : Shared} {Q : VK} {us : List Value} {vs : List V} (F : FnOk X.prog X.w X.K X.mg X.base CX k f fd ps sp) (hr : Room k X.A) (hb : Binds X.K fd ps ds) (hd : Vals dvs ds) (hx : Passes CX X E)
    (I : Inv X pins σ H s) (r : Vals vs us) (h : sp (vs ++ dvs) H Q E) : wpAny (model X.prog X.w) X.A (call (.ref f) us) (EP X pins σ Q) X.xe s := by
  have r2 : Vals (vs ++ dvs) (us ++ ds) := r.append hd
  have hl : (us ++ ds).length = ps.length := by rw [← r2.length]; exact F.len _ _ _ _ h
  refine wpAny_call (codeAny_mono (F.run X.A X.stack s H ⟨us, []⟩ (us ++ ds) (vs ++ dvs) Q E hr I.env0 (hb s us I.kIn hl) r2 h) fun r s' hq => ?_)
  cases r with
  | error e => exact hx pins σ H s e s' I hq
  | ok fl =>
    cases fl with
    | ret u => exact I.after hq
    | next => exact False.elim hq
    | brk => exact False.elim hq
    | cont => exact False.elim hq
theorem pe_call (F : FnOk X.prog X.w X.K X.mg X.base CX k f fd ps sp) (hr : Room k X.A) (hg : Gl X x) (hm : X.mg x = some (.ref f)) (hk : PySem.W.keepIn X.K (.ref f) = true) (hb : Binds X.K fd ps ds) (hd : Vals dvs ds) (hx : Passes CX X E)
    (ha : PA X (e :: es) t) (hdb : (x == ("__debug__" : Str)) = false := by decide) (he : starEach (e :: es) X.env = (false, eval e X.env) :: starEach es X.env := by rfl) (hpl : (backTo pos (starEach es X.env)).any (·.1) = false := by rfl) :
    PE X (.Call (.Name x p) (e :: es) [] pos) (tCall sp dvs E t) := by
  intro pins s σ H Q I h
  refine wpAny_Call_Name_kw (ld_glob I hg hm ?_ hdb)
  refine PySem.W.callWith_K (h₀ := X.base) I.ok.mod.kin hk (thn (ha pos pins s σ H _ I h) fun us s1 ⟨vs, H1, I1, r, q⟩ => ⟨I1.kIn, ?_⟩) he hpl
  exact run_fn F hr hb hd hx I1 r q
theorem pe_meth {pl : Sem Bool} (he : PE X o ta) (c : Cls X.K C) (hm : Meth X.K C m f) (F : FnOk X.prog X.w X.K X.mg X.base CX k f fd ps sp) (hr : Room k X.A) (hb : Binds X.K fd ps ds) (hd : Vals dvs ds) (hx : Passes CX X E) (ha : PA X (e :: es) t)
    (hst : starEach (e :: es) X.env = (false, eval e X.env) :: starEach es X.env := by rfl) (hpl : (backTo pos (starEach es X.env)).any (·.1) = false := by rfl)
    (ht : eval (.Call (.Attribute o m apos) (e :: es) [] pos) X.env = (do
      let ov ← eval o X.env
      standAt apos.atName
      let (f, first) ← holding [ov] (getMethod ov m pl)
      callWith pos f first (backTo pos (starEach (e :: es) X.env)) (backToKw pos (keywordEach [] X.env))) := by rfl) :
    PE X (.Call (.Attribute o m apos) (e :: es) [] pos) (tMeth C m sp dvs E ta t) := by
  intro pins s σ H Q I h
  refine PySem.W.methodCall_KW (pl := pl) (thn (he pins s σ H _ I h) fun u s1 ⟨x, H1, I1, rx, a, dx, fs, ex, ea, l, q⟩ => ?_) ht
  subst ex
  obtain rfl : u = Value.ref a := rx
  refine getmeth_ok I1 ea c hm l ?_
  refine PySem.W.callWith_K (first := [.ref a]) (h₀ := X.base) I.ok.mod.kin hm.kp (thn (ha pos pins s1 σ H1 _ I1 q) fun us s2 ⟨vs, H2, I2, r, q2⟩ => ⟨I2.kIn, ?_⟩) hst hpl
  exact run_fn (us := .ref a :: us) (vs := .ref a :: vs) F hr hb hd hx I2 (.cons rfl r) q2
theorem pe_meth0 {pl : Sem Bool} (he : PE X o ta) (c : Cls X.K C) (hm : Meth X.K C m f) (F : FnOk X.prog X.w X.K X.mg X.base CX k f fd ps sp) (hr : Room k X.A) (hb : Binds X.K fd ps ds) (hd : Vals dvs ds) (hx : Passes CX X E)
    (ht : eval (.Call (.Attribute o m apos) [] [] pos) X.env = (do
      let ov ← eval o X.env
      standAt apos.atName
      let (f, first) ← holding [ov] (getMethod ov m pl)
      callWith pos f first (backTo pos (starEach [] X.env)) (backToKw pos (keywordEach [] X.env))) := by rfl) :
    PE X (.Call (.Attribute o m apos) [] [] pos) (tMeth C m sp dvs E ta tNil) := by
  intro pins s σ H Q I h
  refine PySem.W.methodCall_KW (pl := pl) (thn (he pins s σ H _ I h) fun u s1 ⟨x, H1, I1, rx, a, dx, fs, ex, ea, l, q⟩ => ?_) ht
  subst ex
  obtain rfl : u = Value.ref a := rx
  refine getmeth_ok I1 ea c hm l ?_
  exact PySem.W.callWith_K0 (first := [.ref a]) I1.kIn hm.kp (run_fn (us := [.ref a]) (vs := [.ref a]) F hr hb hd hx I1 (.cons rfl .nil) q)
structure Mk (K : PySem.W.Frag) (C f : Addr) : Prop where
  makes : PySem.W.makesIn K C = true
  init : PySem.W.findIn K (.ref C) "__init__" = some (some (.ref f))
  fn : PySem.W.isFn K (.ref f) = true
  kp : PySem.W.keepIn K (.ref C) = true
theorem run_make {pins : List (Addr × Obj)} {σ : St} {H : Hp} {s : Shared} {Q : VK} {us : List Value} {vs : List V} (M : Mk X.K C f) (F : FnOk X.prog X.w X.K X.mg X.base CX k f fd ps sp) (hr : Room (k + 1) X.A) (hb : Binds X.K fd ps ds) (hd : Vals dvs ds)
    (hx : Passes CX X E) (I : Inv X pins σ H s) (r : Vals vs us)
    (h : ∀ x dx, H x = none → H dx = none → dx ≠ x → sp (.ref x :: (vs ++ dvs)) (upd (upd H dx (.own x)) x (.ins C dx [])) (fun v H2 => v = .non ∧ Q (.ref x) H2) E) :
    wpAny (model X.prog X.w) X.A (call (.ref C) us) (EP X pins σ Q) X.xe s := by
  have hq := h (s.heap.objs.size + 1) s.heap.objs.size (I.hok.fresh (Nat.le_succ _)) (I.hok.fresh (Nat.le_refl _)) (Nat.ne_of_lt (Nat.lt_succ_self _))
  have I2 := Inv.made (C := C) I
  have r2 : Vals (V.ref (s.heap.objs.size + 1) :: (vs ++ dvs)) (Value.ref (s.heap.objs.size + 1) :: (us ++ ds)) := .cons rfl (r.append hd)
  have hl : (Value.ref (s.heap.objs.size + 1) :: us ++ ds).length = ps.length := by
    have e := r2.length
    rw [F.len _ _ _ _ hq] at e
    exact e.symm
  refine wpAny_call (make_map (f := f) I.kIn M.makes M.init (beq_iff_eq.mp M.fn) (codeAny_mono (F.run _ X.stack _ _ ⟨Value.ref (s.heap.objs.size + 1) :: us, []⟩ (Value.ref (s.heap.objs.size + 1) :: (us ++ ds)) _ _ E (hr.make C us [])
    (I2.env0.make C us []) (hb _ (Value.ref (s.heap.objs.size + 1) :: us) I2.kIn hl) r2 hq) fun r s' hq' => ?_))
  cases r with
  | error e => exact hx pins σ _ _ e s' I2 hq'
  | ok fl =>
    cases fl with
    | ret u =>
      obtain ⟨v, H', I3, rv, ev, q3⟩ := I2.after hq'
      subst ev
      exact ⟨rv, ⟨V.ref (s.heap.objs.size + 1), H', I3, rfl, q3⟩⟩
    | next => exact False.elim hq'
    | brk => exact False.elim hq'
    | cont => exact False.elim hq'
theorem pe_make (M : Mk X.K C f) (F : FnOk X.prog X.w X.K X.mg X.base CX k f fd ps sp) (hr : Room (k + 1) X.A) (hg : Gl X x) (hm : X.mg x = some (.ref C)) (hb : Binds X.K fd ps ds) (hd : Vals dvs ds) (hx : Passes CX X E)
    (ha : PA X (e :: es) t) (hdb : (x == ("__debug__" : Str)) = false := by decide) (he : starEach (e :: es) X.env = (false, eval e X.env) :: starEach es X.env := by rfl) (hpl : (backTo pos (starEach es X.env)).any (·.1) = false := by rfl) :
    PE X (.Call (.Name x p) (e :: es) [] pos) (tMake C sp dvs E t) := by
  intro pins s σ H Q I h
  refine wpAny_Call_Name_kw (ld_glob I hg hm ?_ hdb)
  refine PySem.W.callWith_K (h₀ := X.base) I.ok.mod.kin M.kp (thn (ha pos pins s σ H _ I h) fun us s1 ⟨vs, H1, I1, r, q⟩ => ⟨I1.kIn, ?_⟩) he hpl
  exact run_make M F hr hb hd hx I1 r q
end
section
variable {X : Cx} {CX : CXT} {k : Nat} {f C : Addr} {fd : FuncData} {ps ks : List Str} {sp : Sp} {E : XK} {x m : Str} {p pos apos kpos : Pos} {e o : Expr} {es : List Expr} {kws : List Keyword} {te ta : TE} {t tk : TA} {nm : Option Str}
structure KBinds (K : PySem.W.Frag) (fd : FuncData) (ps ks : List Str) (g : List Value → List Value → List Value) (gV : List V → List V → List V) : Prop where
  to : ∀ (s : Shared) (us ws : List Value), K.In s.heap → (g us ws).length = ps.length → BindsTo s fd ⟨us, ks.zip ws⟩ (ps.zip (g us ws))
  rel : ∀ {vs : List V} {us : List Value} {zs : List V} {ws : List Value}, Vals vs us → Vals zs ws → Vals (gV vs zs) (g us ws)
variable {g : List Value → List Value → List Value} {gV : List V → List V → List V}
end
structure FnScope (N P : List Str) (sc : Scope) : Prop where
  kind : sc.kind = .function
  co : sc.isCoroutine = false
  gen : sc.isGenerator = false
  nd : N.Nodup
  pre : N.take P.length = P
  par : ∀ x ∈ P, sc.names.lookup x = some .local ∨ sc.names.lookup x = some .cell
  nofree : ∀ y ∈ sc.names, y.2 ≠ .free
theorem bindL_out {kindOf : Str → Option NameKind} {x : Str} : ∀ {binds : List (Str × Value)} {m : Str → Option Value}, (∀ v, (x, v) ∉ binds) → bindL kindOf binds m x = m x
  | [], _, _ => rfl
  | (n, v) :: r, m, h => by
    unfold bindL
    rw [bindL_out fun w hw => h w (List.mem_cons_of_mem _ hw)]
    split
    · have : x ≠ n := by rintro rfl; exact h v List.mem_cons_self
      simp [this]
    · rfl
theorem bindC_out {kindOf : Str → Option NameKind} {x : Str} : ∀ {binds : List (Str × Value)} {m : Str → Option Value}, (∀ v, (x, v) ∉ binds) → bindC kindOf binds m x = m x
  | [], _, _ => rfl
  | (n, v) :: r, m, h => by
    unfold bindC
    rw [bindC_out fun w hw => h w (List.mem_cons_of_mem _ hw)]
    split
    · rfl
    · have : x ≠ n := by rintro rfl; exact h v List.mem_cons_self
      simp [this]
theorem bindL_get {kindOf : Str → Option NameKind} {x : Str} {v : Value} : ∀ {P : List Str} {vs : List Value} {i : Nat} {m : Str → Option Value}, P.Nodup → P[i]? = some x → vs[i]? = some v → kindOf x = some .local →
    bindL kindOf (P.zip vs) m x = some v
  | [], _, _, _, _, h, _, _ => by simp at h
  | _ :: _, [], _, _, _, _, h, _ => by simp at h
  | p :: P, w :: vs, 0, m, nd, h1, h2, hk => by
    simp at h1 h2; subst h1; subst h2
    show bindL kindOf ((p, w) :: P.zip vs) m p = _
    unfold bindL
    rw [bindL_out fun v hv => (List.nodup_cons.mp nd).1 (List.of_mem_zip hv).1, if_pos hk]
    simp
  | p :: P, w :: vs, i + 1, m, nd, h1, h2, hk => by
    show bindL kindOf ((p, w) :: P.zip vs) m x = _
    unfold bindL
    exact bindL_get (i := i) (List.nodup_cons.mp nd).2 (by simpa using h1) (by simpa using h2) hk
theorem bindC_get {kindOf : Str → Option NameKind} {x : Str} {v : Value} : ∀ {P : List Str} {vs : List Value} {i : Nat} {m : Str → Option Value}, P.Nodup → P[i]? = some x → vs[i]? = some v → kindOf x ≠ some .local →
    bindC kindOf (P.zip vs) m x = some v
  | [], _, _, _, _, h, _, _ => by simp at h
  | _ :: _, [], _, _, _, _, h, _ => by simp at h
  | p :: P, w :: vs, 0, m, nd, h1, h2, hk => by
    simp at h1 h2; subst h1; subst h2
    show bindC kindOf ((p, w) :: P.zip vs) m p = _
    unfold bindC
    rw [bindC_out fun v hv => (List.nodup_cons.mp nd).1 (List.of_mem_zip hv).1, if_neg hk]
    simp
  | p :: P, w :: vs, i + 1, m, nd, h1, h2, hk => by
    show bindC kindOf ((p, w) :: P.zip vs) m x = _
    unfold bindC
    exact bindC_get (i := i) (List.nodup_cons.mp nd).2 (by simpa using h1) (by simpa using h2) hk
def start (N : List Str) (vs : List V) : St := vs.map some ++ List.replicate (N.length - vs.length) none
def cxOf (CX : CXT) (P : Program) (w : World) (K : PySem.W.Frag) (mg : Str → Option Value) (base : Heap) (N : List Str) (qual : Str) (scope : Scope) (f : Addr) (cd : Value) (A : Around) (outer : List Env) (s : Shared) (H : Hp) (E : XK) : Cx where
  prog := P
  w := w
  K := K
  mg := mg
  base := base
  A := A.deeper (envOfC qual scope s.heap.objs.size f cd)
  N := N
  s₀ := s
  H₀ := H
  env := envOfC qual scope s.heap.objs.size f cd
  outer := outer
  stack := envOfC qual scope s.heap.objs.size f cd :: outer
  ex := []
  calm := true
  fn := fun _ => true
  pn := []
  xe := fun e s' => wpAny (model P w) (A.deeper (envOfC qual scope s.heap.objs.size f cd)) (leaving (envOfC qual scope s.heap.objs.size f cd) e) (fun _ s'' => CX outer H s E e s'') (fun e' s'' => CX outer H s E e' s'') s'
theorem cell_has {sc : Scope} {n : Nat} {x : Str} (h : sc.names.lookup x = some .cell) : ∃ c, (cellsFrom n sc.names []).lookup x = some c := by
  have q := PySem.W.cellsFrom_some sc.names n [] (.inl h)
  exact Option.isSome_iff_exists.mp q
theorem inv_start {CX : CXT} {P : Program} {w : World} {K : PySem.W.Frag} {mg : Str → Option Value} {base : Heap} {N ps : List Str} {qual : Str} {scope : Scope} {f : Addr} {cd : Value} {A : Around} {outer : List Env} {s s1 : Shared} {H : Hp} {E : XK} {us : List Value} {vs : List V}
    (S : FnScope N ps scope) (hd : A.handled = none) (e0 : Env0 P w K mg base A outer s H) (hl : vs.length = ps.length) (r : Vals vs us)
    (x : InCallC s s.heap.objs.size (bindL (envOfC qual scope s.heap.objs.size f cd).kindOf (ps.zip us) fun _ => none) (cellsFrom (s.heap.objs.size + 1) scope.names []) (bindC (envOfC qual scope s.heap.objs.size f cd).kindOf (ps.zip us) fun _ => none) s1) :
    Inv (cxOf CX P w K mg base N qual scope f cd A outer s H E) [] (start N vs) H s1 := by
  have hpl : ps.length ≤ N.length := by have := congrArg List.length S.pre; rw [List.length_take] at this; omega
  obtain ⟨h1, tk, rfl, hk⟩ := x.done
  have noA : ∀ b : Addr, b ∉ (cxOf CX P w K mg base N qual scope f cd A outer s H E).ex := fun b z => absurd (show b ∈ ([] : List Addr) from z) (by simp)
  refine ⟨⟨e0.mod, S.kind, rfl, rfl, Nat.le_refl _, fun y z c h1 h2 => ?_, fun y hy => ?_, fun y c _ h => ?_, fun _ => hd, Around.frames_deeper e0.frames, .inr ⟨rfl, rfl⟩, fun b z => absurd z (noA b), e0.bs, e0.bsz, fun b _ _ => noA b, fun b z => absurd z (noA b), e0.funs, e0.frf⟩,
    rfl, e0.bare, Un.kept hk, ⟨_, x.toInCall.ns, fun i y v h1 h2 h3 => ?_⟩, fun y c h => ⟨_, x.cell y c h⟩, e0.hok.fresh (Nat.le_refl _), fun y c h => ?_, fun p hp => absurd (show p ∈ ([] : List (Addr × Obj)) from hp) (by simp), e0.hok.kept hk, ?_⟩
  · exact name_of_addr x.apart (PySem.mem_of_lookup h1) (PySem.mem_of_lookup h2)
  · have hy : scope.names.lookup y = some .cell ∨ scope.names.lookup y = some .free := hy
    rcases hy with hy | hy
    · exact cell_has hy
    · exact absurd rfl (S.nofree _ (PySem.mem_of_lookup hy))
  · exact Nat.le_of_lt (x.above y c (PySem.mem_of_lookup h))
  · have hi : i < vs.length := by
      unfold start at h2
      by_cases hi : i < vs.length
      · exact hi
      · rw [List.getElem?_append_right (by simpa using hi)] at h2
        rw [List.getElem?_replicate] at h2
        split at h2 <;> cases h2
    have ha : vs[i]? = some v := by
      unfold start at h2
      rw [List.getElem?_append_left (by simpa using hi), List.getElem?_map] at h2
      cases e : vs[i]? with
      | none => rw [e] at h2; cases h2
      | some a => rw [e] at h2; cases h2; rfl
    obtain ⟨u, hu, rv⟩ := r.get ha
    have hp : ps[i]? = some y := by
      rw [← S.pre, List.getElem?_take_of_lt (by omega)]; exact h1
    have ndP : ps.Nodup := by rw [← S.pre]; exact S.nd.sublist (List.take_sublist _ _)
    refine ⟨u, rv, ?_⟩
    rcases S.par y (List.mem_of_getElem? hp) with k | k
    · exact .inl ⟨k, bindL_get ndP hp hu k⟩
    · obtain ⟨c, e⟩ := cell_has (n := s.heap.objs.size + 1) k
      refine .inr ⟨.inl k, c, e, ?_⟩
      have q := x.cell y c e
      rw [bindC_get ndP hp hu (by show scope.names.lookup y ≠ _; rw [k]; decide)] at q
      exact q
  · exact e0.hok.fresh (Nat.le_of_lt (x.above y c (PySem.mem_of_lookup h)))
  · unfold start
    show _ = N.length
    rw [List.length_append, List.length_map, List.length_replicate]
    omega
theorem fn_of {CX : CXT} {P : Program} {w : World} {K : PySem.W.Frag} {mg : Str → Option Value} {base : Heap} {k : Nat} {f : Addr} {name qual : Str} {params : Arguments} {body : List Stmt} {scope : Scope} {dV kV doc pm cdv ct oc : Value} {an od : Option Addr}
    {osl : Array (Option Value)} {N ps : List Str} {sp : Sp} (lk : K.lookup f = some ⟨oc, od, .func (PySem.W.fnOf name qual params body scope dV kV doc pm an cdv ct), osl⟩) (hcd : PySem.W.codeIn K cdv qual = true) (S : FnScope N ps scope)
    (len : ∀ vs H Q E, sp vs H Q E → vs.length = ps.length)
    (hbody : ∀ (A : Around) (outer : List Env) (s : Shared) (H : Hp) (vs : List V) (Q : VK) (E : XK), Room k (A.deeper (envOfC qual scope s.heap.objs.size f cdv)) → sp vs H Q E →
      ∃ t, PSs (cxOf CX P w K mg base N qual scope f cdv A outer s H E) body t ∧ t { nx := fun _ H' => Q .non H', rt := Q } (start N vs) H) :
    FnOk P w K mg base CX (k + 1) f (PySem.W.fnOf name qual params body scope dV kV doc pm an cdv ct) ps sp := by
  refine ⟨len, fun A outer s H args us vs Q E hr e0 hb r hsp => ?_⟩
  have hl := len _ _ _ _ hsp
  have KX : K.In s.heap := e0.mod.kin.keeps fun b o e => (e0.bs b o e).1
  have lim : s.heap.NoLimit := e0.mod.nolimit.keeps fun b o e => (e0.bs b o e).1
  have hkind : ∀ y ∈ ps.zip us, scope.names.lookup y.1 = some .local ∨ (scope.names.lookup y.1 = some .cell ∧ ((cellsFrom (s.heap.objs.size + 1) scope.names []).lookup y.1).isSome = true) := fun ⟨n, v⟩ hy => by
    rcases S.par n (List.of_mem_zip hy).1 with q | q
    · exact .inl q
    · exact .inr ⟨q, PySem.W.cellsFrom_some _ _ _ (.inl q)⟩
  refine codeAny_call_function hr.depth (KX _ _ lk) rfl S.co S.gen rfl (PySem.W.codeRec_of KX hcd) (hb _ _ _ _ ?_)
  refine wpAny_newFunctionEnv_cells S.kind hkind fun env he s1 x => ?_
  subst he
  refine ⟨lim.keeps x.toInCall.keep, codeAny_func ?_⟩
  obtain ⟨t, ht, hq⟩ := hbody A outer s H vs Q E (hr.deeper _) hsp
  have I : Inv (cxOf CX P w K mg base N qual scope f cdv A outer s H E) [] (start N vs) H s1 := inv_start S hr.hd e0 hl r x
  refine wpAny_mono (ht [] s1 (start N vs) H _ I hq) (fun fl s' hs => ?_) fun e s' hs => hs
  have fin : ∀ {σ' : St} {H' : Hp} {v : V} {u : Value}, Inv (cxOf CX P w K mg base N qual scope f cdv A outer s H E) [] σ' H' s' → RelV v u → Q v H' → CE outer P w H s Q u s' :=
    fun {σ' H' v u} J rv q => ⟨v, H', J.os, J.bare, J.base, J.hok, rv, q⟩
  cases fl with
  | ret u =>
    obtain ⟨v, σ', H', J, rv, q⟩ := hs
    exact fin J rv q
  | next =>
    obtain ⟨σ', H', J, q⟩ := hs
    exact fin (v := V.non) (u := Value.none) J rfl q
  | brk =>
    obtain ⟨_, _, _, q⟩ := hs
    exact False.elim q
  | cont =>
    obtain ⟨_, _, _, q⟩ := hs
    exact False.elim q
end L2
namespace L2
open PySem PySem.Spec PyProof.Rows
section
variable {X : Cx} {x : Str} {p pos : Pos} {e : Expr} {es : List Expr} {t : TA} {id T : String} {r : List V → Hp → VK → Prop}
def tCB (r : List V → Hp → VK → Prop) (t : TA) : TE := fun σ H Q => t σ H fun vs H1 => r vs H1 Q
theorem pe_callB (hc : CallR X (.builtin id) r) (hg : Gl X x) (hm : X.mg x = none) (hv : bootBuiltins x = some (.builtin id)) (ha : PA X (e :: es) t) (hn : x ≠ "__name__" := by decide) (hdb : (x == ("__debug__" : Str)) = false := by decide)
    (he : starEach (e :: es) X.env = (false, eval e X.env) :: starEach es X.env := by rfl) (hpl : (backTo pos (starEach es X.env)).any (·.1) = false := by rfl) : PE X (.Call (.Name x p) (e :: es) [] pos) (tCB r t) := by
  intro pins s σ H Q I h
  refine wpAny_Call_Name_kw (ld_blt I hg hm hv ?_ hn hdb)
  exact PyProof.Rows.callWith_builtin1 (thn (ha pos pins s σ H _ I h) fun us s1 ⟨vs, H1, I1, r1, q1⟩ => hc pins s1 σ H1 vs us Q I1 r1 q1) he hpl
theorem pe_callTy (hc : CallR X (.type T) r) (hg : Gl X x) (hm : X.mg x = none) (hv : bootBuiltins x = some (.type T)) (ha : PA X (e :: es) t) (hn : x ≠ "__name__" := by decide) (hdb : (x == ("__debug__" : Str)) = false := by decide)
    (he : starEach (e :: es) X.env = (false, eval e X.env) :: starEach es X.env := by rfl) (hpl : (backTo pos (starEach es X.env)).any (·.1) = false := by rfl) : PE X (.Call (.Name x p) (e :: es) [] pos) (tCB r t) := by
  intro pins s σ H Q I h
  refine wpAny_Call_Name_kw (ld_blt I hg hm hv ?_ hn hdb)
  exact PyProof.Rows.callWith_type1 (thn (ha pos pins s σ H _ I h) fun us s1 ⟨vs, H1, I1, r1, q1⟩ => hc pins s1 σ H1 vs us Q I1 r1 q1) he hpl
end
end L2
namespace HT
open PySem PyProof.Rows
section
open PySem.SeqAt
open PySem.AutoSeq1 (wpAny_loadPart')
open PySem.MeetsSeq PySem.MeetsSeq2 PySem.MeetsSeq3
end
section
variable {prog : Program} {w : World} {A : Around} {E : Value → Shared → Prop} {s : Shared}
theorem cat_tup {t b : Addr} {vs ws : List Value} {Q : Value → Shared → Prop} (ht : IsTup s.heap t vs.toArray) (hb : IsTup s.heap b ws.toArray) (hv : vs ≠ [])
    (h1 : ws = [] → Q (.ref t) s) (h2 : ws ≠ [] → Q (.ref s.heap.objs.size) { s with heap := s.heap.push { cls := .type "tuple", data := .seq (vs ++ ws).toArray } })
    (hsz : vs.length + ws.length ≤ sizeLine) : wpAny (model prog w) A (binaryOp .Add (.ref t) (.ref b)) Q E s := by
  obtain ⟨⟨cls, dd, data, sl⟩, ho, hc, n, hd⟩ := id ht
  obtain ⟨⟨cls2, dd2, data2, sl2⟩, ho2, hc2, n2, hd2⟩ := id hb
  simp only at hc hd hc2 hd2
  subst hc hd hc2 hd2
  have e : vs.toArray ++ ws.toArray = (vs ++ ws).toArray := by simp
  by_cases hw : ws = []
  · exact concat_meets ⟨_, ho, rfl⟩ ⟨_, ho2, rfl⟩ noFill_tuple_add seq_tuple_add PySem.F.slot_tuple_add PySem.F.entry_tuple_add (PySem.F.args_tuple_add_2 _ _)
      (tuple_addW1 t b vs.toArray ws.toArray n n2 dd dd2 sl sl2 (by simpa using hv) (by simp [hw])) ⟨ho, ho2, h1 hw⟩
  · refine concat_meets ⟨_, ho, rfl⟩ ⟨_, ho2, rfl⟩ noFill_tuple_add seq_tuple_add PySem.F.slot_tuple_add PySem.F.entry_tuple_add (PySem.F.args_tuple_add_2 _ _)
      (tuple_addW2 t b vs.toArray ws.toArray n n2 dd dd2 sl sl2 (by simpa using hv) (by simpa using hw) (by rw [List.size_toArray, List.size_toArray]; exact hsz)) ⟨ho, ho2, ?_⟩
    rw [e]
    exact h2 hw
def sIx (n d : Nat) : Option Int → Nat
  | none => d
  | some v => if v < 0 then (v + (n : Int)).toNat else min v.toNat n
theorem sIx_none (n d : Nat) : sIx n d none = d := rfl
theorem sIx_nat (n d k : Nat) : sIx n d (some (k : Int)) = min k n := by
  show (if (k : Int) < 0 then ((k : Int) + (n : Int)).toNat else min (k : Int).toNat n) = min k n
  rw [if_neg (by omega), Int.toNat_natCast]
theorem sIx_le (n d : Nat) (hd : d ≤ n) (o : Option Int) : sIx n d o ≤ n := by
  cases o with
  | none => exact hd
  | some v =>
    show (if v < 0 then (v + (n : Int)).toNat else min v.toNat n) ≤ n
    by_cases hv : v < 0
    · rw [if_pos hv]; omega
    · rw [if_neg hv]; exact Nat.min_le_right _ _
end
end HT
namespace L2
open PySem PySem.Spec PyProof.Rows
abbrev TO := St → Hp → (Option Int → Hp → Prop) → Prop
def PO (X : Cx) (e : Option Expr) (t : TO) : Prop :=
  ∀ (pins : List (Addr × Obj)) (s : Shared) (σ : St) (H : Hp) (Q : Option Int → Hp → Prop), Inv X pins σ H s → t σ H Q →
    wpAny (model X.prog X.w) X.A (evalPart e X.env) (fun u s' => ∃ o H', Inv X pins σ H' s' ∧ IsPart u o ∧ Q o H') X.xe s
def tNoPart : TO := fun _ H Q => Q none H
def tPart (t : TE) : TO := fun σ H Q => t σ H fun x H1 => ∃ i, x = .int i ∧ Q (some i) H1
section
variable {X : Cx} {e : Expr} {te : TE} {lo hi : Option Expr} {tl th : TO} {pos p2 : Pos}
theorem po_none : PO X none tNoPart := by
  intro pins s σ H Q I h
  rw [evalPart_none]
  exact wpAny_pure ⟨none, H, I, .none, h⟩
theorem po_some (h : PE X e te) : PO X (some e) (tPart te) := by
  intro pins s σ H Q I hw
  rw [evalPart_some]
  refine thn (h pins s σ H _ I hw) fun u s1 ⟨x, H1, I1, r1, q1⟩ => ?_
  obtain ⟨i, rfl, q⟩ := q1
  obtain ⟨t, rfl⟩ := r1
  exact ⟨some i, H1, I1, .int i t, q⟩
def SlR (X : Cx) (r : V → Option Int → Option Int → Hp → VK → Prop) : Prop :=
  ∀ (pins : List (Addr × Obj)) (s : Shared) (σ : St) (H : Hp) (x : V) (v vl vu : Value) (lo hi : Option Int) (sl : Addr) (Q : VK), Inv X pins σ H s → RelV x v → s.heap.IsSliceOf sl vl vu .none → IsPart vl lo → IsPart vu hi → r x lo hi H Q →
    ∃ T id, typeLookup (.type T) "__getitem__" = pure (some (.builtin id)) ∧ s.TypeIs v T ∧ wpAny (model X.prog X.w) X.A (getItem v (.ref sl)) (EP X pins σ Q) X.xe s
theorem SlR.or {r r' : V → Option Int → Option Int → Hp → VK → Prop} (h : SlR X r) (h' : SlR X r') : SlR X (fun x lo hi H Q => r x lo hi H Q ∨ r' x lo hi H Q) := by
  intro pins s σ H x v vl vu lo hi sl Q I rx hs pl pu q
  rcases q with q | q
  · exact h pins s σ H x v vl vu lo hi sl Q I rx hs pl pu q
  · exact h' pins s σ H x v vl vu lo hi sl Q I rx hs pl pu q
def tSl (r : V → Option Int → Option Int → Hp → VK → Prop) (te : TE) (tl th : TO) : TE := fun σ H Q => te σ H fun x H1 => tl σ H1 fun l H2 => th σ H2 fun u H3 => r x l u H3 Q
theorem pe_slice {r : V → Option Int → Option Int → Hp → VK → Prop} (hr : SlR X r) (he : PE X e te) (hl : PO X lo tl) (hu : PO X hi th) : PE X (.Subscript e (.Slice lo hi none p2) pos) (tSl r te tl th) := by
  intro pins s σ H Q I h
  refine Subscript_ (thn (he pins s σ H _ I h) fun v s1 ⟨x, H1, I1, r1, q1⟩ => ?_)
  refine wpAny_Slice (thn (hl pins s1 σ H1 _ I1 q1) fun vl s2 ⟨l, H2, I2, pl, q2⟩ => thn (hu pins s2 σ H2 _ I2 q2) fun vu s3 ⟨u, H3, I3, pu, q3⟩ => ?_)
  rw [evalPart_none]
  refine wpAny_pure ?_
  have I4 : Inv X pins σ H3 { s3 with heap := s3.heap.push { cls := .type "slice", data := .fields #[vl, vu, .none] } } := I3.kept (t' := s3.toks) fun b ob q => Heap.get?_push_of_some _ q
  obtain ⟨T, id, hT, ht, hg⟩ := hr pins { s3 with heap := s3.heap.push { cls := .type "slice", data := .fields #[vl, vu, .none] } } σ H3 x v vl vu l u s3.heap.objs.size Q I4 r1 (Heap.IsSliceOf.new ..) pl pu q3
  show wpAny (model X.prog X.w) X.A (subscriptTail e (.Slice lo hi none p2) v (.ref s3.heap.objs.size)) (EP X pins σ Q) X.xe { s3 with heap := s3.heap.push { cls := .type "slice", data := .fields #[vl, vu, .none] } }
  exact tail_any (ops := [.ref s3.heap.objs.size, v]) ht hT hg (by with_unfolding_all rfl)
def cutV (xs : List V) (lo hi : Option Int) : List V := (xs.drop (HT.sIx xs.length 0 lo)).take (HT.sIx xs.length xs.length hi - HT.sIx xs.length 0 lo)
theorem cutV_length (xs : List V) (lo hi : Option Int) : (cutV xs lo hi).length ≤ xs.length := by
  unfold cutV
  rw [List.length_take, List.length_drop]
  omega
def rCatT (K : PySem.W.Frag) : R2 := fun x y H Q => ∃ a b xs ys, x = .ref a ∧ y = .ref b ∧ SqT K H a xs ∧ SqT K H b ys ∧ xs ≠ [] ∧ xs.length + ys.length ≤ sizeLine ∧
  (ys = [] → Q (.ref a) H) ∧ (ys ≠ [] → ∀ p, H p = none → Q (.ref p) (upd H p (.tup (xs ++ ys))))
theorem Vals.nil_iff {xs : List V} {us : List Value} (r : Vals xs us) : us = [] ↔ xs = [] := by
  cases r with
  | nil => simp
  | cons _ _ => simp
theorem op_catT : OpR X (binaryOp .Add) (rCatT X.K) := by
  intro pins s σ H x y v u Q I rx ry h
  obtain ⟨a, b, xs, ys, rfl, rfl, ha, hb, hx, hz, q1, q2⟩ := h
  cases rx
  cases ry
  obtain ⟨its, r1, p1, _⟩ := I.tuple ha
  obtain ⟨its2, r2, p2, _⟩ := I.tuple hb
  refine HT.cat_tup p1 p2 (fun z => hx (r1.nil_iff.mp z)) (fun z => ⟨.ref a, H, I, rfl, q1 (r2.nil_iff.mp z)⟩) (fun z => ?_) (by rw [← r1.length, ← r2.length]; exact hz)
  refine ⟨.ref s.heap.objs.size, _, I.laid (t' := s.toks) (o := .tup (xs ++ ys)) (fun b ob q => Heap.get?_push_of_some _ q) (Nat.le_refl _) ?_, rfl, q2 (fun w => z (r2.nil_iff.mpr w)) _ (I.hok.fresh (Nat.le_refl _))⟩
  exact ⟨by rw [List.length_append]; exact hz, _, r1.append r2, IsTup.new _ _⟩
end
end L2
namespace L2
open PySem PySem.Spec PyProof.Rows
def ixN (n : Nat) (i : Int) : Option Nat := if 0 ≤ i then (if i < n then some i.toNat else none) else if -(n : Int) ≤ i then some (i + n).toNat else none
def atI {α : Type} (xs : List α) (i : Int) : Option α := (ixN xs.length i).bind fun j => xs[j]?
theorem ixN_seq {n : Nat} {i : Int} {j : Nat} (h : ixN n i = some j) : seqIndex? i n = some j ∧ j < n ∧ -(n : Int) ≤ i ∧ i < n := by
  unfold ixN at h
  by_cases h0 : 0 ≤ i
  · rw [if_pos h0] at h
    by_cases h1 : i < n
    · rw [if_pos h1] at h
      have e : i.toNat = j := Option.some.inj h
      exact ⟨by rw [seqIndex_of h0 h1, e], by omega, by omega, h1⟩
    · rw [if_neg h1] at h; cases h
  · rw [if_neg h0] at h
    by_cases h1 : -(n : Int) ≤ i
    · rw [if_pos h1] at h
      have e : (i + n).toNat = j := Option.some.inj h
      exact ⟨by rw [seqIndex_neg (by omega) h1, e], by omega, h1, by omega⟩
    · rw [if_neg h1] at h; cases h
theorem atI_get {α : Type} {xs : List α} {i : Int} {v : α} (h : atI xs i = some v) : ∃ j, seqIndex? i xs.length = some j ∧ xs[j]? = some v ∧ j < xs.length ∧ -(xs.length : Int) ≤ i ∧ i < xs.length := by
  unfold atI at h
  cases e : ixN xs.length i with
  | none => rw [e] at h; cases h
  | some j =>
    rw [e] at h
    obtain ⟨h1, h2, h3, h4⟩ := ixN_seq e
    exact ⟨j, h1, h, h2, h3, h4⟩
theorem atI_nat {α : Type} {xs : List α} {j : Nat} {v : α} (h : xs[j]? = some v) : atI xs (j : Int) = some v := by
  have hj : j < xs.length := (List.getElem?_eq_some_iff.mp h).1
  have e : ixN xs.length (j : Int) = some j := by
    unfold ixN
    rw [if_pos (by omega), if_pos (by omega)]; simp
  unfold atI; rw [e]; exact h
theorem atI_last {α : Type} (xs : List α) (v : α) : atI (xs ++ [v]) (-1) = some v := by
  have hl : (xs ++ [v]).length = xs.length + 1 := by simp
  have e : ixN (xs ++ [v]).length (-1) = some xs.length := by
    unfold ixN
    rw [hl, if_neg (by decide), if_pos (by omega)]
    congr 1
    omega
  unfold atI
  rw [e]
  show (xs ++ [v])[xs.length]? = some v
  simp
def PlainIx (b : Expr) : Prop := ∀ o i, subscripted b false o i = operate [o, i] (getItem o i)
def IxR (X : Cx) (r : R2) : Prop :=
  ∀ (value slice : Expr) (pins : List (Addr × Obj)) (s : Shared) (σ : St) (H : Hp) (x y : V) (v u : Value) (Q : VK), Inv X pins σ H s → RelV x v → RelV y u → r x y H Q →
    subscripted slice false v u = operate [v, u] (getItem v u) → wpAny (model X.prog X.w) X.A (subscriptTail value slice v u) (EP X pins σ Q) X.xe s
def MtR (X : Cx) (id : String) (r : V → List V → Hp → VK → Prop) : Prop :=
  ∀ (pins : List (Addr × Obj)) (s : Shared) (σ : St) (H : Hp) (x : V) (xs : List V) (v : Value) (us : List Value) (Q : VK), Inv X pins σ H s → RelV x v → Vals xs us → r x xs H Q →
    wpAny (model X.prog X.w) X.A (call (.builtin id) (v :: us)) (EP X pins σ Q) X.xe s
section
variable {X : Cx} {a b : Expr} {ta tb : TE} {pos : Pos}
theorem IxR.or {r r' : R2} (h : IxR X r) (h' : IxR X r') : IxR X (fun x y H Q => r x y H Q ∨ r' x y H Q) := by
  intro value slice pins s σ H x y v u Q I rx ry q hs
  rcases q with q | q
  · exact h value slice pins s σ H x y v u Q I rx ry q hs
  · exact h' value slice pins s σ H x y v u Q I rx ry q hs
theorem MtR.or {id : String} {r r' : V → List V → Hp → VK → Prop} (h : MtR X id r) (h' : MtR X id r') : MtR X id (fun x xs H Q => r x xs H Q ∨ r' x xs H Q) := by
  intro pins s σ H x xs v us Q I rx rs q
  rcases q with q | q
  · exact h pins s σ H x xs v us Q I rx rs q
  · exact h' pins s σ H x xs v us Q I rx rs q
theorem pe_ix {r : R2} (hr : IxR X r) (ha : PE X a ta) (hb : PE X b tb) (hs : PlainIx b) : PE X (.Subscript a b pos) (tOp r ta tb) := by
  intro pins s σ H Q I h
  exact Subscript_ (binT ha hb I h fun v u s2 x y H2 I2 rx ry q => hr a b pins s2 σ H2 x y v u Q I2 rx ry q (hs _ _))
def rIxL (K : PySem.W.Frag) : R2 := fun x y H Q => ∃ p xs i v, x = .ref p ∧ y = .int i ∧ SqL K H p xs ∧ atI xs i = some v ∧ Q v H
def rIxT (K : PySem.W.Frag) : R2 := fun x y H Q => ∃ p xs i v, x = .ref p ∧ y = .int i ∧ SqT K H p xs ∧ atI xs i = some v ∧ Q v H
def rIxS : R2 := fun x y H Q => ∃ z i c, x = .str z ∧ y = .int i ∧ z.length ≤ sizeLine ∧ atI z.cps.toList i = some c ∧ Q (.str ⟨#[c]⟩) H
theorem ix_list : IxR X (rIxL X.K) := by
  intro value slice pins s σ H x y v u Q I rx ry h hs
  obtain ⟨p, xs, i, z, rfl, rfl, hq, he, q⟩ := h
  cases rx
  obtain ⟨t, rfl⟩ := ry
  obtain ⟨its, r, pl, hz⟩ := I.list hq
  obtain ⟨j, h1, h2, h3, h4, h5⟩ := atI_get he
  obtain ⟨w, ew, rw'⟩ := r.get h2
  have hl := r.length
  have hn := line63
  have fin : EP X pins σ Q w s := ⟨z, H, I, rw', q⟩
  by_cases h0 : 0 ≤ i
  · have hj : i.toNat = j := by
      rw [seqIndex_of h0 h5] at h1
      exact Option.some.inj h1
    exact item_listR pl.isList h0 (by omega) (by rw [hj]; simpa using ew) fin hs
  · have hj : (i + (its.toArray.size : Int)).toNat = j := by
      rw [seqIndex_neg (by omega) h4] at h1
      rw [List.size_toArray, ← hl]
      exact Option.some.inj h1
    exact subscriptTail_builtinR (x := w) pl.isList.typeIs slot_list_getitem.lookup
      (wpAny_getItem_list_neg (Q := fun r s' => r = w ∧ EP X pins σ Q r s') pl.isList (by omega) (by rw [List.size_toArray] <;> omega) (by omega) (by rw [hj]; simpa using ew) ⟨rfl, fin⟩) hs
theorem ix_tup : IxR X (rIxT X.K) := by
  intro value slice pins s σ H x y v u Q I rx ry h hs
  obtain ⟨p, xs, i, z, rfl, rfl, hq, he, q⟩ := h
  cases rx
  obtain ⟨t, rfl⟩ := ry
  obtain ⟨its, r, pl, hz⟩ := I.tuple hq
  obtain ⟨j, h1, h2, h3, h4, h5⟩ := atI_get he
  obtain ⟨w, ew, rw'⟩ := r.get h2
  have hl := r.length
  have hn := line63
  have fin : EP X pins σ Q w s := ⟨z, H, I, rw', q⟩
  exact subscriptTail_builtinR (x := w) pl.typeIs slot_tuple_getitem.lookup
    (getItem_tuple (j := j) (Q := fun r s' => r = w ∧ EP X pins σ Q r s') pl (by omega) (by omega) (by rw [List.size_toArray, ← hl]; exact h1) (by simpa using ew) ⟨rfl, fin⟩) hs
theorem ix_str : IxR X rIxS := by
  intro value slice pins s σ H x y v u Q I rx ry h hs
  obtain ⟨z, i, c, rfl, rfl, hz, he, q⟩ := h
  obtain ⟨t, rfl⟩ := rx
  obtain ⟨t', rfl⟩ := ry
  obtain ⟨j, h1, h2, h3, h4, h5⟩ := atI_get he
  have hl : z.cps.toList.length = z.length := by simp [Str.length]
  rw [hl] at h1 h4 h5
  have hn := line63
  exact tail_any (typeIs_str s z t) slot_str_getitem.lookup (getItem_str (c := c) (by
    have e1 : decide (i < -(2 ^ 63 : Int)) = false := decide_eq_false (by omega)
    have e2 : decide (i ≥ 2 ^ 63) = false := decide_eq_false (by omega)
    rw [e1, e2, Bool.or_false]) (by rw [h1]; simpa using h2) ⟨.str ⟨#[c]⟩, H, I.tok _, ⟨_, rfl⟩, q⟩) hs
def rIx (K : PySem.W.Frag) : R2 := fun x y H Q => rIxL K x y H Q ∨ rIxT K x y H Q ∨ rIxS x y H Q
theorem ix_seq : IxR X (rIx X.K) := ix_list.or (ix_tup.or ix_str)
theorem mapSeq_set (its : List Value) (n j : Nat) (u : Value) : Obj.mapSeq (·.setIfInBounds j u) { cls := .type "list", data := .seq its.toArray n } = { cls := .type "list", data := .seq (its.set j u).toArray n } := by
  simp [Obj.mapSeq]
theorem Inv.lst {pins : List (Addr × Obj)} {σ : St} {H : Hp} {s : Shared} {p : Addr} {xs : List V} (I : Inv X pins σ H s) (h : H p = some (.lst xs)) :
    ∃ (its : List Value) (n : Nat), Vals xs its ∧ s.heap.get? p = some { cls := .type "list", data := .seq its.toArray n } ∧ xs.length ≤ sizeLine := by
  obtain ⟨z, its, n, r, e⟩ := I.hok p _ h
  exact ⟨its, n, r, e, z⟩
theorem Inv.lstUpd {pins : List (Addr × Obj)} {σ : St} {H : Hp} {s : Shared} {p : Addr} {xs ys : List V} {its its' : List Value} {n n' : Nat} {f : Obj → Obj} (I : Inv X pins σ H s) (h : H p = some (.lst xs))
    (ho : s.heap.get? p = some { cls := .type "list", data := .seq its.toArray n }) (hf : f { cls := .type "list", data := .seq its.toArray n } = { cls := .type "list", data := .seq its'.toArray n' }) (r : Vals ys its') (hz : ys.length ≤ sizeLine) (t : Nat) :
    Inv X pins σ (upd H p (.lst ys)) { s with heap := s.heap.update p f, toks := t } := by
  have e : (s.heap.update p f).get? p = some { cls := .type "list", data := .seq its'.toArray n' } := by
    rw [Heap.get?_update_self f ho (by rw [hf] <;> rfl), hf]
  refine I.write (x := p) (e := p) (by rw [h]; trivial) (.inl rfl) (fun b u hb q => (Heap.get?_update_other _ _ (Ne.symm hb)).trans q) ⟨_, e⟩ ?_
  exact ⟨hz, its', n', r, e⟩
def rSetL : V → V → V → Hp → (Hp → Prop) → Prop := fun o i v H Q => ∃ p xs k j, o = .ref p ∧ i = .int k ∧ H p = some (.lst xs) ∧ ixN xs.length k = some j ∧ Q (upd H p (.lst (xs.set j v)))
theorem set_list : PSet X rSetL := by
  intro pins s σ H o i v ov iv u Q I ro ri rv h
  obtain ⟨p, xs, k, j, rfl, rfl, hp, hj, q⟩ := h
  cases ro
  obtain ⟨t, rfl⟩ := ri
  obtain ⟨its, n, r, ho, hz⟩ := I.lst hp
  obtain ⟨h1, h2, h3, h4⟩ := ixN_seq hj
  have hl := r.length
  have hn := line63
  have I' : Inv X pins σ (upd H p (.lst (xs.set j v))) { s with heap := s.heap.update p (Obj.mapSeq (·.setIfInBounds j u)) } :=
    I.lstUpd hp ho (mapSeq_set its n j u) (r.set rv j) (by rw [List.length_set]; exact hz) s.toks
  by_cases h0 : 0 ≤ k
  · have hk : k.toNat = j := by
      rw [seqIndex_of h0 h4] at h1
      exact Option.some.inj h1
    exact PySem.W.ki_setAt ho h0 (by omega) (by rw [List.size_toArray, ← hl]; exact h4) (by rw [hk]; exact ⟨_, I', q⟩)
  · have hk : (k + (its.toArray.size : Int)).toNat = j := by
      rw [seqIndex_neg (by omega) h3] at h1
      rw [List.size_toArray, ← hl]
      exact Option.some.inj h1
    exact PySem.W.ki_setBack ho (by omega) (by rw [List.size_toArray, ← hl]; exact h3) (by omega) (by rw [hk]; exact ⟨_, I', q⟩)
theorem slice_bounds (lo hi : Option Int) (n : Nat) : (sliceBounds lo hi none n).1 = ((HT.sIx n 0 lo : Nat) : Int) ∧ (sliceBounds lo hi none n).2.1 = ((HT.sIx n n hi : Nat) : Int) ∧ (sliceBounds lo hi none n).2.2 = 1 := by
  refine ⟨?_, ?_, rfl⟩
  · cases lo with
    | none => simp [sliceBounds, HT.sIx]
    | some i =>
      simp only [sliceBounds, HT.sIx, Option.getD_none, show (1 : Int) > 0 by decide, if_true]
      by_cases h : i < 0
      · simp only [h, if_true] <;> omega
      · simp only [h, if_false] <;> omega
  · cases hi with
    | none => simp [sliceBounds, HT.sIx]
    | some i =>
      simp only [sliceBounds, HT.sIx, Option.getD_none, show (1 : Int) > 0 by decide, if_true]
      by_cases h : i < 0
      · simp only [h, if_true] <;> omega
      · simp only [h, if_false] <;> omega
theorem slicePick_cut (its : List Value) (lo hi : Option Int) : slicePick its.toArray lo hi none = ((its.drop (HT.sIx its.length 0 lo)).take (HT.sIx its.length its.length hi - HT.sIx its.length 0 lo)).toArray := by
  obtain ⟨h1, h2, h3⟩ := slice_bounds lo hi its.toArray.size
  unfold slicePick
  rw [h1, h2, h3]
  simp only [sliceRange_one, pick_run, List.size_toArray] <;> rfl
def rSlL (K : PySem.W.Frag) : V → Option Int → Option Int → Hp → VK → Prop := fun x lo hi H Q => ∃ a xs, x = .ref a ∧ SqL K H a xs ∧ ∀ p, H p = none → Q (.ref p) (upd H p (.lst (cutV xs lo hi)))
theorem sl_list : SlR X (rSlL X.K) := by
  intro pins s σ H x v vl vu lo hi sl Q I rx hs pl pu h
  obtain ⟨a, xs, rfl, hx, q⟩ := h
  cases rx
  obtain ⟨its, r, ht, hz⟩ := I.list hx
  have hlen := r.length
  refine ⟨"list", _, slot_list_getitem.lookup, ht.isList.typeIs, ?_⟩
  refine wpAny_getItem_list_slice ht.isList hs pl pu .none (by simp) ?_ (by rw [List.size_toArray] <;> omega)
  rw [slicePick_cut, ← hlen]
  refine ⟨.ref s.heap.objs.size, _, I.laid (t' := s.toks) (o := .lst (cutV xs lo hi)) (fun b ob q => Heap.get?_push_of_some _ q) (Nat.le_refl _) ?_, rfl, q _ (I.hok.fresh (Nat.le_refl _))⟩
  exact ⟨Nat.le_trans (cutV_length xs lo hi) hz, _, 0, (r.drop (HT.sIx xs.length 0 lo)).take (HT.sIx xs.length xs.length hi - HT.sIx xs.length 0 lo), Heap.get?_push_size _ rfl⟩
def flatV : V → Bool
  | .non => true
  | .bl _ => true
  | .int _ => true
  | .str _ => true
  | _ => false
def eqV : V → V → Bool
  | .non, .non => true
  | .bl a, .bl b => a == b
  | .bl a, .int b => (if a then 1 else 0) == b
  | .int a, .bl b => a == (if b then 1 else 0)
  | .int a, .int b => a == b
  | .str a, .str b => a == b
  | _, _ => false
theorem eqAt_V {A : Around} {s : Shared} {y x : V} {u v : Value} (ry : RelV y u) (rx : RelV x v) (fy : flatV y = true) (fx : flatV x = true) : SeqAt.EqAt A s u v (eqV y x) := by
  cases y with
  | non =>
    cases ry
    cases x with
    | non => cases rx; exact SeqAt.EqAt.same _
    | bl b => cases rx; exact SeqAt.EqAt.none_bool b
    | int b => obtain ⟨t, rfl⟩ := rx; exact SeqAt.EqAt.none_int b t
    | str b => obtain ⟨t, rfl⟩ := rx; exact SeqAt.EqAt.none_str b t
    | _ => exact absurd (show false = true from fx) Bool.false_ne_true
  | bl a =>
    cases ry
    cases x with
    | non => cases rx; exact SeqAt.EqAt.bool_none a
    | bl b => cases rx; exact SeqAt.EqAt.bool_bool a b
    | int b => obtain ⟨t, rfl⟩ := rx; exact SeqAt.EqAt.bool_int a b t
    | str b => obtain ⟨t, rfl⟩ := rx; exact SeqAt.EqAt.bool_str a b t
    | _ => exact absurd (show false = true from fx) Bool.false_ne_true
  | int a =>
    obtain ⟨t', rfl⟩ := ry
    cases x with
    | non => cases rx; exact SeqAt.EqAt.int_none a t'
    | bl b => cases rx; exact SeqAt.EqAt.int_bool a t' b
    | int b => obtain ⟨t, rfl⟩ := rx; exact SeqAt.EqAt.int_int a t' b t
    | str b => obtain ⟨t, rfl⟩ := rx; exact SeqAt.EqAt.int_str a t' b t
    | _ => exact absurd (show false = true from fx) Bool.false_ne_true
  | str a =>
    obtain ⟨t', rfl⟩ := ry
    cases x with
    | non => cases rx; exact SeqAt.EqAt.str_none a t'
    | bl b => cases rx; exact SeqAt.EqAt.str_bool a t' b
    | int b => obtain ⟨t, rfl⟩ := rx; exact SeqAt.EqAt.str_int a t' b t
    | str b => obtain ⟨t, rfl⟩ := rx; exact SeqAt.EqAt.str_str a t' b t
    | _ => exact absurd (show false = true from fx) Bool.false_ne_true
  | _ => exact absurd (show false = true from fy) Bool.false_ne_true
def eqU (x : V) (u : Value) : Bool := match u with
  | .none => eqV .non x
  | .bool b => eqV (.bl b) x
  | .int i _ => eqV (.int i) x
  | .str z _ => eqV (.str z) x
  | _ => false
theorem eqU_of {x y : V} {u : Value} (r : RelV y u) (f : flatV y = true) : eqU x u = eqV y x := by
  cases y with
  | non => cases r; rfl
  | bl b => cases r; rfl
  | int i => obtain ⟨t, rfl⟩ := r; rfl
  | str z => obtain ⟨t, rfl⟩ := r; rfl
  | _ => exact absurd (show false = true from f) Bool.false_ne_true
theorem any_eqU {x : V} : ∀ {xs : List V} {us : List Value}, Vals xs us → xs.all flatV = true → us.any (eqU x) = xs.any fun y => eqV y x
  | _, _, .nil, _ => rfl
  | y :: xs, u :: us, .cons r t, f => by
    rw [List.all_cons, Bool.and_eq_true] at f
    rw [List.any_cons, List.any_cons, eqU_of r f.1, any_eqU t f.2]
theorem mem_eqAt {A : Around} {s : Shared} {x : V} {v : Value} (rx : RelV x v) (fx : flatV x = true) : ∀ {xs : List V} {us : List Value}, Vals xs us → xs.all flatV = true → ∀ u ∈ us, SeqAt.EqAt A s u v (eqU x u)
  | _, _, .nil, _ => fun u hu => by cases hu
  | y :: xs, u :: us, .cons r t, f => fun u' hu => by
    rw [List.all_cons, Bool.and_eq_true] at f
    rcases List.mem_cons.mp hu with rfl | hu
    · rw [eqU_of r f.1]; exact eqAt_V r rx f.1 fx
    · exact mem_eqAt rx fx t f.2 u' hu
def inV (x : V) (xs : List V) : Bool := xs.any fun y => eqV y x
def rIn (K : PySem.W.Frag) (neg : Bool) : R2 := fun x y H Q => ∃ p xs, y = .ref p ∧ (SqL K H p xs ∨ SqT K H p xs) ∧ flatV x = true ∧ xs.all flatV = true ∧ Q (.bl (if neg then !inV x xs else inV x xs)) H
theorem op_notIn_seq : OpR X (compareOp .NotIn) (rIn X.K true) := by
  intro pins s σ H x y v u Q I rx ry h
  obtain ⟨p, xs, rfl, hq, fx, fs, q⟩ := h
  cases ry
  rcases hq with hq | hq
  · obtain ⟨its, r, pl, hz⟩ := I.list hq
    refine SeqAt.notIn_listAt (eqU x) pl.isList (fun w hw => mem_eqAt rx fx r fs w (by simpa using hw)) ⟨.bl _, H, I, rfl, ?_⟩
    rw [show its.toArray.any (eqU x) = its.any (eqU x) by simp, any_eqU r fs]
    exact q
  · obtain ⟨its, r, pl, hz⟩ := I.tuple hq
    refine SeqAt.notIn_tupleAt (eqU x) pl (fun w hw => mem_eqAt rx fx r fs w (by simpa using hw)) ⟨.bl _, H, I, rfl, ?_⟩
    rw [show its.toArray.any (eqU x) = its.any (eqU x) by simp, any_eqU r fs]
    exact q
theorem op_notIn_str : OpR X (compareOp .NotIn) (fun x y H Q => ∃ i j, x = .str i ∧ y = .str j ∧ Q (.bl (!(!(Builtin.Str.occurrences j i 0 j.length 1).isEmpty))) H) := by
  intro pins s σ H x y v u Q I rx ry h
  obtain ⟨i, j, rfl, rfl, q⟩ := h
  obtain ⟨t, rfl⟩ := rx
  obtain ⟨t', rfl⟩ := ry
  exact notIn_str ⟨.bl _, H, I, rfl, q⟩
theorem CallR.or {f : Value} {r r' : List V → Hp → VK → Prop} (h : CallR X f r) (h' : CallR X f r') : CallR X f (fun xs H Q => r xs H Q ∨ r' xs H Q) := by
  intro pins s σ H xs us Q I rs q
  rcases q with q | q
  · exact h pins s σ H xs us Q I rs q
  · exact h' pins s σ H xs us Q I rs q
theorem call_list_of : CallR X (.type "list") (fun xs H Q => ∃ p ys, xs = [.ref p] ∧ (SqL X.K H p ys ∨ SqT X.K H p ys) ∧ ∀ l, H l = none → Q (.ref l) (upd H l (.lst ys))) := by
  intro pins s σ H xs us Q I r h
  obtain ⟨p, ys, rfl, hq, q⟩ := h
  obtain ⟨u, rfl, rx⟩ := vals1 r
  cases rx
  have fin : ∀ (its : List Value), Vals ys its → ys.length ≤ sizeLine → ∀ (h' : Heap) (c' : Nat), (∀ b o', s.heap.get? b = some o' → h'.get? b = some o') →
      h'.get? s.heap.objs.size = some { cls := .type "list", dict := none, data := .seq its.toArray c', slots := #[] } → EP X pins σ Q (.ref s.heap.objs.size) { s with heap := h' } := fun its r' hz h' c' kp e =>
    ⟨.ref s.heap.objs.size, _, I.laid (t' := s.toks) kp (Nat.le_refl _) (show ObjOk X.prog X.w _ h' _ (.lst ys) from ⟨hz, its, c', r', e⟩), rfl, q _ (I.hok.fresh (Nat.le_refl _))⟩
  rcases hq with hq | hq
  · obtain ⟨its, r', pl, hz⟩ := I.list hq
    have hlen := r'.length
    obtain ⟨o, ho, hc, n, hd⟩ := pl.isList
    exact call_list_seq p (.inl rfl) ho hc hd (fun h' c' kp e => fin its r' hz h' c' kp e) (by simp only [List.size_toArray] <;> omega)
  · obtain ⟨its, r', pl, hz⟩ := I.tuple hq
    have hlen := r'.length
    obtain ⟨o, ho, hc, n, hd⟩ := pl
    exact call_list_seq p (.inr rfl) ho hc hd (fun h' c' kp e => fin its r' hz h' c' kp e) (by simp only [List.size_toArray] <;> omega)
theorem call_tuple_of : CallR X (.type "tuple") (fun xs H Q => ∃ p ys, xs = [.ref p] ∧ ((SqL X.K H p ys ∧ ∀ l, H l = none → Q (.ref l) (upd H l (.tup ys))) ∨ (SqT X.K H p ys ∧ Q (.ref p) H))) := by
  intro pins s σ H xs us Q I r h
  obtain ⟨p, ys, rfl, h⟩ := h
  obtain ⟨u, rfl, rx⟩ := vals1 r
  cases rx
  rcases h with ⟨hq, q⟩ | ⟨hq, q⟩
  · obtain ⟨its, r', pl, hz⟩ := I.list hq
    have hlen := r'.length
    refine call_tuple_list pl.isList (fun h' kp => ?_) (by simp only [List.size_toArray] <;> omega)
    have I1 : Inv X pins σ H { s with heap := h' } := I.kept (t' := s.toks) kp
    have I2 : Inv X pins σ (upd H h'.objs.size (.tup ys)) { s with heap := h'.push { cls := .type "tuple", data := .seq its.toArray } } :=
      I1.laid (t' := s.toks) (fun b o e => Heap.get?_push_of_some _ e) (Nat.le_refl _) (show ObjOk X.prog X.w _ _ _ (.tup ys) from ⟨hz, its, r', IsTup.new _ _⟩)
    exact ⟨.ref h'.objs.size, _, I2, rfl, q _ (I1.hok.fresh (Nat.le_refl _))⟩
  · obtain ⟨its, r', pl, hz⟩ := I.tuple hq
    exact call_tuple_same pl ⟨.ref p, H, I, rfl, q⟩
def tyV (K : PySem.W.Frag) (T : String) (x : V) (H : Hp) : Prop := match x with
  | .str _ => T = "str"
  | .int _ => T = "int"
  | .ref p => (T = "list" ∧ ∃ xs, SqL K H p xs) ∨ (T = "tuple" ∧ ∃ o, K.lookup p = some o ∧ o.cls = .type "tuple" ∧ o.dict = none) ∨
      (T = "dict" ∧ ((∃ kvs, H p = some (.dK kvs)) ∨ ∃ kvs, H p = some (.dT kvs))) ∨ (T = "set" ∧ ∃ S n, H p = some (.set S n))
  | _ => False
theorem tyV_is {pins : List (Addr × Obj)} {σ : St} {H : Hp} {s : Shared} {T : String} {x : V} {v : Value} (I : Inv X pins σ H s) (r : RelV x v) (ty : tyV X.K T x H) :
    s.TypeIs v T ∧ ∀ a, v = .ref a → ∃ ob, s.heap.get? a = some ob ∧ ob.dict = none := by
  cases x with
  | str z =>
    obtain ⟨t, rfl⟩ := r
    cases (show T = "str" from ty)
    exact ⟨typeIs_str s z t, fun _ e => nomatch e⟩
  | int i =>
    obtain ⟨t, rfl⟩ := r
    cases (show T = "int" from ty)
    exact ⟨typeIs_int s i t, fun _ e => nomatch e⟩
  | ref p =>
    cases r
    rcases ty with ⟨rfl, xs, hq⟩ | ⟨rfl, o, hk, hc, hd⟩ | ⟨rfl, hk⟩ | ⟨rfl, S, n, hk⟩
    · obtain ⟨its, _, pl, _⟩ := I.list hq
      refine ⟨pl.isList.typeIs, fun a e => ?_⟩
      cases e
      obtain ⟨o, n, e, c, hd, _⟩ := pl
      exact ⟨o, e, hd⟩
    · refine ⟨⟨o, I.kIn p o hk, hc⟩, fun a e => ?_⟩
      cases e
      exact ⟨o, I.kIn _ o hk, hd⟩
    · have z : ∃ o, s.heap.get? p = some o ∧ o.ExactDict := by
        rcases hk with ⟨kvs, hk⟩ | ⟨kvs, hk⟩
        · obtain ⟨_, _, _, _, o, _, _, e, ex, _⟩ := I.hok p _ hk
          exact ⟨o, e, ex⟩
        · obtain ⟨_, _, _, _, o, _, _, e, ex, _⟩ := I.hok p _ hk
          exact ⟨o, e, ex⟩
      obtain ⟨o, e, ex⟩ := z
      refine ⟨⟨o, e, ex.1⟩, fun a e2 => ?_⟩
      cases e2
      exact ⟨o, e, ex.2.1⟩
    · obtain ⟨o, _, _, _, e, ex, _⟩ := I.hok p _ hk
      refine ⟨⟨o, e, ex.1⟩, fun a e2 => ?_⟩
      cases e2
      exact ⟨o, e, ex.2.1⟩
  | _ => exact False.elim ty
def tBM (K : PySem.W.Frag) (T : String) (r : V → List V → Hp → VK → Prop) (to : TE) (t : TA) : TE := fun σ H Q => to σ H fun x H1 => tyV K T x H1 ∧ t σ H1 fun xs H2 => r x xs H2 Q
variable {o e : Expr} {es : List Expr} {to : TE} {t : TA} {name : Str} {apos cpos : Pos} {T id : String} {r : V → List V → Hp → VK → Prop}
theorem pe_bm (pa : PlainAttrs T) (slot : Slot T name id) (hty : typeOf (.builtin id) = pure (.type "method_descriptor")) (hm : MtR X id r) (ho : PE X o to) (ha : PA X (e :: es) t)
    (hbase : attributeBase o name X.env (eval o X.env) = eval o X.env := by rfl)
    (hfew : ((backTo cpos (starEach (e :: es) X.env)).all (fun x => !x.1) && (backToKw cpos (keywordEach [] X.env)).all (fun x => x.1.isSome)
      && decide ((e :: es).length + ([] : List Keyword).length + (if ([] : List Keyword).isEmpty then 0 else 1) < 30)) = true := by rfl)
    (hline : (apos.endLine == cpos.line) = true := by rfl) (hs : starEach (e :: es) X.env = (false, eval e X.env) :: starEach es X.env := by rfl) (hplain : (backTo cpos (starEach es X.env)).any (·.1) = false := by rfl) :
    PE X (.Call (.Attribute o name apos) (e :: es) [] cpos) (tBM X.K T r to t) := by
  intro pins s σ H Q I h
  refine wpAny_Call_method_late hbase hfew hline rfl (thn (ho pins s σ H _ I h) fun v s1 ⟨x, H1, I1, r1, ty, q1⟩ => ?_)
  obtain ⟨h1, h2⟩ := tyV_is I1 r1 ty
  refine ⟨T, id, pa, slot, hty, h1, h2, ?_⟩
  have hA := ha cpos pins s1 σ H1 _ I1 q1
  rw [hs] at hA ⊢
  refine Calls.callWith_builtin (by show (false || (backTo cpos (starEach es X.env)).any (·.1)) = false; rw [hplain] <;> rfl) (Calls.evalArgs_plain ?_)
  exact thn hA fun us s2 ⟨vs, H2, I2, r2, q2⟩ => hm pins s2 σ H2 x vs v us Q I2 r1 r2 q2
end
end L2
namespace L2
open PySem PySem.Spec PyProof.Rows
def MtM (X : Cx) (id : String) (r : V → List V → Hp → VK → Prop) : Prop :=
  ∀ (pins : List (Addr × Obj)) (s : Shared) (σ : St) (H : Hp) (x : V) (xs : List V) (v : Value) (us : List Value) (Q : VK), Inv X pins σ H s → RelV x v → Vals xs us → r x xs H Q →
    wpAny (model X.prog X.w) X.A (call (.builtin id) (v :: us)) (EP X pins σ Q) X.xe s
theorem Vals.one : ∀ {x : V} {us : List Value}, Vals [x] us → ∃ u, us = [u] ∧ RelV x u
  | _, _, .cons r .nil => ⟨_, rfl, r⟩
theorem Vals.two : ∀ {x y : V} {us : List Value}, Vals [x, y] us → ∃ u v, us = [u, v] ∧ RelV x u ∧ RelV y v
  | _, _, _, .cons r (.cons q .nil) => ⟨_, _, rfl, r, q⟩
theorem Vals.zero : ∀ {us : List Value}, Vals [] us → us = []
  | _, .nil => rfl
theorem Vals.dropLast {xs : List V} {us : List Value} (h : Vals xs us) : Vals xs.dropLast us.dropLast := by
  induction h with
  | nil => exact .nil
  | cons r t ih =>
    cases t with
    | nil => exact .nil
    | cons q t' => exact .cons r ih
theorem Vals.reverse {xs : List V} {us : List Value} (h : Vals xs us) : Vals xs.reverse us.reverse := by
  induction h with
  | nil => exact .nil
  | cons r t ih => rw [List.reverse_cons, List.reverse_cons]; exact Vals.append ih (.cons r .nil)
theorem Vals.rep {xs : List V} {us : List Value} (h : Vals xs us) : ∀ k : Nat, Vals (List.replicate k xs).flatten (List.replicate k us).flatten
  | 0 => .nil
  | k + 1 => by
    rw [List.replicate_succ, List.replicate_succ, List.flatten_cons, List.flatten_cons]
    exact Vals.append h (Vals.rep h k)
theorem foldl_rep (its : List Value) : ∀ (k : Nat) (acc : List Value),
    List.foldl (fun x1 x2 => x1 ++ x2) acc.toArray (List.replicate k its.toArray) = (acc ++ (List.replicate k its).flatten).toArray
  | 0, acc => by simp
  | k + 1, acc => by
    have e : acc.toArray ++ its.toArray = (acc ++ its).toArray := by simp
    have e2 : (acc ++ its) ++ (List.replicate k its).flatten = acc ++ (List.replicate (k + 1) its).flatten := by
      rw [List.replicate_succ, List.flatten_cons, List.append_assoc]
    rw [← e2, ← foldl_rep its k (acc ++ its), ← e, List.replicate_succ, List.foldl_cons]
section
variable {X : Cx} {pins : List (Addr × Obj)} {σ : St} {H : Hp} {s : Shared} {l b : Addr} {xs ys zs : List V}
theorem Inv.lset {its its' : List Value} {n : Nat} {f : Array Value → Array Value} {t' : Nat} (I : Inv X pins σ H s) (hH : H l = some (.lst xs))
    (e : s.heap.get? l = some { cls := .type "list", data := .seq its.toArray n }) (hf : f its.toArray = its'.toArray) (hv : Vals ys its') (hz : ys.length ≤ sizeLine) :
    Inv X pins σ (upd H l (.lst ys)) { s with heap := s.heap.update l (Obj.mapSeq f), toks := t' } := by
  have q := PySem.IsL.update e f
  rw [hf] at q
  refine I.write (x := l) (e := l) (by rw [hH]; exact trivial) (.inl rfl) (fun b' u hb hu => (Heap.get?_update_other s.heap (Obj.mapSeq f) (Ne.symm hb)).trans hu) ⟨_, q⟩ ?_
  exact ⟨hz, its', _, hv, q⟩
theorem Inv.lnew {its : List Value} {t' : Nat} (I : Inv X pins σ H s) (hv : Vals ys its) (hz : ys.length ≤ sizeLine) :
    Inv X pins σ (upd H s.heap.objs.size (.lst ys)) { s with heap := s.heap.push { cls := .type "list", data := .seq its.toArray }, toks := t' } :=
  I.laid (fun _ _ q => Heap.get?_push_of_some _ q) (Nat.le_refl _) ⟨hz, its, 0, hv, Heap.get?_push_size _ rfl⟩
theorem Inv.fresh (I : Inv X pins σ H s) : H s.heap.objs.size = none := I.hok.fresh (Nat.le_refl _)
theorem Inv.lstM (I : Inv X pins σ H s) (hH : H l = some (.lst xs)) : xs.length ≤ sizeLine ∧ ∃ (its : List Value) (n : Nat), Vals xs its ∧ xs.length = its.length ∧ s.heap.get? l = some { cls := .type "list", data := .seq its.toArray n } := by
  obtain ⟨z, its, n, r, e⟩ := I.hok l _ hH
  exact ⟨z, its, n, r, r.length, e⟩
theorem notLongL {n : Nat} (h : n ≤ sizeLine) : Builtin.List.listTooLong n = false := by
  unfold Builtin.List.listTooLong
  exact decide_eq_false (by omega)
end
section
variable {X : Cx}
def rAppend : V → List V → Hp → VK → Prop := fun x vs H Q => ∃ l xs y, x = .ref l ∧ vs = [y] ∧ H l = some (.lst xs) ∧ xs.length < sizeLine ∧ Q .non (upd H l (.lst (xs ++ [y])))
theorem mt_append : MtM X "list.append" rAppend := by
  intro pins s σ H x vs v us Q I rx rv h
  obtain ⟨l, xs, y, rfl, rfl, hH, hz, q⟩ := h
  cases rx
  obtain ⟨u, rfl, ru⟩ := rv.one
  obtain ⟨z, its, n, r, hl, e⟩ := I.lstM hH
  refine call_meets F.slot_list_append ⟨_, e, rfl⟩ F.entry_list_append (F.args_list_append_2 _ _) (PySem.list_append l its.toArray n u (by rw [List.size_toArray]; omega)) ⟨e, ?_⟩
  refine ⟨.non, _, I.lset (its' := its ++ [u]) hH e (by simp) (r.append (.cons ru .nil)) ?_, rfl, q⟩
  rw [List.length_append, List.length_singleton]
  omega
def rExtend : V → List V → Hp → VK → Prop := fun x vs H Q => ∃ l b xs zs, x = .ref l ∧ vs = [.ref b] ∧ H l = some (.lst xs) ∧ H b = some (.lst zs) ∧ xs.length + zs.length ≤ sizeLine ∧ Q .non (upd H l (.lst (xs ++ zs)))
theorem mt_extend : MtM X "list.extend" rExtend := by
  intro pins s σ H x vs v us Q I rx rv h
  obtain ⟨l, b, xs, zs, rfl, rfl, hH, hB, hz, q⟩ := h
  cases rx
  obtain ⟨u, rfl, ru⟩ := rv.one
  cases ru
  obtain ⟨z, its, n, r, hl, e⟩ := I.lstM hH
  obtain ⟨z2, its2, n2, r2, hl2, e2⟩ := I.lstM hB
  have hsz : its.toArray.size + its2.toArray.size ≤ sizeLine := by rw [List.size_toArray, List.size_toArray]; omega
  have hlong : ¬ (!its.toArray.isEmpty && Builtin.List.listTooLong (its.toArray.size + its2.toArray.size)) = true := by
    rw [notLongL hsz, Bool.and_false]
    exact Bool.false_ne_true
  refine call_meets F.slot_list_extend ⟨_, e, rfl⟩ F.entry_list_extend (F.args_list_extend_2 _ _)
    (AutoSeq1.list_extend_list_list_0 l its.toArray n b its2.toArray n2 hlong (by rw [List.size_toArray]; omega) (by omega)) ⟨e, e2, ?_⟩
  refine ⟨.non, _, I.lset (its' := its ++ its2) hH e (by simp) (r.append r2) ?_, rfl, q⟩
  rw [List.length_append]
  omega
def rCat : R2 := fun x y H Q => ∃ l b xs zs, x = .ref l ∧ y = .ref b ∧ H l = some (.lst xs) ∧ H b = some (.lst zs) ∧ xs.length + zs.length ≤ sizeLine ∧ ∀ p, H p = none → Q (.ref p) (upd H p (.lst (xs ++ zs)))
theorem op_cat : OpR X (binaryOp .Add) rCat := by
  intro pins s σ H x y v u Q I rx ry h
  obtain ⟨l, b, xs, zs, rfl, rfl, hH, hB, hz, q⟩ := h
  cases rx
  cases ry
  obtain ⟨z, its, n, r, hl, e⟩ := I.lstM hH
  obtain ⟨z2, its2, n2, r2, hl2, e2⟩ := I.lstM hB
  refine PySem.P.add_list e e2 ?_ (by rw [List.size_toArray, List.size_toArray]; omega)
  have ea : its.toArray ++ its2.toArray = (its ++ its2).toArray := by simp
  rw [ea]
  exact ⟨.ref _, _, I.lnew (t' := s.toks) (r.append r2) (by rw [List.length_append]; omega), rfl, q _ I.fresh⟩
def rRep : R2 := fun x y H Q => ∃ l k xs, x = .ref l ∧ y = .int k ∧ H l = some (.lst xs) ∧ -(2 ^ 63) ≤ k ∧ k < 2 ^ 63 ∧ xs.length * k.toNat ≤ sizeLine ∧
  ∀ p, H p = none → Q (.ref p) (upd H p (.lst (List.replicate k.toNat xs).flatten))
theorem len_rep {α : Type} (xs : List α) (k : Nat) : (List.replicate k xs).flatten.length = k * xs.length := by
  induction k with
  | zero => simp
  | succ k ih => rw [List.replicate_succ, List.flatten_cons, List.length_append, ih, Nat.succ_mul, Nat.add_comm]
theorem op_rep : OpR X (binaryOp .Mult) rRep := by
  intro pins s σ H x y v u Q I rx ry h
  obtain ⟨l, k, xs, rfl, rfl, hH, h1, h2, hz, q⟩ := h
  cases rx
  obtain ⟨t, rfl⟩ := ry
  obtain ⟨z, its, n, r, hl, e⟩ := I.lstM hH
  have hlen : its.toArray.size * k.toNat ≤ sizeLine := by rw [List.size_toArray, ← hl]; exact hz
  have hcap : ¬ its.toArray.size * k.toNat > (2 ^ 63 - 1) / 8 := by
    have : (sizeLine : Nat) ≤ (2 ^ 63 - 1) / 8 := by decide
    omega
  have hfit : ¬ (!Builtin.List.listFitsIndex k) = true := by
    rw [fitsIndex_both h1 h2]
    exact Bool.false_ne_true
  have hlong : ¬ Builtin.List.listTooLong (its.toArray.size * k.toNat) = true := by
    rw [notLongL hlen]
    exact Bool.false_ne_true
  have hnew : List.foldl (fun x1 x2 => x1 ++ x2) #[] (List.replicate (if its.toArray.isEmpty = true then 0 else k.toNat) its.toArray) = (List.replicate k.toNat its).flatten.toArray := by
    have f0 : ∀ m : Nat, List.foldl (fun x1 x2 => x1 ++ x2) #[] (List.replicate m its.toArray) = (List.replicate m its).flatten.toArray := fun m => by
      have := foldl_rep its m []
      rw [List.nil_append] at this
      exact this
    rw [f0]
    cases its with
    | nil => simp
    | cons a r' => rw [if_neg (by simp)]
  refine wpAny_binaryOp_repeat_ref (T := "list") (U := "int") (by decide) ⟨_, e, rfl⟩ (fun s' => typeIs_int s' k t) noFill_list_mul F.fills_int_mul F.slot_int_rmul repeat_list F.slot_int_index.lookup
    (call_meets F.slot_int_rmul (typeIs_int s k t) F.entry_int_rmul (F.args_int_rmul_2 _ _) (int___rmul___int_list k t l its.toArray n)
      ⟨e, rfl, ⟨_, e, rfl⟩, call_meets F.slot_list_mul ⟨_, e, rfl⟩ F.entry_list_mul (F.args_list_mul_2 _ _) (AutoListH.list___mul___list_int_3 l its.toArray n k t hfit hcap hlong) ⟨e, ?_⟩⟩)
  rw [hnew]
  exact ⟨.ref _, _, I.lnew (t' := s.toks) (r.rep k.toNat) (by rw [len_rep, Nat.mul_comm]; exact hz), rfl, q _ I.fresh⟩
end
section
variable {prog : Program} {w : World} {A : Around} {E : Value → Shared → Prop} {s : Shared}
end
section
variable {X : Cx}
end
end L2
namespace Att
open PySem PySem.W PySem.Calls PyProof.Rows
theorem ints_of_wellAll {P : Params} {h : Heap} : ∀ (ns : List Int) (vs : List Value), WellAll P h vs (ns.map WData.int) → IntsAre vs ns := by
  intro ns
  induction ns with
  | nil =>
    intro vs w
    rw [List.map_nil] at w
    cases w
    exact .nil
  | cons n ns ih =>
    intro vs w
    rw [List.map_cons] at w
    cases w with
    | cons a b =>
      cases a
      exact .cons _ _ (ih _ b)
theorem script_of {l : OpenLaw} {n : Nat} (hn : l.most = some n) {P : Params} {h : Heap} {args : List WData} {vals : List Value}
    (hpre : l.row.toRowW.claim.pre args = true) (hwl : WellAll P h vals args) :
    ∃ a vs ns, vals = [Value.ref a] ∧ args = [WData.list (ns.map WData.int)] ∧ h.get? a = some { cls := .type "list", data := .seq vs.toArray } ∧ IntsAre vs ns ∧ ns.length ≤ n := by
  have hsh : WShape.hasAll [] args [.list .int] = true := (pre_splitW hpre).1
  have hc : l.pre.holds [] { args := args } = true := (pre_splitW hpre).2
  obtain ⟨d, r, rfl, h1, h2⟩ := hasAllW_cons hsh
  obtain rfl := hasAllW_nil h2
  obtain ⟨xs, rfl, h3⟩ := hasW_list h1
  obtain ⟨ns, rfl⟩ := items_int h3
  have hlen : ns.length ≤ n := by
    unfold OpenLaw.pre at hc
    have h4 : (WTm.not (.lt (.lit (.int (n : Int))) (.len (.arg 0)))).holds [] { args := [.list (ns.map .int)] } = true := by
      have h4 := (holds_andW hc).1
      rw [hn] at h4
      exact h4
    have h5 := condW_of h4 (w_not (w_lt w_lit (w_len_list (w_arg rfl))))
    rw [List.length_map] at h5
    refine Nat.le_of_not_lt fun q => ?_
    have q' : (n : Int) < ((ns.length : Nat) : Int) := by omega
    first
      | (rw [decide_eq_true q'] at h5; exact absurd h5 (by decide))
      | (simp at h5; omega)
  cases hwl with
  | cons w1 w2 =>
    cases w2
    cases w1 with
    | list ho hall => exact ⟨_, _, ns, rfl, rfl, ho, ints_of_wellAll ns _ hall, hlen⟩
theorem post_true (l : OpenLaw) (args : List WData) : l.row.toRowW.claim.post args (.bool true) args = true :=
  postW_of (r := l.row.toRowW) (X := (true == true))
    (show WShape.has [] (.bool true) .bool = true by first | rfl | decide | simp [WShape.has, WShape.arms, WShape.armsAll])
    (show (WTm.eq .res (.lit (.bool true))).value [] { args := args, res := some (.bool true), after := args } = some (.bool (true == true)) from w_eq_bool (w_res rfl) w_lit) rfl
theorem attach_call {l : OpenLaw} {n : Nat} {q : Program} {loose : List Str} {XP : (Str → Option Value) → Heap → Prop} {YP : World → Heap → Prop} {d : DefRec}
    (hn : l.most = some n) (hdf : d.params.defaults = [])
    (call : ∀ (w : World) (s₀ s₁ : Shared) (mg mb : Str → Option Value) (fa : Addr) (o : Obj) (pm cd doc : Value) (a : Addr) (vs : List Value) (ns : List Int),
      Ground q loose [] XP w s₀ mg mb s₁.heap → YP w s₁.heap →
      s₁.heap.get? fa = some o → o.data = .func (docDef d.name d.params d.body d.scope pm cd doc) → s₁.heap.CodeRec cd d.name → mg d.name = some (.ref fa) →
      s₁.heap.get? a = some { cls := .type "list", data := .seq vs.toArray } → IntsAre vs ns → ns.length ≤ n → s₁.gens = #[] →
      codeAny (model l.prog w) callerA (.call (.ref fa) ⟨[.ref a], []⟩) (fun r s' => r = .ok (.ret (.bool true)) ∧ OldK s₁.heap s'.heap ∧ s'.os = s₁.os ∧ AllBare s'.gens) s₁) :
    WalkO q loose XP YP l.row.toRowW d [] (fun f vs => PySem.call f vs) := by
  intro w s₀ s₁ mg mb G Y fa o pm cd doc dV kV ho hd hcd hD hmg hg args vals as hpre hlay hrd hwl hlo
  obtain rfl : dV = .none := Dflts.none hD hdf
  obtain rfl : kV = .none := Dflts.noKw hD
  obtain ⟨a, vs, ns, rfl, rfl, hobj, hints, hlen⟩ := script_of hn hpre hwl
  refine enter_call (codeAny_mono (call w s₀ s₁ mg mb fa o pm cd doc a vs ns G Y ho (fd_plain hd) hcd hmg hobj hints hlen hg) fun r s' hq => ?_)
  obtain ⟨rfl, h2, h3, h4⟩ := hq
  exact ⟨.inl ⟨.bool true, .bool true, [], rfl, fun _ => rfl, .bool true, post_true l _, fun _ => ⟨List.Pairwise.nil, fun _ hm => (nomatch hm)⟩⟩, h2, h3, h4⟩
section
variable {prog : Program} {w : World} {A : Around} {E : Value → Shared → Prop} {s : Shared} {K : Frag}
def ledger (h : Heap) (L d : Addr) : List (Addr × Obj) := (List.range h.objs.size).filterMap fun a => if a = L ∨ a = d then none else (h.get? a).map fun o => (a, o)
end
end Att
namespace L2
open PySem PySem.Spec PyProof.Rows
theorem vals_ints : ∀ {vs : List Value} {ns : List Int}, IntsAre vs ns → Vals (ns.map V.int) vs
  | _, _, .nil => .nil
  | _, _, .cons n t h => .cons ⟨t, rfl⟩ (vals_ints h)
def Only (H : Hp) : Prop := ∀ b, H b = none ∨ ∃ o xs, H b = some (.frz o (.lst xs))
theorem law_call {P : Program} {w : World} {K : PySem.W.Frag} {mg mb : Str → Option Value} {CX : CXT} {k : Nat} {fa a : Addr} {fd : FuncData} {x : Str} {sp : Sp} {s₁ : Shared} {vs : List Value} {ns : List Int}
    (KX : K.In s₁.heap) (hns : s₁.heap.Ns mainGlobals mg) (hb : s₁.heap.Ns builtinsNs mb) (hbb : ∀ x : Str, x ≠ "__name__" → mb x = bootBuiltins x) (hlim : s₁.heap.NoLimit) (hg : s₁.gens = #[])
    (ha : s₁.heap.get? a = some { cls := .type "list", data := .seq vs.toArray }) (hi : IntsAre vs ns) (hl : ns.length ≤ sizeLine) (hr : Room k callerA)
    (F : ∀ base : Heap, K.In base → base.Ns mainGlobals mg → FnOk P w K mg base CX k fa fd [x] sp) (hbind : ∀ (s : Shared) (u : Value), BindsTo s fd ⟨[u], []⟩ [(x, u)])
    (hsp : ∀ H : Hp, Only H → SqL K H a (ns.map V.int) → sp [.ref a] H (fun v _ => v = .bl true) fun _ _ _ => False)
    (hCX : ∀ H e s', CX [] H s₁ (fun _ _ _ => False) e s' → False) :
    codeAny (model P w) callerA (.call (.ref fa) ⟨[.ref a], []⟩) (fun r s' => r = .ok (.ret (.bool true)) ∧ OldK s₁.heap s'.heap ∧ s'.os = s₁.os ∧ AllBare s'.gens) s₁ := by
  have rv := vals_ints hi
  have lenV := hi.length
  have core : ∀ H : Hp, Only H → SqL K H a (ns.map V.int) → HOk P w H s₁.heap → (∀ b, H b ≠ none → b = a) → (H a ≠ none → K.lookup a = none) →
      codeAny (model P w) callerA (.call (.ref fa) ⟨[.ref a], []⟩) (fun r s' => r = .ok (.ret (.bool true)) ∧ OldK s₁.heap s'.heap ∧ s'.os = s₁.os ∧ AllBare s'.gens) s₁ := by
    intro H hO hS hok hA hK
    have base_of : ∀ {b : Addr} {o : Obj}, s₁.heap.get? b = some o → H b = none → (hidT s₁.heap H).get? b = some o := fun e n => hidT_get e n
    have noA : ∀ {b : Addr} {o : Obj} {es : Array DictEntry} {ep : Nat}, s₁.heap.get? b = some o → o.data = .dict es ep → H b = none := fun {b o es ep} e d => by
      cases q : H b with
      | none => rfl
      | some u =>
        have e' : b = a := hA b (by rw [q]; simp)
        subst e'
        rw [ha] at e; cases e
        have d' : Data.seq vs.toArray _ = Data.dict es ep := d
        cases d'
    have nsK : ∀ {b : Addr} {m : Str → Option Value}, s₁.heap.Ns b m → (hidT s₁.heap H).Ns b m := fun {b m} ⟨o, es, ep, e, d, r⟩ => ⟨o, es, ep, base_of e (noA e d), d, r⟩
    have hKb : K.In (hidT s₁.heap H) := fun b o e => base_of (KX b o e) (by
      cases q : H b with
      | none => rfl
      | some u =>
        have e' : b = a := hA b (by rw [q]; simp)
        subst e'
        rw [hK (by rw [q]; simp)] at e; cases e)
    have hM : Mod K mg (hidT s₁.heap H) := ⟨hKb, nsK hns, ⟨mb, nsK hb, hbb⟩, let ⟨mc, h1, h2⟩ := hlim; ⟨mc, nsK h1, h2⟩⟩
    have e0 : Env0 P w K mg (hidT s₁.heap H) callerA [] s₁ H := ⟨rfl, hM, fun b o e => of_hidT e, Nat.le_of_eq (hidT_size _ _), trivial, fun b hb => absurd (show b ∈ ([] : List Addr) from hb) (by simp), hok, .of_eq hg⟩
    refine codeAny_mono ((F _ hKb (nsK hns)).run callerA [] s₁ H ⟨[.ref a], []⟩ [.ref a] [.ref a] _ _ hr e0 (hbind s₁ (.ref a)) (.cons rfl .nil) (hsp H hO hS)) fun r s' h => ?_
    cases r with
    | error e => exact (hCX H e s' h).elim
    | ok fl =>
      cases fl with
      | next => exact False.elim h
      | brk => exact False.elim h
      | cont => exact False.elim h
      | ret u =>
        obtain ⟨v, H', os, bare, un, hok', r', q⟩ := h
        have q' : v = .bl true := q
        subst q'
        obtain rfl : u = Value.bool true := r'
        refine ⟨rfl, OldK.of_keep fun b o e => ?_, os, bare⟩
        cases q : H b with
        | none => exact un.keep b o e q (by intro z; exact absurd (show b ∈ ([] : List Addr) from z) (by simp)) (by simp)
        | some u =>
          rcases hO b with z | ⟨ob, xs, z⟩
          · rw [q] at z; cases z
          · have z2 := un.frzs b ob _ z
            obtain ⟨e1, _⟩ := hok b _ z
            obtain ⟨e2, _⟩ := hok' b _ z2
            rw [e] at e1; cases e1
            exact e2
  cases hk : K.lookup a with
  | some o =>
    have e := KX a o hk
    rw [ha] at e
    cases e
    refine core (fun _ => none) (fun _ => .inl rfl) (.inr ⟨_, vs.toArray, _, hk, rfl, rfl, rfl, by rw [List.size_toArray, lenV]; exact hl, by simpa using rv⟩) (fun b u z => by have z' : (none : Option HO) = some u := z; cases z') (fun b z => absurd rfl z) fun z => absurd rfl z
  | none =>
    refine core (fun b => if b = a then some (.frz { cls := .type "list", data := .seq vs.toArray } (.lst (ns.map V.int))) else none) (fun b => ?_) (.inl (.inr ⟨{ cls := .type "list", data := .seq vs.toArray }, if_pos rfl⟩)) (fun b u z => ?_) (fun b z => ?_) fun _ => hk
    · by_cases hb : b = a
      · exact .inr ⟨_, _, if_pos hb⟩
      · exact .inl (if_neg hb)
    · by_cases hb : b = a
      · have z' := (if_pos hb).symm.trans z
        cases z'
        subst hb
        exact ⟨ha, by rw [List.length_map]; exact hl, vs, _, rv, ha⟩
      · have z' := (if_neg hb).symm.trans z
        cases z'
    · by_cases hb : b = a
      · exact hb
      · exact absurd (if_neg hb) z
end L2
namespace L2
open PySem PySem.Spec PyProof.Rows
abbrev KOf {K : PySem.W.Frag} {h : Heap} (_ : K.In h) : PySem.W.Frag := K
theorem walk_of {l : PySem.W.OpenLaw} {n k : Nat} {q : Program} {loose : List Str} {XP : (Str → Option Value) → Heap → Prop} {YP : World → Heap → Prop} {d : DefRec} {K : Params → PySem.W.Frag} {CX : World → CXT} {sp : World → Sp} {x : Str}
    (hn : l.most = some n) (hn2 : n ≤ sizeLine) (hdf : d.params.defaults = []) (hr : Room k callerA)
    (hY : ∀ (w : World) (h : Heap), YP w h → (K w.params).In h)
    (F : ∀ (w : World) (mg : Str → Option Value) (fa : Addr) (h : Heap), (K w.params).In h → h.Ns mainGlobals mg → mg d.name = some (.ref fa) →
      ∃ fd : FuncData, (∀ (s : Shared) (u : Value), BindsTo s fd ⟨[u], []⟩ [(x, u)]) ∧
        ∀ base : Heap, (K w.params).In base → base.Ns mainGlobals mg → FnOk l.prog w (K w.params) mg base (CX w) k fa fd [x] (sp w))
    (hsp : ∀ (w : World) (H : Hp) (a : Addr) (ns : List Int), ns.length ≤ n → Only H → SqL (K w.params) H a (ns.map V.int) → sp w [.ref a] H (fun v _ => v = .bl true) fun _ _ _ => False)
    (hCX : ∀ (w : World) (H : Hp) (s : Shared) (e : Value) (s' : Shared), CX w [] H s (fun _ _ _ => False) e s' → False) :
    PySem.W.WalkO q loose XP YP l.row.toRowW d [] (fun f vs => PySem.call f vs) := by
  refine Att.attach_call hn hdf fun w s₀ s₁ mg mb fa o pm cd doc a vs ns G Y ho hd hcd hmg hobj hints hlen hg => ?_
  have KX := hY w _ Y
  obtain ⟨fd, hb, hF⟩ := F w mg fa _ KX G.T.g hmg
  exact law_call KX G.T.g G.T.b G.T.builtins G.T.nolimit hg hobj hints (Nat.le_trans hlen hn2) hr hF hb (fun H hO hS => hsp w H a ns hlen hO hS) fun H e s' => hCX w H s₁ e s'
end L2
namespace L2
open PySem PySem.Spec PyProof.Rows
def inClass (s : Stmt) (j : Nat) : Stmt := match s with
  | .ClassDef _ _ _ body _ _ _ _ _ _ _ => body.getD j (.Pass ⟨0, 0, 0, 0⟩)
  | _ => .Pass ⟨0, 0, 0, 0⟩
def defArgs (s : Stmt) : Arguments := match s with
  | .FunctionDef _ a _ _ _ _ _ _ _ _ => a
  | _ => { posonlyargs := [], args := [], vararg := none, kwonlyargs := [], kw_defaults := [], kwarg := none, defaults := [] }
def defBody (s : Stmt) : List Stmt := match s with
  | .FunctionDef _ _ b _ _ _ _ _ _ _ => b
  | _ => []
def defScope (s : Stmt) : Scope := match s with
  | .FunctionDef _ _ _ _ _ _ sc _ _ _ => sc
  | _ => { kind := .function, names := [], isGenerator := false, isCoroutine := false }
abbrev CX0 : CXT := fun _ _ _ _ _ _ => False
abbrev E0 : XK := fun _ _ _ => False
structure Fun (K : PySem.W.Frag) (x qual : Str) (st : Stmt) (f : Addr) (fd : FuncData) : Prop where
  ex : ∃ (oc : Value) (od : Option Addr) (kV doc pm : Value) (an : Option Addr) (cdv ct : Value) (osl : Array (Option Value)),
    fd = PySem.W.fnOf x qual (defArgs st) (defBody st) (defScope st) .none kV doc pm an cdv ct ∧ K.lookup f = some ⟨oc, od, .func fd, osl⟩ ∧ PySem.W.codeIn K cdv qual = true
  kp : PySem.W.keepIn K (.ref f) = true
section
variable {P : Program} {w : World} {K : PySem.W.Frag} {mg : Str → Option Value} {base : Heap}
theorem Fun.ok {x qual : Str} {st : Stmt} {f : Addr} {fd : FuncData} {N ps : List Str} {k : Nat} {sp : Sp} (F : Fun K x qual st f fd) (S : FnScope N ps (defScope st)) (len : ∀ vs H Q E, sp vs H Q E → vs.length = ps.length)
    (hbody : ∀ (cdv : Value) (A : Around) (outer : List Env) (s : Shared) (H : Hp) (vs : List V) (Q : VK) (E : XK), Room k (A.deeper (envOfC qual (defScope st) s.heap.objs.size f cdv)) → sp vs H Q E →
      ∃ t, PSs (cxOf CX0 P w K mg base N qual (defScope st) f cdv A outer s H E).nox (defBody st) t ∧ t { nx := fun _ H' => Q .non H', rt := Q } (start N vs) H) : FnOk P w K mg base CX0 (k + 1) f fd ps sp := by
  obtain ⟨oc, od, kV, doc, pm, an, cdv, ct, osl, rfl, lk, hcd⟩ := F.ex
  refine fn_of lk hcd S len fun A outer s H vs Q E hr hsp => ?_
  obtain ⟨t, h, q⟩ := hbody cdv A outer s H vs Q E hr hsp
  exact ⟨t, h.nox, q⟩
theorem Fun.binds {x qual : Str} {st : Stmt} {f : Addr} {fd : FuncData} {ps : List Str} (F : Fun K x qual st f fd)
    (h : ∀ (kV doc pm : Value) (an : Option Addr) (cdv ct : Value) (us : List Value), us.length = ps.length → bindArgs (PySem.W.fnOf x qual (defArgs st) (defBody st) (defScope st) .none kV doc pm an cdv ct) ⟨us, []⟩ = pure (ps.zip us)) : Binds K fd ps [] := by
  obtain ⟨oc, od, kV, doc, pm, an, cdv, ct, osl, rfl, lk, hcd⟩ := F.ex
  exact .all (h kV doc pm an cdv ct)
theorem fun_mk {x qual : Str} {st : Stmt} {f : Addr} {oc : Value} {od an : Option Addr} {osl : Array (Option Value)} {kV doc pm cdv ct : Value} (l : K.lookup f = some ⟨oc, od, .func (PySem.W.fnOf x qual (defArgs st) (defBody st) (defScope st) .none kV doc pm an cdv ct), osl⟩)
    (c : PySem.W.codeIn K cdv qual = true) (k : PySem.W.keepIn K (.ref f) = true) : Fun K x qual st f (PySem.W.fnOf x qual (defArgs st) (defBody st) (defScope st) .none kV doc pm an cdv ct) := ⟨⟨oc, od, kV, doc, pm, an, cdv, ct, osl, rfl, l, c⟩, k⟩
end
theorem hu_of {A : Around} {k : Nat} (hr : Room k A) : A.units + 1 < cLine := Nat.lt_of_le_of_lt (Nat.add_le_add_left (by decide : 1 ≤ 64) _) hr.units
section
variable {X : Cx}
theorem pv (i : Nat) {x : Str} {pos : Pos} (hN : X.N[i]? = some x := by rfl) (hv : Vis X.env.scope x := by first | exact Or.inl rfl | exact Or.inr (Or.inl rfl) | exact Or.inr (Or.inr rfl)) (hd : (x == ("__debug__" : Str)) = false := by decide)
    (hcd : (x == ("__classdict__" : Str)) = false := by decide) : PE X (.Name x pos) (tVar i) := pe_var hN hv hd hcd
end
theorem iteF {A B : Prop} (h : B) : if false = true then A else B := by
  rw [if_neg Bool.false_ne_true]
  exact h
theorem iteT {A B : Prop} (h : A) : if true = true then A else B := by
  rw [if_pos rfl]
  exact h
theorem ite2 {c A B : Prop} [Decidable c] (h1 : c → A) (h2 : ¬ c → B) : if c then A else B := by
  by_cases h : c
  · rw [if_pos h]
    exact h1 h
  · rw [if_neg h]
    exact h2 h
def Same (H H' : Hp) : Prop := ∀ b o, H b = some o → H' b = some o
theorem Same.refl (H : Hp) : Same H H := fun _ _ h => h
theorem Same.trans {H H1 H2 : Hp} (a : Same H H1) (b : Same H1 H2) : Same H H2 := fun c o h => b c o (a c o h)
theorem Same.free {H H' : Hp} (e : Same H H') {l : Addr} (h : H' l = Option.none) : H l = Option.none := by
  cases q : H l with
  | none => rfl
  | some o =>
    rw [e l o q] at h
    cases h
theorem Same.seq {K : PySem.W.Frag} {H H' : Hp} {a : Addr} {xs : List V} (e : Same H H') (h : SqL K H a xs) : SqL K H' a xs := by
  rcases h with (h | ⟨o, h⟩) | h
  · exact .inl (.inl (e _ _ h))
  · exact .inl (.inr ⟨o, e _ _ h⟩)
  · exact .inr h
end L2
namespace XT
open PySem PySem.W PyProof.Rows PySem.Calls
section
variable {prog : Program} {w : World} {A : Around} {E : Value → Shared → Prop} {h : Heap} {g : Array GenState} {d : Drawn} {t : Nat} {os : OsState} {a : Addr} {o : Obj} {K : Frag} {C : Addr}
theorem lookup_K {M : Model} {n : Str} {y : Option Value} {Q : Option Value → Shared → Prop} (X : K.In h) (e : findIn K (.ref C) n = some y) (hq : Q y ⟨h, g, d, t, os⟩) : wpAny M A (typeLookup (.ref C) n) Q E ⟨h, g, d, t, os⟩ :=
  (looks_findIn (M := M) X e).here hq
theorem sub_K {M : Model} {b : Value} {y : Bool} {Q : Bool → Shared → Prop} (X : K.In h) (e : mroIn K C b = some y) (hq : Q y ⟨h, g, d, t, os⟩) : wpAny M A (isSubtype (.ref C) b) Q E ⟨h, g, d, t, os⟩ :=
  (looks_mroIn (M := M) X e).here hq
structure ExcK (K : Frag) (C : Addr) : Prop where
  ga : findIn K (.ref C) "__getattribute__" = some (some (.builtin "BaseException.__getattribute__"))
  gt : findIn K (.ref C) "__getattr__" = some none
  cl : findIn K (.ref C) "__class__" = some (some (.builtin "object.__class__"))
  ob : mroIn K C (.type "object") = some true
  be : mroIn K C (.type "BaseException") = some true
  cs : (clsIn K C).isSome = true
theorem cls_get (X : K.In h) (Z : ExcK K C) (hx : h.get? a = some o) (hc : o.cls = .ref C) {R : Result → Shared → Prop} (hq : R (.ok (.ret (.ref C))) ⟨h, g, d, t, os⟩) :
    codeAny (model prog w) A (.call (.builtin "getset_descriptor.__get__") ⟨[.builtin "object.__class__", .ref a, .ref C], []⟩) R ⟨h, g, d, t, os⟩ := by
  have hT5 : (⟨h, g, d, t, os⟩ : Shared).TypeIs (.builtin "object.__class__") "getset_descriptor" := F.typeOf_object_class
  refine codeAny_call_builtin F.slot_gs_get.plain F.entry_gs_get (F.slot_gs_get.check _ _ _ _ _ _ _ _ hT5 (F.args_gs_get _ _ _) ?_)
  have hob : mroIn K C (.type (".".intercalate ("object.__class__".cutAt '.').dropLast)) = some true := by rw [F.owner_object_class]; exact Z.ob
  repeat (any_goals (first | assumption | (with_reducible refine wpAny_loadPart_at hx ?_; rw [hc]) | with_reducible refine sub_K X hob ?_ | wp_step))
  refine ⟨Code.quiet_builtin _ (by decide +kernel), codeAny_builtin F.entry_object_class ?_⟩
  unfold Builtin.«object.__class__» shownTypeOf
  repeat (any_goals (first | assumption | (with_reducible refine wpAny_loadPart_at hx ?_; rw [hc]) | wp_step))
theorem cls_entry {tk : Tok} {Q : Fin → Shared → Prop} (X : K.In h) (Z : ExcK K C) (hx : h.get? a = some o) (hc : o.cls = .ref C) (hq : Q (.done (.ret (.ref C))) ⟨h, g, d, t, os⟩) :
    wpAny (model prog w) A (Builtin.«object.__getattribute__» ⟨[.ref a, .str "__class__" tk], []⟩) Q E ⟨h, g, d, t, os⟩ := by
  have hT5 : (⟨h, g, d, t, os⟩ : Shared).TypeIs (.builtin "object.__class__") "getset_descriptor" := F.typeOf_object_class
  have f5 := F.typeOf_object_class
  have f6 := F.slot_gs_get.lookup
  have f7 := F.slot_gs_set.lookup
  repeat (any_goals (first | assumption | (with_reducible refine wpAny_loadPart_at hx ?_; rw [hc]) | with_reducible refine lookup_K X Z.cl ?_ | wp_step))
  refine cls_get X Z hx hc ?_
  repeat (any_goals (first | assumption | wp_step))
theorem cls_check {M : Model} {nameV : Value} {Q : Unit → Shared → Prop} (X : K.In h) (Z : ExcK K C) (hx : h.get? a = some o) (hc : o.cls = .ref C) (hq : Q () ⟨h, g, d, t, os⟩) :
    wpAny M A (checkBuiltinCall "BaseException.__getattribute__" ⟨[.ref a, nameV], []⟩) Q E ⟨h, g, d, t, os⟩ := by
  have hk : builtinKind "BaseException.__getattribute__" = some .slot := by decide +kernel
  have hsplit : splitId "BaseException.__getattribute__" = some ("BaseException", "__getattribute__") := by decide +kernel
  have ha := F.args_bexc_ga (.ref a) nameV
  have hbe := Z.be
  simp only [checkBuiltinCall, hk, hsplit]
  refine wpAny_bind ?_
  · unfold isInstance
    repeat (first | (with_reducible refine wpAny_loadPart_at hx ?_; rw [hc]) | with_reducible refine sub_K X hbe ?_ | wp_step)
    exact hq
theorem cls_call {tk : Tok} {R : Result → Shared → Prop} (X : K.In h) (Z : ExcK K C) (hx : h.get? a = some o) (hc : o.cls = .ref C) (hq : R (.ok (.ret (.ref C))) ⟨h, g, d, t, os⟩) :
    codeAny (model prog w) A (.call (.builtin "BaseException.__getattribute__") ⟨[.ref a, .str "__class__" tk], []⟩) R ⟨h, g, d, t, os⟩ :=
  codeAny_call_builtin PySem.F.attr_ValueError.ga.plain F.entry_bexc_ga (cls_check X Z hx hc (cls_entry X Z hx hc hq))
theorem cls_by {tk : Tok} {fill expr : Bool} {Q : Value → Shared → Prop} (X : K.In h) (Z : ExcK K C) (hx : h.get? a = some o) (hc : o.cls = .ref C) (hq : Q (.ref C) ⟨h, g, d, t, os⟩) :
    wpAny (model prog w) A (getAttrBy (.ref a) (.str "__class__" tk) fill expr) Q E ⟨h, g, d, t, os⟩ := by
  have f3 := PySem.F.attr_ValueError.ga.bind (.ref a)
  have hx0 : (expr && onTheHeap (Value.builtin "BaseException.__getattribute__")) = false := by cases expr <;> rfl
  have hx2 : (Value.builtin "BaseException.__getattribute__" == Value.builtin "object.__getattribute__") = false := by decide +kernel
  have hx1 : (onTheHeap (Value.ref C) && Value.builtin "BaseException.__getattribute__" == Value.builtin "object.__getattribute__") = false := by rw [hx2]; rfl
  repeat (any_goals (first | assumption | (with_reducible refine wpAny_loadPart_at hx ?_; rw [hc]) | with_reducible refine lookup_K X Z.ga ?_ | with_reducible refine lookup_K X Z.gt ?_ | wp_step))
  refine cls_call X Z hx hc ?_
  repeat (any_goals (first | assumption | wp_step))
theorem cls_attr {Q : Option Value → Shared → Prop} (X : K.In h) (Z : ExcK K C) (hx : h.get? a = some o) (hc : o.cls = .ref C) (hq : Q (some (.ref C)) ⟨h, g, d, t + 1, os⟩) : wpAny (model prog w) A (getAttr? (.ref a) "__class__") Q E ⟨h, g, d, t, os⟩ := by
  unfold getAttr? getAttrBy?
  repeat (any_goals (first | assumption | with_reducible apply cls_by X Z hx hc | wp_step))
end
def ExcAt (a C : Addr) (h : Heap) : Prop := ∃ o, h.get? a = some o ∧ o.cls = .ref C
theorem kitx_exc {K : Frag} {a C : Addr} (Z : ExcK K C) : KitX K (.ref a) (.ref C) (ExcAt a C) where
  ty := fun _ _ _ ⟨o, h1, h2⟩ => h2 ▸ (Looks.ld h1).andThen .now
  it := fun _ _ X _ => by
    have z0 := Z.cs
    unfold clsIn at z0
    split at z0
    · rename_i c' d' cd' sl' ho
      intro A' Q' E' s' k q
      unfold isType loadHead
      exact wpAny_bind (wpAny_loadPart (k _ _ (X _ _ ho)) (wpAny_pure q))
    · cases z0
  ne := fun h tp dd its n sl X htp => by
    refine Bool.eq_false_iff.mpr fun q => ?_
    have e : C = tp := Value.ref.inj (beq_iff_eq.mp q)
    subst e
    have z0 := Z.cs
    unfold clsIn at z0
    split at z0
    · rename_i c' d' cd' sl' ho
      have z := (X _ _ ho).symm.trans htp
      cases z
    · cases z0
  ca := fun {_ _ _ _ _ s} X ⟨o, h1, h2⟩ k => by
    obtain ⟨hh, g, d, t, os⟩ := s
    exact cls_attr X Z h1 h2 k
end XT
set_option maxHeartbeats 4000000
namespace L2
open PySem PySem.Spec PyProof.Rows
theorem ObjOk.there {P : Program} {w : World} {H : Hp} {h : Heap} {a : Addr} {o : HO} (x : ObjOk P w H h a o) : ∃ u, h.get? a = some u := by
  cases o with
  | lst xs => obtain ⟨_, _, _, _, e⟩ := x; exact ⟨_, e⟩
  | tup xs => obtain ⟨_, _, _, p⟩ := x; obtain ⟨u, e, _⟩ := p; exact ⟨u, e⟩
  | dK kvs => obtain ⟨_, _, _, _, o, _, _, e, _⟩ := x; exact ⟨_, e⟩
  | dT kvs => obtain ⟨_, _, _, _, o, _, _, e, _⟩ := x; exact ⟨_, e⟩
  | set S n => obtain ⟨o, _, _, _, e, _⟩ := x; exact ⟨_, e⟩
  | ins C dx fs => obtain ⟨_, _, _, e, _⟩ := x; exact ⟨_, e⟩
  | own y => exact x
  | xd fs => obtain ⟨_, ⟨_, _, _, e, _⟩, _⟩ := x; exact ⟨_, e⟩
  | rng lo hi => obtain ⟨_, _, _, e⟩ := x; exact ⟨_, e⟩
  | frz ob u => obtain ⟨e, _⟩ := x; exact ⟨_, e⟩
  | tbl ps => exact ⟨_, (show h.get? a = some _ from x)⟩
  | met f y => exact ⟨_, (show h.get? a = some _ from x)⟩
  | ext φ => obtain ⟨_, e, _⟩ := x; exact e
theorem HOk.trkd {P : Program} {w : World} {H : Hp} {h h' : Heap} (x : HOk P w H h) (k : ∀ b u o, H b = some o → h.get? b = some u → h'.get? b = some u) : HOk P w H h' := fun a o e =>
  (x a o e).stay (fun b u hb q => by
    rcases hb with rfl | hb
    · exact k b u o e q
    · exact k b u _ hb q) (fun _ q => q) fun _ _ q => q
structure Fly (P : Program) (w : World) (outer : List Env) (H : Hp) (s : Shared) (a : Addr) (C : Value) (H' : Hp) (s' : Shared) : Prop where
  os : s'.os = s.os
  bare : AllBare s'.gens
  un : Un (frs outer) [] H H' s.heap s'.heap
  hok : HOk P w H' s'.heap
  new : s.heap.get? a = none
  ex : ∃ B a0, Heap.FlyingW B outer a C a0 s'.heap ∧ (∀ b o, s.heap.get? b = some o → H b = none → b ∉ frs outer → B.get? b = some o) ∧ (∀ b o, H' b = some o → ∃ u, B.get? b = some u) ∧
    (∀ b o, s.heap.get? b = some o → b ∉ frs outer → ∃ u, B.get? b = some u)
def CX1 (P : Program) (w : World) : CXT := fun outer H s E e s' => ∃ a C H', e = .ref a ∧ Fly P w outer H s a C H' s' ∧ E C none H'
theorem cx1_none {P : Program} {w : World} {outer : List Env} {H : Hp} {s : Shared} {e : Value} {s' : Shared} (h : CX1 P w outer H s (fun _ _ _ => False) e s') : False := by
  obtain ⟨_, _, _, _, _, z⟩ := h; exact z
theorem pass1 {P : Program} {w : World} {X : Cx} : Passes (CX1 P w) X E0 := fun _ _ _ _ _ _ _ h => (cx1_none h).elim
section
variable {P : Program} {w : World} {K : PySem.W.Frag} {mg : Str → Option Value} {base : Heap} {N : List Str} {qual : Str} {scope : Scope} {f : Addr} {cd : Value} {A : Around} {outer : List Env} {s₀ : Shared} {H₀ : Hp} {E : XK}
theorem frs_own {b : Addr} : b ∈ frs (cxOf (CX1 P w) P w K mg base N qual scope f cd A outer s₀ H₀ E).stack ↔ b = s₀.heap.objs.size ∨ b ∈ frs outer := by
  show b ∈ List.filterMap _ (envOfC qual scope s₀.heap.objs.size f cd :: outer) ↔ _
  rw [List.filterMap_cons_some (show (envOfC qual scope s₀.heap.objs.size f cd).frame = some s₀.heap.objs.size from rfl), List.mem_cons]
  rfl
theorem passes1 : Passes (CX1 P w) (cxOf (CX1 P w) P w K mg base N qual scope f cd A outer s₀ H₀ E) E := by
  intro pins σ H s e s' I h
  obtain ⟨a, C, H', rfl, x, hE⟩ := h
  obtain ⟨B, a0, hf, k1, k2, k3⟩ := x.ex
  show wpAny _ _ (leaving _ _) _ _ _
  refine wpAny_leaves_onW I.ok.frames rfl hf fun h' hf' hs => ?_
  have ne0 : ∀ b o, s₀.heap.get? b = some o → b ∉ frs outer → b ∉ frs (cxOf (CX1 P w) P w K mg base N qual scope f cd A outer s₀ H₀ E).stack := fun b o e hb z => by
    rcases frs_own.mp z with z | z
    · exact absurd (Heap.lt_size e) (by rw [z]; exact Nat.lt_irrefl _)
    · exact hb z
  have nox : ∀ b : Addr, b ∉ (cxOf (CX1 P w) P w K mg base N qual scope f cd A outer s₀ H₀ E).ex := fun b z => absurd (show b ∈ ([] : List Addr) from z) (by simp)
  have keepB : ∀ b o, s₀.heap.get? b = some o → H₀ b = none → b ∉ frs outer → B.get? b = some o := fun b o e n hb =>
    k1 b o (I.base.keep b o e n hb (nox b)) (I.base.free b o e n (nox b)) (ne0 b o e hb)
  have slotB : ∀ b o, s₀.heap.get? b = some o → H₀ b = none → b ∈ frs outer → ∃ sl, h'.get? b = some { o with slots := sl } := fun b o e n hb => by
    obtain ⟨sl, e1⟩ := I.base.slot b o e n hb (nox b)
    obtain ⟨sl2, e2⟩ := x.un.slot b _ e1 (I.base.free b o e n (nox b)) (frs_own.mpr (.inr hb)) (by simp)
    obtain ⟨_, o3, e3, d3⟩ := hf.2.2.1.mem (frs_own.mpr (.inr hb))
    rw [e2] at e3; cases e3
    obtain ⟨sl4, e4⟩ := hs b _ e2 d3
    exact ⟨sl4, e4⟩
  have thereB : ∀ b o, s₀.heap.get? b = some o → b ∉ frs outer → ∃ u, B.get? b = some u := fun b o e hb => by
    obtain ⟨o1, e1⟩ := I.base.there b o e (nox b)
    exact k3 b o1 e1 (ne0 b o e hb)
  refine ⟨a, C, H', rfl, ⟨x.os.trans I.os, x.bare, ⟨fun b o e n hb _ => hf'.1 b o (keepB b o e n hb), fun b o e n hb _ => slotB b o e n hb, fun b o e n _ => ?_, fun b o e _ => ?_, fun b xs e => x.un.tups b xs (I.base.tups b xs e),
    fun b o u e => x.un.frzs b o u (I.base.frzs b o u e), fun b ps e => ?_⟩, x.hok.trkd fun b u o e q => ?_, ?_, B, a0, hf', keepB, k2, thereB⟩, hE⟩
  · obtain ⟨o1, e1⟩ := I.base.there b o e (nox b)
    exact x.un.free b o1 e1 (I.base.free b o e n (nox b)) (by simp)
  · by_cases hb : b ∈ frs outer
    · obtain ⟨sl, e1⟩ := slotB b o e (I.ok.frf b hb) hb
      exact ⟨_, e1⟩
    · obtain ⟨u, e1⟩ := thereB b o e hb
      exact ⟨u, hf'.1 b u e1⟩
  · obtain ⟨m1, e1⟩ := I.base.tbls b ps e
    obtain ⟨m2, e2⟩ := x.un.tbls b _ e1
    exact ⟨m1 ++ m2, by rw [e2, Array.append_assoc]⟩
  · obtain ⟨u', e'⟩ := k2 b o e
    have := hf.1 b u' e'
    rw [q] at this; cases this
    exact hf'.1 b u e'
  · cases q : s₀.heap.get? a with
    | none => rfl
    | some o =>
      obtain ⟨o1, e1⟩ := I.base.there a o q (nox a)
      rw [x.new] at e1; cases e1
def Raises (X : Cx) (E : XK) : Prop := ∀ (pins : List (Addr × Obj)) (σ : St) (H : Hp) (s : Shared) (e : Addr) (C : Value) (args : List Value) (h' : Heap), Inv X pins σ H s → Heap.MadeExcOf s.heap h' e C args → E C none H → X.xe (.ref e) { s with heap := h' }
theorem raises1 : Raises (cxOf (CX1 P w) P w K mg base N qual scope f cd A outer s₀ H₀ E) E := by
  intro pins σ H s e C args h1 I hm hE
  have F := I.stack
  have hin : ∀ env ∈ (cxOf (CX1 P w) P w K mg base N qual scope f cd A outer s₀ H₀ E).stack, ∀ b, env.frame = some b → b ∈ frs (cxOf (CX1 P w) P w K mg base N qual scope f cd A outer s₀ H₀ E).stack := fun env he b hb => List.mem_filterMap.mpr ⟨env, he, hb⟩
  show wpAny _ _ (leaving _ _) _ _ _
  refine wpAny_leaves_madeW (base := PySem.W.hideAll s.heap (frs (cxOf (CX1 P w) P w K mg base N qual scope f cd A outer s₀ H₀ E).stack)) (h := s.heap) I.ok.frames rfl (fun b o q => PySem.W.of_hideAll _ q) (PySem.W.funFrames_hide F hin) hm fun h' t hf' _ _ hs => ?_
  have ne0 : ∀ b o, s₀.heap.get? b = some o → b ∉ frs outer → b ∉ frs (cxOf (CX1 P w) P w K mg base N qual scope f cd A outer s₀ H₀ E).stack := fun b o e hb z => by
    rcases frs_own.mp z with z | z
    · exact absurd (Heap.lt_size e) (by rw [z]; exact Nat.lt_irrefl _)
    · exact hb z
  have nox : ∀ b : Addr, b ∉ (cxOf (CX1 P w) P w K mg base N qual scope f cd A outer s₀ H₀ E).ex := fun b z => absurd (show b ∈ ([] : List Addr) from z) (by simp)
  have keepB : ∀ b o, s₀.heap.get? b = some o → H₀ b = none → b ∉ frs outer → (PySem.W.hideAll s.heap (frs (cxOf (CX1 P w) P w K mg base N qual scope f cd A outer s₀ H₀ E).stack)).get? b = some o := fun b o e n hb =>
    PySem.W.hideAll_get _ (I.base.keep b o e n hb (nox b)) (ne0 b o e hb)
  have slotB : ∀ b o, s₀.heap.get? b = some o → H₀ b = none → b ∈ frs outer → ∃ sl, h'.get? b = some { o with slots := sl } := fun b o e n hb => by
    obtain ⟨sl, e1⟩ := I.base.slot b o e n hb (nox b)
    obtain ⟨_, o3, e3, d3⟩ := F.mem (frs_own.mpr (.inr hb))
    rw [e1] at e3; cases e3
    obtain ⟨sl4, e4⟩ := hs b _ (hm.keeps b _ e1) d3
    exact ⟨sl4, e4⟩
  have thereB : ∀ b o, s₀.heap.get? b = some o → b ∉ frs outer → ∃ u, (PySem.W.hideAll s.heap (frs (cxOf (CX1 P w) P w K mg base N qual scope f cd A outer s₀ H₀ E).stack)).get? b = some u := fun b o e hb => by
    obtain ⟨o1, e1⟩ := I.base.there b o e (nox b)
    exact ⟨o1, PySem.W.hideAll_get _ e1 (ne0 b o e hb)⟩
  have trk : ∀ b o u, H b = some o → s.heap.get? b = some u → (PySem.W.hideAll s.heap (frs (cxOf (CX1 P w) P w K mg base N qual scope f cd A outer s₀ H₀ E).stack)).get? b = some u := fun b o u e q =>
    PySem.W.hideAll_get _ q fun z => by rw [I.stkFree b z] at e; cases e
  refine ⟨e, C, H, rfl, ⟨I.os, I.bare, ⟨fun b o e n hb _ => hf'.1 b o (keepB b o e n hb), fun b o e n hb _ => slotB b o e n hb, fun b o e n _ => I.base.free b o e n (nox b), fun b o e _ => ?_, I.base.tups, I.base.frzs, I.base.tbls⟩,
    I.hok.trkd fun b u o e q => hf'.1 b u (trk b o u e q), ?_, _, _, hf', keepB, fun b o q => ?_, thereB⟩, hE⟩
  · by_cases hb : b ∈ frs outer
    · obtain ⟨sl, e1⟩ := slotB b o e (I.ok.frf b hb) hb
      exact ⟨_, e1⟩
    · obtain ⟨u, e1⟩ := thereB b o e hb
      exact ⟨u, hf'.1 b u e1⟩
  · cases q : s₀.heap.get? e with
    | none => rfl
    | some o =>
      obtain ⟨o1, e1⟩ := I.base.there e o q (nox e)
      rw [hm.new] at e1; cases e1
  · obtain ⟨u, hu⟩ := (I.hok b o q).there
    exact ⟨u, trk b o u q hu⟩
end
def tRaise (C : Addr) (E : XK) (t : TA) : TS := fun _ σ H => t σ H fun vs H1 => vs.length ≤ sizeLine ∧ E (.ref C) none H1
theorem exc_obj {K : PySem.W.Frag} {h : Heap} {C : Addr} {bmB : List Value} {newId : String} (X : K.In h) (q : PySem.W.excIn K C bmB newId = true) :
    ∃ bm N nm qn bs hdct sn sub ab col dd k0 k1 k2 k3 k5 mN, h.get? C = some (excClassObj nm qn C N bs bm hdct sn sub ab col dd k0 k1 k2 k3 k5 newId) ∧ h.Ns N mN ∧ mN "__init__" = none ∧ OwnTail h bmB bm := by
  unfold PySem.W.excIn at q
  split at q
  · rename_i dd cd sl ho
    split at q
    · rename_i C' bm k0 k1 k2 k3 n k5 hm hs
      simp only [Bool.and_eq_true, beq_iff_eq, Bool.not_eq_true'] at q
      obtain ⟨⟨⟨⟨⟨rfl, rfl⟩, hdel⟩, ht⟩, hok⟩, hni⟩ := q
      obtain ⟨nm, bs, mro, ns, qn, hd, sn, sub, ab, col, del⟩ := cd
      dsimp only at hm hdel hok hni
      subst hm hdel
      have hsl : sl = #[k0, k1, k2, k3, some (.builtin n), k5] := by
        obtain ⟨l⟩ := sl
        simp only at hs
        rw [hs]
      subst hsl
      exact ⟨bm, ns, nm, qn, bs, hd, sn, sub, ab, col, dd, k0, k1, k2, k3, k5, _, X _ _ ho, .of_isNs (PySem.W.isNs_of_in X hok), PySem.W.nsMap_none_of_in X hok hni, PySem.W.tail_of_in X ht⟩
    · cases q
  · cases q
section
variable {X : Cx} {C : Addr} {x : Str} {e : Expr} {es : List Expr} {t : TA} {np cpos pos : Pos} {E : XK} {bmB : List Value} {B newId initId : String}
theorem ps_raise (hr : Raises X E) (hA : X.calm = true) (hg : Gl X x) (hm : X.mg x = some (.ref C)) (hq : PySem.W.excIn X.K C bmB newId = true) (FB : ExcBaseFacts B newId initId bmB) (ha : PA X (e :: es) t)
    (hdb : (x == ("__debug__" : Str)) = false := by decide) (he : starEach (e :: es) X.env = (false, eval e X.env) :: starEach es X.env := by rfl) (hpl : (backTo cpos (starEach es X.env)).any (·.1) = false := by rfl) :
    PS X (.Raise (some (.Call (.Name x np) (e :: es) [] cpos)) none pos) (tRaise C E t) := by
  intro pins s σ H D I h
  obtain ⟨bm, N, nm, qn, bs, hdct, sn, sub, ab, col, dd, k0, k1, k2, k3, k5, mN, hC, hN, hni, T⟩ := exc_obj I.ok.mod.kin hq
  refine wpAny_Raise_call_subT (C := C) (nm := nm) (q := qn) (N := N) (bs := bs) (bm := bm) (hdct := hdct) (sn := sn) (sub := sub) (ab := ab) (col := col) (dd := dd) (k0 := k0) (k1 := k1) (k2 := k2) (k3 := k3) (k5 := k5)
    FB (mN := mN) (T.hasType FB.hasBase) (I.ok.hd hA) (by rw [he]; show (false || (backTo cpos (starEach es X.env)).any (·.1)) = false; rw [hpl]; rfl) hni (ld_glob I hg hm ⟨rfl, ?_⟩ hdb)
  have ha' := ha cpos pins s σ H _ I h
  rw [he] at ha' ⊢
  refine Calls.evalArgs_plain (thn ha' fun us s1 ⟨vs, H1, I1, r, z, hE⟩ => ⟨rfl, by rw [← r.length]; exact z, I1.bk _ _ hC, hN.keeps I1.bk, T.keeps I1.bk, fun h' e' hm' => ?_⟩)
  exact hr pins σ H1 s1 e' (.ref C) us h' I1 hm' hE
end
section
variable {X : Cx} {pins pins' : List (Addr × Obj)} {σ : St} {H H' : Hp} {s : Shared} {xe : Value → Shared → Prop} {ev : Value}
end
abbrev XS := Value → St → Hp → Prop
section
variable {X : Cx} {P : Program} {w : World} {k : Nat} {f : Addr} {fd : FuncData} {ps : List Str} {sp : Sp} {dvs : List V} {ds : List Value} {Φ : XS} {x : Str} {p pos : Pos} {e : Expr} {es : List Expr} {t : TA}
end
def excO (a C : Addr) : HO := .ext (XT.ExcAt a C)
abbrev Pins := List (Addr × Obj)
section
variable {X : Cx} {C : Addr} {i : Nat} {n x : Str} {body : List Stmt} {b₀ : Stmt} {suite : List Stmt} {np hpos pos : Pos} {tb : Pins → (Value → Shared → Prop) → XS → TS} {th : Pins → Value → TS} {bmB : List Value} {newId : String}
end
end L2
set_option maxHeartbeats 4000000
namespace L2
open PySem PySem.Spec PyProof.Rows
section
variable {X : Cx}
theorem bits_of {x : Int} {m : Nat} (h : x.natAbs < 2 ^ m) : Builtin.Int.intBits x ≤ m := PySem.intBits_le_iff.mpr h
def CMulL (i j : Int) : Prop := i.natAbs < 2 ^ 100000 ∧ j.natAbs < 2 ^ 100000
theorem log2_lt_of {n m : Nat} (hm : 0 < m) (h : n < 2 ^ m) : n.log2 < m := by
  rcases Nat.eq_zero_or_pos n with h0 | hp
  · rw [h0]; exact hm
  · exact (Nat.log2_lt (Nat.ne_of_gt hp)).mpr h
def CDivL (_ j : Int) : Prop := j ≠ 0 ∧ j.natAbs < 2 ^ 8999
theorem op_fdivL : OpR X (binaryOp .FloorDiv) (rI CDivL fun i j => .int (i.fdiv j)) := opI fun _ _ _ _ _ _ _ hc q => floordiv_int hc.1 q (.inl (PyProof.noPylong_of_log2 (Nat.lt_trans (log2_lt_of (by decide) hc.2) (by decide))))
def rIsi (K : PySem.W.Frag) : List V → Hp → VK → Prop := fun xs H Q => ∃ x t T b, xs = [x, .ty T] ∧ TyOf K H x t ∧ PySem.W.kitOne K t (.type T) = some b ∧ Q (.bl b) H
theorem call_isi : CallR X (.builtin "isinstance") (rIsi X.K) := by
  intro pins s σ H vs us Q I r h
  obtain ⟨x, t, T, b, rfl, ty, e, q⟩ := h
  obtain ⟨u, c, rfl, rx, rc⟩ := vals2 r
  cases (show c = Value.type T from rc)
  exact isinst_ok I rx ty e fun tk => ⟨.bl b, H, I.tok tk, rfl, q⟩
theorem kit_same (K : PySem.W.Frag) (t : Value) : PySem.W.kitOne K t t = some true := by unfold PySem.W.kitOne; simp
theorem kit_int_bool (K : PySem.W.Frag) : PySem.W.kitOne K (.type "int") (.type "bool") = some false := by
  unfold PySem.W.kitOne PySem.W.kitCls PySem.W.subIn; kernel_rfl
def rIsiE (K : PySem.W.Frag) : List V → Hp → VK → Prop := fun xs H Q => ∃ a C c b, xs = [.ref a, c] ∧ H a = some (excO a C) ∧ XT.ExcK K C ∧
  ((∃ D, c = .ref D ∧ PySem.W.kitOne K (.ref C) (.ref D) = some b) ∨ (∃ T, c = .ty T ∧ PySem.W.kitOne K (.ref C) (.type T) = some b) ∨
    (∃ (p : Addr) (Ds : List Addr), c = .ref p ∧ H p = some (.tup (Ds.map V.ref)) ∧ PySem.W.kitAny K (.ref C) (Ds.map Value.ref) = some b)) ∧ Q (.bl b) H
theorem vals_refs : ∀ {Ds : List Addr} {us : List Value}, Vals (Ds.map V.ref) us → us = Ds.map Value.ref
  | [], _, .nil => rfl
  | _ :: _, _, .cons r t => by
    cases (show _ = Value.ref _ from r)
    rw [vals_refs t]; rfl
theorem call_isiE : CallR X (.builtin "isinstance") (rIsiE X.K) := by
  intro pins s σ H vs us Q I r h
  obtain ⟨a, C, c, b, rfl, ha, Z, h, q⟩ := h
  obtain ⟨u, cv, rfl, rx, rc⟩ := vals2 r
  cases (show u = Value.ref a from rx)
  have hx : XT.ExcAt a C s.heap := (I.hok a _ ha).1
  rcases h with ⟨D, rfl, e⟩ | ⟨T, rfl, e⟩ | ⟨p, Ds, rfl, hp, e⟩
  · cases (show cv = Value.ref D from rc)
    exact PySem.W.kia_one (XT.kitx_exc Z) I.kIn hx e (fun z => nomatch z) fun tk => ⟨.bl b, H, I.tok tk, rfl, q⟩
  · cases (show cv = Value.type T from rc)
    exact PySem.W.kia_one (XT.kitx_exc Z) I.kIn hx e (fun z => nomatch z) fun tk => ⟨.bl b, H, I.tok tk, rfl, q⟩
  · cases (show cv = Value.ref p from rc)
    obtain ⟨_, its, rv, ot, h1, h2, n, h3⟩ := I.hok p _ hp
    obtain ⟨c0, dd, dat, sl⟩ := ot
    cases (show c0 = _ from h2)
    cases (show dat = _ from h3)
    rw [vals_refs rv] at h1
    exact PySem.W.kia_tup (XT.kitx_exc Z) I.kIn hx h1 e (fun z => nomatch z) fun tk => ⟨.bl b, H, I.tok tk, rfl, q⟩
def eqVs : List V → List V → Bool
  | [], [] => true
  | x :: xs, y :: ys => eqV x y && eqVs xs ys
  | _, _ => false
theorem eqVs_len : ∀ {xs ys : List V}, xs.length ≠ ys.length → eqVs xs ys = false
  | [], [], h => absurd rfl h
  | [], _ :: _, _ => rfl
  | _ :: _, [], _ => rfl
  | x :: xs, y :: ys, h => by
    unfold eqVs
    rw [eqVs_len (fun z => h (by simp [z]))]; simp
theorem eqVs_all : ∀ {xs ys : List V}, xs.length = ys.length → (List.range xs.length).all (fun j => eqV (xs.getD j .non) (ys.getD j .non)) = eqVs xs ys
  | [], [], _ => rfl
  | [], _ :: _, h => by simp at h
  | _ :: _, [], h => by simp at h
  | x :: xs, y :: ys, h => by
    have ih := eqVs_all (xs := xs) (ys := ys) (by simpa using h)
    rw [List.length_cons, List.range_succ_eq_map, List.all_cons, List.all_map]
    unfold eqVs
    rw [← ih]
    rfl
theorem eqAt_items {A : Around} {s : Shared} {xs ys : List V} {us ws : List Value} (r : Vals xs us) (q : Vals ys ws) (fx : xs.all flatV = true) (fy : ys.all flatV = true) (j : Nat) (h1 : j < us.toArray.size) (h2 : j < ws.toArray.size) :
    SeqAt.EqAt A s us.toArray[j] ws.toArray[j] (eqV (xs.getD j .non) (ys.getD j .non)) := by
  have l1 := r.length
  have l2 := q.length
  have h1' : j < xs.length := by simpa [l1] using h1
  have h2' : j < ys.length := by simpa [l2] using h2
  obtain ⟨u, hu, ru⟩ := r.get (i := j) (x := xs[j]) (List.getElem?_eq_getElem h1')
  obtain ⟨v, hv, rv⟩ := q.get (i := j) (x := ys[j]) (List.getElem?_eq_getElem h2')
  have e1 : us.toArray[j] = u := by
    have := List.getElem?_eq_some_iff.mp hu
    obtain ⟨_, z⟩ := this; simpa using z
  have e2 : ws.toArray[j] = v := by
    have := List.getElem?_eq_some_iff.mp hv
    obtain ⟨_, z⟩ := this; simpa using z
  rw [e1, e2, List.getD_eq_getElem?_getD, List.getD_eq_getElem?_getD, List.getElem?_eq_getElem h1', List.getElem?_eq_getElem h2']
  exact eqAt_V ru rv (List.all_eq_true.mp fx _ (List.getElem_mem h1')) (List.all_eq_true.mp fy _ (List.getElem_mem h2'))
def rEqL (K : PySem.W.Frag) : R2 := fun x y H Q => ∃ a b xs ys, x = .ref a ∧ y = .ref b ∧ SqL K H a xs ∧ SqL K H b ys ∧ xs.all flatV = true ∧ ys.all flatV = true ∧ Q (.bl (eqVs xs ys)) H
theorem op_eqL (hu : X.A.units < cLine) : OpR X (compareOp .Eq) (rEqL X.K) := by
  intro pins s σ H x y v u Q I rx ry h
  obtain ⟨a, b, xs, ys, rfl, rfl, ha, hb, fx, fy, q⟩ := h
  cases (show v = Value.ref a from rx)
  cases (show u = Value.ref b from ry)
  obtain ⟨its, rv, p, _⟩ := I.list ha
  obtain ⟨its2, rv2, p2, _⟩ := I.list hb
  have l1 := rv.length
  have l2 := rv2.length
  by_cases hz : xs.length = ys.length
  · refine SeqAt.eq_listAt (e := fun j => eqV (xs.getD j .non) (ys.getD j .non)) p.isList p2.isList (by simp [← l1, ← l2, hz]) hu (fun j h1 h2 => eqAt_items rv rv2 fx fy j h1 h2) ?_
    have e : (List.range its.toArray.size).all (fun j => eqV (xs.getD j .non) (ys.getD j .non)) = eqVs xs ys := by
      rw [← eqVs_all hz]; simp [← l1]
    rw [e]
    exact ⟨.bl _, H, I, rfl, q⟩
  · rw [eqVs_len hz] at q
    exact SeqAt.eq_list_lengthsAt p.isList p2.isList (by simp [← l1, ← l2, hz]) hu ⟨.bl _, H, I, rfl, q⟩
def Itrs (lo st : Int) (n : Nat) : It := ⟨fun i _ => i < n, fun i H x H' => H' = H ∧ x = .int (lo + i * st), fun i _ => n ≤ i⟩
theorem turn_ranges {P : Program} {w : World} {K : PySem.W.Frag} {tg : Expr} (it : Addr) (lo c : Int) (n : Nat) : Turn P w K tg (Itrs lo c n) [it] it (fun i h => IsRangeIter h it (lo + (i : Nat) * c) ((n : Int) - (i : Nat)) c) where
  mem := by simp
  obj := fun i h st b hb => by
    have e : b = it := by simpa using hb
    subst e
    exact ⟨_, st, fun v z => by
      have z' : Data.fields _ = Data.cell v := z
      cases z'⟩
  keep := fun i h h' st k => k it (by simp) _ st
  item := by
    intro X hP hw hK hc i pins s σ H E I hf st hg
    subst hP hw hK
    obtain ⟨f0, f1, f2, f3, f4, f5⟩ := hf it (by simp)
    have W := Walks.range (prog := X.prog) (w := X.w) (I.ok.hd hc) it lo c n
    refine W.item i s _ _ hg st fun v h' tk hv st' kk => ?_
    obtain ⟨t, rfl⟩ := hv
    have I1 : Inv X pins σ H { s with heap := h', toks := tk } := I.turned (fun b o hb e => kk b o (by simpa using hb) e) f0 f1 f3 f4 f5
    exact ⟨_, rfl, go_of (s := { s with heap := h', toks := tk }) (n := "range_iterator") st' rfl rfl (by decide) ⟨.int (lo + i * c), H, I1, ⟨t, rfl⟩, ⟨rfl, rfl⟩, st', fun b hb => (hf b hb).1⟩⟩
  done := by
    intro X hP hw hK hc i pins s σ H E I hf st hg
    subst hP hw hK
    obtain ⟨f0, f1, f2, f3, f4, f5⟩ := hf it (by simp)
    exact wpAny_pyNext_range_end (I.ok.hd hc) st (by have : n ≤ i := hg; omega) fun h' eb => ⟨rfl, I.turned (t' := s.toks) (fun b o hb e => eb b o hb e) f0 f1 f3 f4 f5⟩
  self := fun _ _ _ _ _ st h => wpAny_pyIter_rangeiter st h
variable {tg : Expr}
end
theorem for_ranges {lo st : Int} {n : Nat} {g : TG} {tb : TS} {D : Ends} {σ : St} {H : Hp} (Pv : Nat → St → Hp → Prop) (h0 : Pv 0 σ H)
    (hs : ∀ i σ H, i < n → Pv i σ H → g (.int (lo + i * st)) σ H fun σ2 H2 => tb { D with nx := Pv (i + 1), ct := Pv (i + 1), bk := D.nx } σ2 H2) (hd : ∀ σ H, Pv n σ H → D.nx σ H) :
    ∃ W : Nat → Nat → St → Hp → Prop, (∃ m, W 0 m σ H) ∧ ∀ i m σ H, W i m σ H →
      ((Itrs lo st n).stop i H ∧ D.nx σ H) ∨ ((Itrs lo st n).go i H ∧ ∃ N : St → Hp → Prop, (∀ σ' H', N σ' H' → ∃ m', m' < m ∧ W (i + 1) m' σ' H') ∧ ∀ x H', (Itrs lo st n).yld i H x H' → g x σ H' fun σ2 H2 => tb { D with nx := N, ct := N, bk := D.nx } σ2 H2) := by
  refine ⟨fun i m σ H => m = n - i ∧ i ≤ n ∧ Pv i σ H, ⟨n, by simp, Nat.zero_le _, h0⟩, ?_⟩
  rintro i m σ H ⟨rfl, hi, p⟩
  by_cases hlt : i < n
  · refine .inr ⟨hlt, Pv (i + 1), fun σ' H' p' => ⟨n - (i + 1), by omega, rfl, hlt, p'⟩, fun x H' y => ?_⟩
    obtain ⟨e, y⟩ := y
    subst e y
    exact hs i σ _ hlt p
  · have e : i = n := by omega
    subst e
    exact .inl ⟨Nat.le_refl _, hd σ H p⟩
section
variable {P : Program} {w : World} {K : PySem.W.Frag} {mg : Str → Option Value} {base : Heap}
theorem Fun.okx {x qual : Str} {st : Stmt} {f : Addr} {fd : FuncData} {N ps : List Str} {k : Nat} {sp : Sp} (F : Fun K x qual st f fd) (S : FnScope N ps (defScope st)) (len : ∀ vs H Q E, sp vs H Q E → vs.length = ps.length)
    (hbody : ∀ (cdv : Value) (A : Around) (outer : List Env) (s : Shared) (H : Hp) (vs : List V) (Q : VK) (E : XK), Room k (A.deeper (envOfC qual (defScope st) s.heap.objs.size f cdv)) → sp vs H Q E →
      ∃ t, PSs (cxOf (CX1 P w) P w K mg base N qual (defScope st) f cdv A outer s H E) (defBody st) t ∧ t { nx := fun _ H' => Q .non H', rt := Q } (start N vs) H) : FnOk P w K mg base (CX1 P w) (k + 1) f fd ps sp := by
  obtain ⟨oc, od, kV, doc, pm, an, cdv, ct, osl, rfl, lk, hcd⟩ := F.ex
  refine fn_of lk hcd S len fun A outer s H vs Q E hr hsp => ?_
  exact hbody cdv A outer s H vs Q E hr hsp
theorem Fun.okn {x qual : Str} {st : Stmt} {f : Addr} {fd : FuncData} {N ps : List Str} {k : Nat} {sp : Sp} (F : Fun K x qual st f fd) (S : FnScope N ps (defScope st)) (len : ∀ vs H Q E, sp vs H Q E → vs.length = ps.length)
    (hbody : ∀ (cdv : Value) (A : Around) (outer : List Env) (s : Shared) (H : Hp) (vs : List V) (Q : VK) (E : XK), Room k (A.deeper (envOfC qual (defScope st) s.heap.objs.size f cdv)) → sp vs H Q E →
      ∃ t, PSs (cxOf (CX1 P w) P w K mg base N qual (defScope st) f cdv A outer s H E).nox (defBody st) t ∧ t { nx := fun _ H' => Q .non H', rt := Q } (start N vs) H) : FnOk P w K mg base (CX1 P w) (k + 1) f fd ps sp := by
  obtain ⟨oc, od, kV, doc, pm, an, cdv, ct, osl, rfl, lk, hcd⟩ := F.ex
  refine fn_of lk hcd S len fun A outer s H vs Q E hr hsp => ?_
  obtain ⟨t, h, q⟩ := hbody cdv A outer s H vs Q E hr hsp
  exact ⟨t, h.nox, q⟩
end
end L2
set_option maxHeartbeats 4000000
namespace L2
open PySem PySem.Spec PyProof.Rows
section
variable {X : Cx}
def oLt := (op_lt (X := X)).or op_lt_str
def isiAny := (call_isi (X := X)).or call_isiE
def ixAny := ix_seq (X := X)
theorem mt_app : MtR X "list.append" rAppend := mt_append (X := X)
end
theorem cls_of_mro {K : PySem.W.Frag} {C : Addr} {b : Value} {r : Bool} (h : PySem.W.mroIn K C b = some r) : (PySem.W.clsIn K C).isSome = true := by
  unfold PySem.W.mroIn at h
  cases q : PySem.W.clsIn K C with
  | none => rw [q] at h; cases h
  | some c => rfl
end L2
set_option maxHeartbeats 4000000
namespace L2
open PySem PySem.Spec PyProof.Rows
section
variable {X : Cx}
def cutL (xs : List Nat) (lo hi : Option Int) : List Nat := (xs.drop (HT.sIx xs.length 0 lo)).take (HT.sIx xs.length xs.length hi - HT.sIx xs.length 0 lo)
def cutS (z : Str) (lo hi : Option Int) : Str := ⟨(cutL z.cps.toList lo hi).toArray⟩
theorem slice_cutS (z : Str) (lo hi : Option Int) : Txt.slice z lo hi = cutS z lo hi := by
  obtain ⟨h1, h2, _⟩ := slice_bounds lo hi z.length
  have e : Builtin.Str.strSliceIndices lo hi 1 z.length = sliceRange (sliceBounds lo hi none z.length).1 (sliceBounds lo hi none z.length).2.1 1 := rfl
  have hl : z.cps.toList.length = z.length := by rw [Array.length_toList]; rfl
  rw [h1, h2, sliceRange_one] at e
  have hb := HT.sIx_le z.length z.length (Nat.le_refl _) hi
  unfold Txt.slice cutS cutL
  rw [e, pick_run, hl]
  split
  · rename_i q
    rw [List.length_map, List.length_range] at q
    have q' : HT.sIx z.length z.length hi - HT.sIx z.length 0 lo = z.length := by simpa using q
    obtain ⟨cps⟩ := z
    have hz : (⟨cps⟩ : Str).length = cps.size := rfl
    have : (cps.toList.drop (HT.sIx (Str.length ⟨cps⟩) 0 lo)).take (HT.sIx (Str.length ⟨cps⟩) (Str.length ⟨cps⟩) hi - HT.sIx (Str.length ⟨cps⟩) 0 lo) = cps.toList := by
      rw [q', hz]
      rcases Nat.eq_zero_or_pos cps.size with z0 | zp
      · have : cps.toList = [] := List.eq_nil_of_length_eq_zero (by simpa using z0)
        rw [this]; simp
      · have : HT.sIx cps.size 0 lo = 0 := by rw [hz] at q' hb; omega
        rw [this, List.drop_zero, List.take_of_length_le (by rw [Array.length_toList]; exact Nat.le_refl _)]
    show (⟨cps⟩ : Str) = ⟨((cps.toList.drop (HT.sIx (Str.length ⟨cps⟩) 0 lo)).take (HT.sIx (Str.length ⟨cps⟩) (Str.length ⟨cps⟩) hi - HT.sIx (Str.length ⟨cps⟩) 0 lo)).toArray⟩
    rw [this]
  · rfl
def rSlS : V → Option Int → Option Int → Hp → VK → Prop := fun x lo hi H Q => ∃ z : Str, x = .str z ∧ z.length ≤ sizeLine ∧ Q (.str (cutS z lo hi)) H
theorem sl_str : SlR X rSlS := by
  intro pins s σ H x v vl vu lo hi sl Q I rx hs pl pu h
  obtain ⟨z, rfl, hz, q⟩ := h
  obtain ⟨t, rfl⟩ := rx
  refine ⟨"str", _, F.slot_str_getitem.lookup, typeIs_str _ _ _, ?_⟩
  rw [← slice_cutS] at q
  have fin : ∀ (t' : Tok) (k : Nat), EP X pins σ Q (.str (Txt.slice z lo hi) t') { s with toks := k } := fun t' k => ⟨.str _, H, I.tok k, ⟨t', rfl⟩, q⟩
  have hl := Nat.le_trans (Txt.slice_le z lo hi) hz
  cases pl with
  | none =>
    cases pu with
    | none => exact wpAny_getItem_str_slice (l := none) (u := none) (st := none) hs rfl (post_val_or_str ⟨hl, fin⟩)
    | int j tj => exact wpAny_getItem_str_slice (l := none) (u := some (j, tj)) (st := none) hs rfl (post_val_or_str ⟨hl, fin⟩)
  | int i ti =>
    cases pu with
    | none => exact wpAny_getItem_str_slice (l := some (i, ti)) (u := none) (st := none) hs rfl (post_val_or_str ⟨hl, fin⟩)
    | int j tj => exact wpAny_getItem_str_slice (l := some (i, ti)) (u := some (j, tj)) (st := none) hs rfl (post_val_or_str ⟨hl, fin⟩)
def slAny := (sl_list (X := X)).or sl_str
def Its (z : Str) : It := ⟨fun i _ => i < z.length, fun i H x H' => H' = H ∧ ∃ c, z.cps.toList[i]? = some c ∧ x = .str ⟨#[c]⟩, fun i _ => z.length ≤ i⟩
theorem turn_str {P : Program} {w : World} {K : PySem.W.Frag} {nm : Str} {np : Pos} {ty : String} (it : Addr) (z : Str) (t : Tok)
    (hi : ∀ (A : Around) (s : Shared) (i c : Nat) (Q : Option Value → Shared → Prop) (E : Value → Shared → Prop), s.heap.IsStrIter it ty z t i → z.cps[i]? = some c →
      (∀ h', h'.IsStrIter it ty z t (i + 1) → Heap.SameBut it s.heap h' → Q (some (.str ⟨#[c]⟩ s.toks)) { s with heap := h', toks := s.toks + 1 }) → wpAny (model P w) A (pyNext (.ref it)) Q E s)
    (he : ∀ (A : Around) (s : Shared) (i : Nat) (Q : Option Value → Shared → Prop) (E : Value → Shared → Prop), A.handled = none → s.heap.IsStrIter it ty z t i → z.cps[i]? = none →
      (∀ h', Heap.ExtBut it s.heap h' → Q none { s with heap := h' }) → wpAny (model P w) A (pyNext (.ref it)) Q E s)
    (hse : ∀ (A : Around) (s : Shared) (i : Nat) (Q : Value → Shared → Prop) (E : Value → Shared → Prop), s.heap.IsStrIter it ty z t i → Q (.ref it) s → wpAny (model P w) A (pyIter (.ref it)) Q E s) :
    Turn P w K (.Name nm np) (Its z) [it] it (fun i h => h.IsStrIter it ty z t i) where
  mem := by simp
  obj := fun i h st b hb => by
    have e : b = it := by simpa using hb
    subst e
    obtain ⟨o, ho, _, hd⟩ := st
    exact ⟨o, ho, fun v q => by rw [hd] at q; cases q⟩
  keep := fun i h h' st k => by
    obtain ⟨o, ho, r⟩ := st
    exact ⟨o, k it (by simp) o ho, r⟩
  item := by
    intro X hP hw hK hc i pins s σ H E I hf st hg
    subst hP hw hK
    obtain ⟨f0, f1, f2, f3, f4, f5⟩ := hf it (by simp)
    have hg' : i < z.cps.size := hg
    refine hi X.A s i z.cps[i] _ E st (by simp [hg']) fun h' st' sb => ?_
    have I1 : Inv X pins σ H { s with heap := h', toks := s.toks + 1 } := I.turned (fun b o hb e => (sb.2 b hb).trans e) f0 f1 f3 f4 f5
    exact ⟨_, rfl, wpAny_pure ⟨.str ⟨#[z.cps[i]]⟩, H, I1, ⟨_, rfl⟩, ⟨rfl, z.cps[i], by rw [Array.getElem?_toList]; simp [hg'], rfl⟩, st', fun b hb => (hf b hb).1⟩⟩
  done := by
    intro X hP hw hK hc i pins s σ H E I hf st hg
    subst hP hw hK
    obtain ⟨f0, f1, f2, f3, f4, f5⟩ := hf it (by simp)
    have hg' : z.cps.size ≤ i := hg
    exact he X.A s i _ E (I.ok.hd hc) st (by simp [hg']) fun h' eb => ⟨rfl, I.turned (t' := s.toks) (fun b o hb e => eb b o hb e) f0 f1 f3 f4 f5⟩
  self := fun A i s Q E st h => hse A s i Q E st h
theorem PI.or {tg iter : Expr} {te : TE} {f g : V → Hp → (It → Hp → Prop) → Prop} (h : PI X tg iter (fun σ H R => te σ H fun x H1 => f x H1 R)) (h' : PI X tg iter (fun σ H R => te σ H fun x H1 => g x H1 R)) (he : PE X iter te)
    (hf : ∀ pins s σ H x v R, Inv X pins σ H s → RelV x v → f x H R → wpAny (model X.prog X.w) X.A (pyIter v) (PIE X pins σ tg R) X.xe s)
    (hg : ∀ pins s σ H x v R, Inv X pins σ H s → RelV x v → g x H R → wpAny (model X.prog X.w) X.A (pyIter v) (PIE X pins σ tg R) X.xe s) :
    PI X tg iter (fun σ H R => te σ H fun x H1 => f x H1 R ∨ g x H1 R) := by
  intro pins s σ H R I hq
  refine thn (he pins s σ H _ I hq) fun v s1 ⟨x, H1, I1, r1, q1⟩ => ?_
  rcases q1 with q1 | q1
  · exact hf pins s1 σ H1 x v R I1 r1 q1
  · exact hg pins s1 σ H1 x v R I1 r1 q1
def repS (z : Str) (n : Int) : Str := ⟨(List.replicate n.toNat z.cps.toList).flatten.toArray⟩
theorem foldl_cps (a : Array Nat) : ∀ (k : Nat) (acc : Array Nat), (List.replicate k a).foldl (· ++ ·) acc = acc ++ ((List.replicate k a.toList).flatten).toArray
  | 0, acc => by simp
  | k + 1, acc => by
    rw [List.replicate_succ, List.foldl_cons, foldl_cps a k, List.replicate_succ, List.flatten_cons]
    apply Array.ext'
    simp [List.append_assoc]
theorem mul_repS {z : Str} {n : Int} : Txt.mul z n = repS z n := by
  unfold Txt.mul repS
  by_cases h : n < 1
  · rw [if_pos h, show n.toNat = 0 by omega]; rfl
  rw [if_neg h]
  split
  · rename_i q
    obtain ⟨cps⟩ := z
    rw [Bool.or_eq_true] at q
    rcases q with q | q
    · have : n = 1 := by simpa using q
      subst this
      show (⟨cps⟩ : Str) = ⟨([cps.toList].flatten).toArray⟩
      simp
    · have : (⟨cps⟩ : Str).length = 0 := by simpa using q
      have : cps.size = 0 := this
      have e : cps.toList = [] := List.eq_nil_of_length_eq_zero (by simpa using this)
      have e2 : (List.replicate n.toNat cps.toList).flatten = [] := by rw [e]; simp
      show (⟨cps⟩ : Str) = ⟨((List.replicate n.toNat cps.toList).flatten).toArray⟩
      rw [e2, ← e]
  · rw [foldl_cps]; simp
theorem op_mul_str : OpR X (binaryOp .Mult) (fun x y H Q => ∃ z n, x = .str z ∧ y = .int n ∧ 0 ≤ n ∧ n ≤ 4000 ∧ z.length ≤ 4000 ∧ Q (.str (repS z n)) H) := by
  intro pins s σ H x y v u Q I rx ry h
  obtain ⟨z, n, rfl, rfl, h0, h1, hz, q⟩ := h
  obtain ⟨t, rfl⟩ := rx
  obtain ⟨t', rfl⟩ := ry
  rw [← mul_repS] at q
  have hs : sizeLine = 16777216 := sizeLine_eq
  have hm : z.length * n.toNat ≤ 4000 * 4000 := Nat.mul_le_mul hz (by omega)
  refine SB.mul ⟨by rw [decide_eq_false (by omega), decide_eq_false (by omega)]; rfl, fun h _ hh => ?_, fun _ _ => ?_⟩ fun t' k => ⟨.str _, H, I.tok k, ⟨t', rfl⟩, q⟩
  · have hn : 0 < n := by
      rcases Int.lt_or_eq_of_le h0 with z | z
      · exact z
      · subst z; trivial
    have : (z.length : Int) ≤ (2 ^ 63 - 1) / n := Int.le_ediv_of_mul_le hn (Int.le_trans (Int.mul_le_mul (Int.ofNat_le.mpr hz) h1 h0 (by omega)) (by decide))
    omega
  · unfold Builtin.Str.tooLong
    rw [hs]
    exact decide_eq_false (by omega)
end
end L2
set_option maxHeartbeats 4000000
namespace L2
open PySem PySem.Spec PyProof.Rows
theorem closure_go {env : Env} : ∀ (names : List (Str × NameKind)) (acc : List (Str × Addr)), (∀ p ∈ names, p.2 = .free → ∃ c, env.cells.lookup p.1 = some c) → (∀ x c, acc.lookup x = some c → env.cells.lookup x = some c) →
    ∃ cl, (forIn names acc fun (x : Str × NameKind) (r : List (Str × Addr)) => if (x.2 == NameKind.free) = true then (cellOf env x.1 >>= fun c => (pure (ForInStep.yield ((x.1, c) :: r)) : Sem _)) else (pure (ForInStep.yield r) : Sem _)) = pure cl ∧
      (∀ x c, cl.lookup x = some c → env.cells.lookup x = some c) ∧ (∀ x c, acc.lookup x = some c → ∃ c', cl.lookup x = some c') ∧ ∀ x, (x, NameKind.free) ∈ names → ∃ c, cl.lookup x = some c
  | [], acc, _, h2 => ⟨acc, rfl, h2, fun x c e => ⟨c, e⟩, fun _ z => nomatch z⟩
  | (n, k) :: r, acc, h1, h2 => by
    rw [List.forIn_cons]
    by_cases hk : k = .free
    · subst hk
      obtain ⟨c, hc⟩ := h1 (n, .free) List.mem_cons_self rfl
      have e : cellOf env n = pure c := by unfold cellOf; rw [hc]
      have sub : ∀ x c', ((n, c) :: acc).lookup x = some c' → env.cells.lookup x = some c' := fun x c' q => by
        rw [List.lookup_cons] at q
        cases hx : x == n with
        | true => rw [hx] at q; cases q; rw [eq_of_beq hx]; exact hc
        | false => rw [hx] at q; exact h2 x c' q
      obtain ⟨cl, q1, q2, q3, q4⟩ := closure_go r ((n, c) :: acc) (fun p hp => h1 p (List.mem_cons_of_mem _ hp)) sub
      refine ⟨cl, ?_, q2, fun x c' e' => ?_, fun x hx => ?_⟩
      · show ((if (NameKind.free == NameKind.free) = true then (cellOf env n >>= fun c => pure (ForInStep.yield ((n, c) :: acc))) else pure (ForInStep.yield acc)) >>= _) = _
        rw [if_pos (show (NameKind.free == NameKind.free) = true by decide), e, pure_bind, pure_bind]; exact q1
      · cases hx : x == n with
        | true => exact q3 x c (by rw [List.lookup_cons, hx])
        | false => exact q3 x c' (by rw [List.lookup_cons, hx]; exact e')
      · rcases List.mem_cons.mp hx with z | z
        · cases z; exact q3 n c (by rw [List.lookup_cons, beq_self_eq_true])
        · exact q4 x z
    · have hb : (k == NameKind.free) = false := by simpa using hk
      obtain ⟨cl, q1, q2, q3, q4⟩ := closure_go r acc (fun p hp => h1 p (List.mem_cons_of_mem _ hp)) h2
      refine ⟨cl, ?_, q2, q3, fun x hx => ?_⟩
      · show ((if (k == NameKind.free) = true then _ else pure (ForInStep.yield acc)) >>= _) = _
        rw [if_neg (by rw [hb]; exact Bool.false_ne_true), pure_bind]; exact q1
      · rcases List.mem_cons.mp hx with z | z
        · cases z; exact absurd rfl hk
        · exact q4 x z
theorem closure_of {env : Env} {scope : Scope} (h : ∀ p ∈ scope.names, p.2 = .free → ∃ c, env.cells.lookup p.1 = some c) :
    ∃ cl, closureFor scope env = pure cl ∧ (∀ x c, cl.lookup x = some c → env.cells.lookup x = some c) ∧ ∀ x, (x, NameKind.free) ∈ scope.names → ∃ c, cl.lookup x = some c := by
  obtain ⟨cl, q1, q2, _, q4⟩ := closure_go scope.names [] h (fun _ _ z => nomatch z)
  refine ⟨cl, ?_, q2, q4⟩
  unfold closureFor
  dsimp only
  rw [q1]
  rfl
theorem lookup_mem' : ∀ {l : List (Str × NameKind)} {x : Str} {k : NameKind}, l.lookup x = some k → (x, k) ∈ l
  | (n, k') :: r, x, k, h => by
    rw [List.lookup_cons] at h
    cases hx : x == n with
    | true => rw [hx] at h; cases h; rw [eq_of_beq hx]; exact List.mem_cons_self
    | false => rw [hx] at h; exact List.mem_cons_of_mem _ (lookup_mem' h)
theorem relabel_cell {scope : Scope} {env : Env} {x : Str} (hc : ∀ p ∈ scope.names, p.2 ≠ .cell) (h : (relabel scope env).names.lookup x = some .cell ∨ (relabel scope env).names.lookup x = some .free) : (x, NameKind.free) ∈ scope.names := by
  have : ∃ k, (x, k) ∈ (relabel scope env).names ∧ (k = .cell ∨ k = .free) := by
    rcases h with h | h
    · exact ⟨_, lookup_mem' h, .inl rfl⟩
    · exact ⟨_, lookup_mem' h, .inr rfl⟩
  obtain ⟨k, hm, hk⟩ := this
  obtain ⟨⟨n, k0⟩, hp, e⟩ := List.mem_map.mp hm
  dsimp only at e
  split at e
  · rename_i q
    cases e
    have : k0 = .free := by
      rw [Bool.and_eq_true, Bool.and_eq_true] at q
      exact eq_of_beq q.1.1
    rw [this] at hp; exact hp
  · cases e
    rcases hk with rfl | rfl
    · exact absurd rfl (hc _ hp)
    · exact hp
theorem relabel_free {env : Env} : ∀ {names : List (Str × NameKind)} {x : Str}, names.lookup x = some .free →
    (names.map fun (n, k) => if (k == NameKind.free && env.scope.kind == .function && env.kindOf n == some .cell) then (n, NameKind.cell) else (n, k)).lookup x ≠ some .local
  | [], _, h => nomatch h
  | (n, k) :: r, x, h => by
    rw [List.map_cons]
    rw [List.lookup_cons] at h
    dsimp only
    cases hx : x == n with
    | true =>
      rw [hx] at h
      cases h
      split
      · rw [List.lookup_cons, hx]; intro z; cases z
      · rw [List.lookup_cons, hx]; intro z; cases z
    | false =>
      rw [hx] at h
      split
      · rw [List.lookup_cons, hx]; exact relabel_free h
      · rw [List.lookup_cons, hx]; exact relabel_free h
structure CP where
  cl : List (Str × Addr)
  C : Addr
  s : Shared
  H : Hp
  fp : List Addr
def Cx.compC (X : Cx) (N : List Str) (scope : Scope) (c : CP) : Cx :=
  { X with N := N, s₀ := c.s, H₀ := c.H, env := compEnvC scope c.cl c.C X.env, outer := X.stack, ex := c.fp, fn := fun _ => false, pn := [], xe := fun _ _ => False }
abbrev Cx.comp (X : Cx) (N : List Str) (scope : Scope) (cl : List (Str × Addr)) (C : Addr) (s : Shared) (H : Hp) (fp : List Addr) : Cx := X.compC N scope ⟨cl, C, s, H, fp⟩
section
variable {X : Cx} {pins : List (Addr × Obj)} {σ : St} {H : Hp} {s : Shared} {N : List Str} {scope : Scope} {cl : List (Str × Addr)} {C : Addr} {fp : List Addr}
theorem Inv.compOk (I : Inv X pins σ H s) (hf : ∀ b ∈ fp, FpOk X pins H b) (hlt : ∀ b ∈ fp, b < s.heap.objs.size) (hC : s.heap.objs.size ≤ C) (hkind : scope.kind = .function) (hcell : ∀ p ∈ scope.names, p.2 ≠ .cell)
    (h1 : ∀ x c, cl.lookup x = some c → X.env.cells.lookup x = some c) (h2 : ∀ x, (x, NameKind.free) ∈ scope.names → ∃ c, cl.lookup x = some c) : (X.comp N scope cl C s H fp).Ok where
  mod := I.ok.mod
  kind := hkind
  glob := I.ok.glob
  blt := I.ok.blt
  above := hC
  inj := fun x y c e1 e2 => I.ok.inj x y c (h1 x c e1) (h1 y c e2)
  has := fun x h => h2 x (relabel_cell hcell h)
  cab := fun _ _ z => nomatch z
  hd := I.ok.hd
  frames := I.ok.frames
  stk := .inl rfl
  exf := fun b hb => ⟨fun z => Nat.lt_irrefl _ (Nat.lt_of_lt_of_le (hlt b hb) (by rw [z]; exact hC)), fun x c e => (hf b hb).2.2.2.2.1 x c (h1 x c e)⟩
  bs := I.bs
  bsz := Nat.le_trans I.ok.bsz I.sz
  noex := fun b o e hb => by
    rcases (hf b hb).2.2.2.1 with z | z
    · exact I.ok.noex b o e z
    · exact absurd (Nat.lt_of_lt_of_le (Heap.lt_size e) (Nat.le_trans I.ok.bsz z)) (Nat.lt_irrefl _)
  exfs := fun b hb z => by
    rcases List.mem_cons.mp (I.stkSub b z) with e | e
    · exact (hf b hb).2.1 e
    · exact (hf b hb).2.2.1 e
  funs := I.stack
  frf := I.stkFree
end
def compSt (cap : List (Option Nat)) (σ : St) : St := cap.map fun o => match o with
  | none => none
  | some j => (σ[j]?).join
def PIfs (X : Cx) (ifs : List Expr) (t : TT) : Prop := ∀ (pins : List (Addr × Obj)) (s : Shared) (σ : St) (H : Hp) (Q : Bool → Hp → Prop), Inv X pins σ H s → t σ H Q →
  wpAny (model X.prog X.w) X.A (forIn ifs true fun (c : Expr) (r : Bool) => if r = true then (PySem.isTrue c X.env (eval c X.env) >>= fun ok => (pure (ForInStep.yield ok) : Sem _)) else (pure (ForInStep.yield r) : Sem _)) (TP X pins σ Q) X.xe s
def tTrue : TT := fun _ H Q => Q true H
theorem pf_nil {X : Cx} : PIfs X [] tTrue := fun pins s σ H Q I h => wpAny_tests_nil ⟨H, I, h⟩
theorem comp_loop {prog : Program} {w : World} {A : Around} {R : Result → Shared → Prop} {s : Shared} {elt tg iter : Expr} {ifs : List Expr} {scope : Scope} {pos : Pos} {it acc : Value} {env : Env} (J : Nat → Shared → Prop)
    (turn : ∀ n s, J n s → wpAny (model prog w) A (pyNext it) (fun r s₁ => match r with
      | none => R (.ok .next) s₁
      | some v => wpAny (model prog w) A (letOwnedTupleGo tg it v) (fun _ s₂ => wpAny (model prog w) A (assign tg env v) (fun _ s₃ =>
          wpAny (model prog w) A (forIn ifs true fun (c : Expr) (r : Bool) => if r = true then (PySem.isTrue c env (eval c env) >>= fun ok => (pure (ForInStep.yield ok) : Sem _)) else (pure (ForInStep.yield r) : Sem _)) (fun ok s₄ =>
            if ok = true then wpAny (model prog w) A (eval elt env) (fun x s₅ => wpAny (model prog w) A (call (.builtin "list.append") [acc, x]) (fun _ s₆ => ∃ m, m < n ∧ J m s₆) (fun _ _ => False) s₅) (fun _ _ => False) s₄
            else ∃ m, m < n ∧ J m s₄) (fun _ _ => False) s₃) (fun _ _ => False) s₂) (fun _ _ => False) s₁) (fun _ _ => False) s)
    (n : Nat) (h : J n s) : codeAny (model prog w) A (.compLoop (.ListComp elt [⟨tg, iter, ifs, 0⟩] scope pos) 0 it acc env) R s := by
  have off : ∀ {α : Type} {t : Sem α} {Q : α → Shared → Prop} {E : Value → Shared → Prop} {s : Shared}, wpAny (model prog w) A t Q (fun _ _ => False) s → wpAny (model prog w) A t Q E s := fun h => wpAny_mono h (fun _ _ q => q) fun _ _ z => z.elim
  refine codeAny_loop rfl J (fun n s hJ => ?_) n h
  show wpAny _ A ((compTurn (.ListComp elt [⟨tg, iter, ifs, 0⟩] scope pos) 0 it acc env).onRaise (fun x => do noteFrame x env; theTreesLotGoes x)) _ _ s
  refine wpAny_noted ?_
  rw [compTurn_list]
  refine wpAny_bind (wpAny_standAt (wpAny_bind (off (thn (turn n s hJ) fun r s₁ h₁ => ?_))))
  cases r with
  | none => exact wpAny_pure h₁
  | some v =>
    refine wpAny_bind (off (thn h₁ fun _ s₂ h₂ => wpAny_bind (off (thn h₂ fun _ s₃ h₃ => wpAny_bind (off (thn h₃ fun ok s₄ h₄ => ?_))))))
    cases ok with
    | false => exact wpAny_pure ⟨rfl, h₄⟩
    | true => exact wpAny_bind (wpAny_bind (off (thn h₄ fun x s₅ h₅ => wpAny_bind (off (thn h₅ fun _ s₆ h₆ => wpAny_pure (wpAny_pure ⟨rfl, h₆⟩))))))
def LCgo (J : It) (g : TG) (tt : TT) (te : TE) (D : Addr) (σ : St) (H : Hp) (Q : VK) : Prop := ∃ W : Nat → Nat → St → Hp → Prop, (∃ m, W 0 m σ H) ∧ ∀ i m σc Hc, W i m σc Hc →
  (J.stop i Hc ∧ Q (.ref D) Hc) ∨ (J.go i Hc ∧ ∃ N : St → Hp → Prop, (∀ σ' H', N σ' H' → ∃ m', m' < m ∧ W (i + 1) m' σ' H') ∧ ∀ x H', J.yld i Hc x H' → g x σc H' fun σ2 H2 => tt σ2 H2 fun b H3 =>
    if b = true then te σ2 H3 fun v H4 => ∃ ys, H4 D = some (.lst ys) ∧ ys.length < sizeLine ∧ N σ2 (upd H4 D (.lst (ys ++ [v]))) else N σ2 H3)
def tLC (cap : List (Option Nat)) (wi : TI) (g : CP → TG) (tt : CP → TT) (te : CP → TE) : TE := fun σ H Q => wi σ H fun J H1 => ∀ D, H1 D = none → ∀ c : CP, LCgo J (g c) (tt c) (te c) D (compSt cap σ) (upd H1 D (.lst [])) Q
section
variable {X : Cx} {N : List Str} {scope : Scope} {tg elt iter : Expr} {ifs : List Expr} {pos : Pos} {wi : TI} {g : CP → TG} {tt : CP → TT} {te : CP → TE} {cap : List (Option Nat)}
structure CompParts (X : Cx) (N : List Str) (scope : Scope) (tg : Expr) (ifs : List Expr) (elt : Expr) (g : CP → TG) (tt : CP → TT) (te : CP → TE) : Prop where
  tg : ∀ c, PG (X.compC N scope c) tg (g c)
  ifs : ∀ c, PIfs (X.compC N scope c) ifs (tt c)
  elt : ∀ c, PE (X.compC N scope c) elt (te c)
def CapOk (X : Cx) (N : List Str) (scope : Scope) (cap : List (Option Nat)) : Prop := cap.length = N.length ∧ ∀ (i : Nat) (x : Str) (j : Nat), N[i]? = some x → cap[i]? = some (some j) → X.N[j]? = some x ∧ X.env.kindOf x = some .cell ∧ scope.names.lookup x = some .free
theorem comp_block (hc : X.calm = true) (hkind : scope.kind = .function) (hcell : ∀ p ∈ scope.names, p.2 ≠ .cell) (hcap : CapOk X N scope cap) (B : CompParts X N scope tg ifs elt g tt te) {cl : List (Str × Addr)}
    (h1 : ∀ x c, cl.lookup x = some c → X.env.cells.lookup x = some c) (h2 : ∀ x, (x, NameKind.free) ∈ scope.names → ∃ c, cl.lookup x = some c) (hfk : X.env.scope.kind = .function)
    {pins : List (Addr × Obj)} {σ : St} {H : Hp} {s : Shared} {it : Addr} {fp : List Addr} {tn : Nat → Heap → Prop} {J : It} {Q : VK} {E : Value → Shared → Prop} {RR : Value → Addr → Result → Shared → Prop}
    (I : Inv X pins σ H s) (T : Turn X.prog X.w X.K tg J fp it tn) (st : tn 0 s.heap) (f : ∀ b ∈ fp, FpOk X pins H b)
    (h : ∀ D, H D = none → ∀ c : CP, LCgo J (g c) (tt c) (te c) D (compSt cap σ) (upd H D (.lst [])) Q)
    (hR : ∀ D C H' s' m, Inv X pins σ H' s' → Q (.ref D) H' → s'.heap.Ns C m → s.heap.objs.size ≤ C → H' C = none → RR (.ref D) C (.ok .next) s') :
    wpAny (model X.prog X.w) X.A (newList []) (fun acc s₃ => wpAny (model X.prog X.w) X.A (newFunctionEnv scope X.env.globals cl [] X.env.qual none .none (some X.env)) (fun cenv s₄ =>
      codeAny (model X.prog X.w) X.A (.compStart (.ListComp elt [⟨tg, iter, ifs, 0⟩] scope pos) 0 (.ref it) acc { cenv with scope := relabel scope X.env }) (RR acc cenv.locals) s₄) E s₃) E s := by
  have hlt : ∀ b ∈ fp, b < s.heap.objs.size := fun b hb => by obtain ⟨o, e, _⟩ := T.obj _ _ st b hb; exact Heap.lt_size e
  refine wpAny_newObj_type (wpAny_newFunctionEnv hcell (by intro y hy; simp at hy) (fun h₁ hns₁ hsb₁ => ?_) hkind)
  dsimp only at hns₁ hsb₁ ⊢
  generalize hD : s.heap.push { cls := .type "list", dict := none, data := .seq ([] : List Value).toArray } = G at hns₁ hsb₁ ⊢
  have hC : G.objs.size = s.heap.objs.size + 1 := by rw [← hD, Heap.size_push]
  have hCle : s.heap.objs.size ≤ G.objs.size := by rw [hC]; exact Nat.le_succ _
  have hDC : s.heap.objs.size ≠ G.objs.size := by rw [hC]; exact Nat.ne_of_lt (Nat.lt_succ_self _)
  have old : ∀ b o, s.heap.get? b = some o → h₁.get? b = some o := fun b o e =>
    hsb₁.extBut b o (by have := Heap.lt_size e; rw [hC]; exact Nat.ne_of_lt (Nat.lt_succ_of_lt this)) (Heap.get?_push_of_some _ (hD ▸ Heap.get?_push_of_some _ e))
  have hacc : h₁.get? s.heap.objs.size = some { cls := .type "list", dict := none, data := .seq ([] : List Value).toArray } := hsb₁.extBut _ _ hDC (Heap.get?_push_of_some _ (hD ▸ Heap.get?_push_size _ rfl))
  have hDn : H s.heap.objs.size = none := I.hok.fresh (Nat.le_refl _)
  have hCn : H G.objs.size = none := I.hok.fresh hCle
  obtain ⟨W, ⟨m0, w0⟩, turn⟩ := h s.heap.objs.size hDn ⟨cl, G.objs.size, s, H, fp⟩
  have ok := I.compOk (N := N) (C := G.objs.size) f hlt hCle hkind hcell h1 h2
  have tup' : ∀ b xs, H b = some (.tup xs) → upd H s.heap.objs.size (.lst []) b = some (.tup xs) := fun b xs e => by rw [upd_ne (ne_of_none e hDn)]; exact e
  have hok1 : HOk X.prog X.w (upd H s.heap.objs.size (.lst [])) h₁ := I.hok.laid old (Nat.le_refl _) ⟨Nat.zero_le _, [], _, .nil, hacc⟩
  have I1 : Inv (X.comp N scope cl G.objs.size s H fp) [] (compSt cap σ) (upd H s.heap.objs.size (.lst [])) { s with heap := h₁, toks := s.toks + ([] : List (Str × Value)).length } := by
    refine ⟨ok, rfl, I.bare, Un.laid old (Nat.le_refl _) hDn, ⟨_, hns₁, fun i x v e1 e2 e3 => ?_⟩, fun x c e => ?_, ?_, fun x c e => ?_, (fun p hp => absurd (show p ∈ ([] : List (Addr × Obj)) from hp) (by simp)), hok1, ?_⟩
    · unfold compSt at e2
      rw [List.getElem?_map] at e2
      cases hj : cap[i]? with
      | none => rw [hj] at e2; cases e2
      | some o =>
        cases o with
        | none => rw [hj] at e2; cases e2
        | some j =>
          rw [hj] at e2
          have e2' : (σ[j]?).join = some v := Option.some.inj e2
          have e4 : σ[j]? = some (some v) := by
            cases q : σ[j]? with
            | none => rw [q] at e2'; cases e2'
            | some y => rw [q] at e2'; exact congrArg some e2'
          obtain ⟨c1, c2, c3⟩ := hcap.2 i x j e1 hj
          obtain ⟨m, hn, hl⟩ := I.loc
          obtain ⟨u, r, l⟩ := hl j x v c1 e4 (.inr (.inl c2))
          refine ⟨u, r, ?_⟩
          rcases l with ⟨k, _⟩ | ⟨_, c, hc', z⟩
          · rw [c2] at k; cases k
          · have fm : (x, NameKind.free) ∈ scope.names := lookup_mem' c3
            obtain ⟨c', hc2⟩ := h2 x fm
            have : c' = c := by have := h1 x c' hc2; rw [hc'] at this; exact (Option.some.inj this).symm
            subst this
            obtain ⟨oc, hoc, hd⟩ := z
            refine .inr ⟨?_, c', hc2, ⟨oc, old _ _ hoc, hd⟩⟩
            rcases e3 with q | q | q
            · exact absurd q (relabel_free c3)
            · exact .inl q
            · exact .inr q
    · obtain ⟨v, oc, hoc, hd⟩ := I.cell x c (h1 x c e)
      exact ⟨v, oc, old _ _ hoc, hd⟩
    · rw [show (X.comp N scope cl G.objs.size s H fp).env.locals = G.objs.size from rfl, upd_ne (Ne.symm hDC)]; exact hCn
    · have z := I.freeC x c (h1 x c e)
      obtain ⟨v, oc, hoc, hd⟩ := I.cell x c (h1 x c e)
      rw [upd_ne (Nat.ne_of_lt (Heap.lt_size hoc))]; exact z
    · unfold compSt; rw [List.length_map]; exact hcap.1
  have fok : ∀ {H' : Hp}, (∀ b ∈ fp, H' b = none) → ∀ b ∈ fp, FpOk (X.comp N scope cl G.objs.size s H fp) [] H' b := fun hn b hb =>
    ⟨hn b hb, (ok.exf b hb).1, ok.exfs b hb, .inl hb, (ok.exf b hb).2, (fun p hp => absurd (show p ∈ ([] : List (Addr × Obj)) from hp) (by simp))⟩
  have st1 : tn 0 h₁ := T.keep _ _ _ st fun b _ o e => old b o e
  have fr1 : ∀ b ∈ fp, upd H s.heap.objs.size (.lst []) b = none := fun b hb => by rw [upd_ne (Nat.ne_of_lt (hlt b hb))]; exact (f b hb).1
  have loop : ∀ s₃ : Shared, s₃ = { s with heap := h₁, toks := s.toks + ([] : List (Str × Value)).length } →
      codeAny (model X.prog X.w) X.A (.compLoop (.ListComp elt [⟨tg, iter, ifs, 0⟩] scope pos) 0 (.ref it) (.ref s.heap.objs.size) (compEnvC scope cl G.objs.size X.env)) (RR (.ref s.heap.objs.size) G.objs.size) s₃ := by
    rintro s₃ rfl
    refine comp_loop (fun n s' => ∃ i σ' H', Inv (X.comp N scope cl G.objs.size s H fp) [] σ' H' s' ∧ tn i s'.heap ∧ (∀ b ∈ fp, H' b = none) ∧ W i n σ' H') ?_ m0 ⟨0, _, _, I1, st1, fr1, w0⟩
    rintro n s3 ⟨i, σ3, H3, I3, st3, fr3, w3⟩
    rcases turn i n σ3 H3 w3 with ⟨stop, q⟩ | ⟨go, N', hN, step⟩
    · refine thn (T.done (X.comp N scope cl G.objs.size s H fp) rfl rfl rfl hc i [] s3 σ3 H3 _ I3 (fok fr3) st3 stop) fun r s4 ⟨hr, I4⟩ => ?_
      subst hr
      obtain ⟨m, hn, _⟩ := I4.loc
      refine hR _ _ H3 s4 m (I.call' (ch := fp) I4.os I4.base I4.hok I4.bare fun b hb => ?_) q hn hCle I4.free
      obtain ⟨_, z1, _, z3, z4, z5⟩ := f b hb
      exact ⟨z3, z1, z4, z5⟩
    · refine thn (T.item (X.comp N scope cl G.objs.size s H fp) rfl rfl rfl hc i [] s3 σ3 H3 _ I3 (fok fr3) st3 go) fun r s4 ⟨u, hr, h4⟩ => ?_
      subst hr
      refine thn h4 fun _ s5 ⟨x, H5, I5, r5, y5, st5, fr5⟩ => ?_
      have I5' := I5.pinned (fok fr5) (T.obj _ _ st5)
      refine thn (B.tg ⟨cl, G.objs.size, s, H, fp⟩ _ s5 σ3 H5 x u _ I5' r5 (step x H5 y5)) fun _ s6 ⟨σ6, H6, I6, q6⟩ => ?_
      refine thn (B.ifs ⟨cl, G.objs.size, s, H, fp⟩ _ s6 σ6 H6 _ I6 q6) fun ok7 s7 ⟨H7, I7, q7⟩ => ?_
      have again : ∀ {s8 : Shared} {H8 : Hp}, Inv (X.comp N scope cl G.objs.size s H fp) ([] ++ pinsAt fp s5.heap) σ6 H8 s8 → N' σ6 H8 → ∃ m, m < n ∧ ∃ i σ' H', Inv (X.comp N scope cl G.objs.size s H fp) [] σ' H' s8 ∧ tn i s8.heap ∧ (∀ b ∈ fp, H' b = none) ∧ W i m σ' H' := fun {s8 H8} I8 n8 => by
        obtain ⟨m', hm, w8⟩ := hN σ6 H8 n8
        have pn : ∀ b o, b ∈ fp → s5.heap.get? b = some o → s8.heap.get? b = some o ∧ H8 b = none := fun b o hb e =>
          let z := I8.pin (b, o) (List.mem_append_right _ (List.mem_append_right _ (mem_pinsAt hb e))); ⟨z.1, z.2.1⟩
        refine ⟨m', hm, i + 1, σ6, H8, I8.unpinned, T.keep _ _ _ st5 fun b hb o e => (pn b o hb e).1, fun b hb => ?_, w8⟩
        obtain ⟨o, e, d⟩ := T.obj _ _ st5 b hb
        exact (pn b o hb e).2
      cases ok7 with
      | false => rw [if_neg Bool.false_ne_true] at q7 ⊢; exact again I7 q7
      | true =>
        rw [if_pos rfl] at q7 ⊢
        refine thn (B.elt ⟨cl, G.objs.size, s, H, fp⟩ _ s7 σ6 H7 _ I7 q7) fun v s8 ⟨y, H8, I8, r8, ys, hy, hs, n8⟩ => ?_
        refine thn (mt_append (X := X.comp N scope cl G.objs.size s H fp) _ s8 σ6 H8 (.ref s.heap.objs.size) [y] (.ref s.heap.objs.size) [v] (fun z H9 => z = .non ∧ H9 = upd H8 s.heap.objs.size (.lst (ys ++ [y]))) I8 rfl (.cons r8 .nil) ⟨_, ys, y, rfl, rfl, hy, hs, rfl, rfl⟩) fun _ s9 ⟨z, H9, I9, _, _, e9⟩ => ?_
        subst e9
        exact again I9 n8
  exact codeAny_compStart_list (loop _ rfl) (T.self _ 0 _ _ _ st1 (loop _ rfl))
end
end L2
set_option maxHeartbeats 4000000
namespace L2
open PySem PySem.Spec PyProof.Rows
section
variable {X : Cx} {N : List Str} {scope : Scope} {tg elt iter : Expr} {ifs : List Expr} {pos : Pos} {wi : TI} {g : CP → TG} {tt : CP → TT} {te : CP → TE} {cap : List (Option Nat)}
structure CompSc (X : Cx) (N : List Str) (scope : Scope) (cap : List (Option Nat)) : Prop where
  kind : scope.kind = .function
  cell : ∀ p ∈ scope.names, p.2 ≠ .cell
  names : ∀ p ∈ scope.names, p.2 = .local → scope.names.lookup p.1 = some .local
  free : ∀ p ∈ scope.names, p.2 = .free → X.env.kindOf p.1 = some .cell ∨ X.env.kindOf p.1 = some .free
  cap : CapOk X N scope cap
def compScB (XN : List Str) (xsc : Scope) (N : List Str) (scope : Scope) (cap : List (Option Nat)) : Bool :=
  scope.kind == .function && scope.names.all (fun p => p.2 != .cell) && scope.names.all (fun p => p.2 != .local || scope.names.lookup p.1 == some .local) &&
  scope.names.all (fun p => p.2 != .free || (xsc.names.lookup p.1 == some .cell || xsc.names.lookup p.1 == some .free)) && cap.length == N.length &&
  (List.range N.length).all fun i => match N[i]?, cap[i]? with
    | some x, some (some j) => XN[j]? == some x && xsc.names.lookup x == some .cell && scope.names.lookup x == some .free
    | _, _ => true
theorem compSc_of (h : compScB X.N X.env.scope N scope cap = true) : CompSc X N scope cap := by
  unfold compScB at h
  simp only [Bool.and_eq_true] at h
  obtain ⟨⟨⟨⟨⟨h1, h2⟩, h3⟩, h4⟩, h5⟩, h6⟩ := h
  refine ⟨eq_of_beq h1, fun p hp z => ?_, fun p hp z => ?_, fun p hp z => ?_, eq_of_beq h5, fun i x j e1 e2 => ?_⟩
  · have := List.all_eq_true.mp h2 p hp
    rw [z] at this; cases this
  · have := List.all_eq_true.mp h3 p hp
    rw [z] at this
    simpa using this
  · have := List.all_eq_true.mp h4 p hp
    rw [z] at this
    have e : (NameKind.free != NameKind.free) = false := by decide
    rw [e, Bool.false_or, Bool.or_eq_true] at this
    rcases this with q | q
    · exact .inl (eq_of_beq q)
    · exact .inr (eq_of_beq q)
  · have hi : i < N.length := (List.getElem?_eq_some_iff.mp e1).1
    have := List.all_eq_true.mp h6 i (List.mem_range.mpr hi)
    rw [e1, e2] at this
    simp only [Bool.and_eq_true] at this
    exact ⟨eq_of_beq this.1.1, eq_of_beq this.1.2, eq_of_beq this.2⟩
theorem CompSc.clo {pins : List (Addr × Obj)} {σ : St} {H : Hp} {s : Shared} (S : CompSc X N scope cap) (I : Inv X pins σ H s) :
    ∃ cl, closureFor scope X.env = pure cl ∧ (∀ x c, cl.lookup x = some c → X.env.cells.lookup x = some c) ∧ ∀ x, (x, NameKind.free) ∈ scope.names → ∃ c, cl.lookup x = some c :=
  closure_of fun p hp z => I.ok.has p.1 (S.free p hp z)
theorem Inv.letGo {pins : List (Addr × Obj)} {σ : St} {H H2 : Hp} {s s2 : Shared} {C : Addr} {h' : Heap} (I2 : Inv X pins σ H2 s2) (I : Inv X pins σ H s) (hC : s2.heap.objs.size ≤ C) (hn : H C = none) (hs : Heap.SameBut C s.heap h') : Inv X pins σ H { s with heap := h' } := by
  obtain ⟨f0, f1, f2, f3, f4, f5⟩ := I2.fpOk (H' := H) hC hn
  exact I.turned (t' := s.toks) (fun b o hb e => hs.extBut b o hb e) f0 f1 f3 f4 f5
theorem pe_lc (S : CompSc X N scope cap) (hc : X.calm = true) (hi : PI X tg iter wi) (B : CompParts X N scope tg ifs elt g tt te) (hs : ∀ x, foldedSetIterable iter X.env x = pure x := by intro _; rfl) :
    PE X (.ListComp elt [⟨tg, iter, ifs, 0⟩] scope pos) (tLC cap wi g tt te) := by
  intro pins s σ H Q I h
  obtain ⟨cl, hcl, h1, h2⟩ := S.clo I
  rw [eval_ListComp]
  refine wpAny_comprehension_free (use := none) rfl hs hcl S.kind S.names (thn (hi pins s σ H _ I h) fun v s1 q1 => thn q1 fun itv s2 ⟨it, fp, tn, J, H2, e, I2, T, st, f, q⟩ => ?_)
  subst e
  refine comp_block (RR := fun acc C => compPost (model X.prog X.w) X.A X.xe none (EP X pins σ Q) acc C) hc S.kind S.cell S.cap B h1 h2 I2.ok.kind I2 T st f q fun D C H' s' m I' q' hn hC hCn => ?_
  exact ⟨m, hn, fun h' hs' => ⟨.ref D, H', I2.letGo I' hC hCn hs', rfl, q'⟩⟩
end
structure Walk (J : It) (xs : List V) (Ok : Hp → Prop) : Prop where
  go : ∀ i H, i < xs.length → Ok H → J.go i H
  stop : ∀ i H, xs.length ≤ i → Ok H → J.stop i H
  yld : ∀ i H x H', i < xs.length → Ok H → J.yld i H x H' → H' = H ∧ xs[i]? = some x
theorem walk_list {K : PySem.W.Frag} {a : Addr} {xs : List V} : Walk (Itl K a) xs (fun H => SqL K H a xs) where
  go := fun i H h q => ⟨xs, xs[i], q, by simp [h]⟩
  stop := fun i H h q => ⟨xs, q, h⟩
  yld := fun i H x H' _ q y => ⟨y.1, y.2 xs q⟩
theorem walk_tup {K : PySem.W.Frag} {a : Addr} {xs : List V} : Walk (Itt K a) xs (fun H => SqT K H a xs) where
  go := fun i H h q => ⟨xs, xs[i], q, by simp [h]⟩
  stop := fun i H h q => ⟨xs, q, h⟩
  yld := fun i H x H' _ q y => ⟨y.1, y.2 xs q⟩
def chr1 (c : Nat) : V := .str ⟨#[c]⟩
theorem walk_str {z : Str} : Walk (Its z) (z.cps.toList.map chr1) (fun _ => True) where
  go := fun i H h _ => by
    rw [List.length_map, Array.length_toList] at h
    exact h
  stop := fun i H h _ => by
    rw [List.length_map, Array.length_toList] at h
    exact h
  yld := fun i H x H' _ _ y => by
    obtain ⟨e, c, hc, rfl⟩ := y
    exact ⟨e, by rw [List.getElem?_map, hc]; rfl⟩
def upto (lo : Int) (n : Nat) : List V := (List.range n).map fun (k : Nat) => V.int (lo + k)
theorem walk_range {lo : Int} {n : Nat} : Walk (Itr lo n) (upto lo n) (fun _ => True) where
  go := fun i H h _ => by
    unfold upto at h; rw [List.length_map, List.length_range] at h
    exact h
  stop := fun i H h _ => by
    unfold upto at h; rw [List.length_map, List.length_range] at h
    exact h
  yld := fun i H x H' h _ y => by
    unfold upto at h; rw [List.length_map, List.length_range] at h
    obtain ⟨e, hx⟩ := y
    subst hx
    refine ⟨e, ?_⟩
    unfold upto
    rw [List.getElem?_map, List.getElem?_range h]
    rfl
theorem for_walk {J : It} {xs : List V} {Ok : Hp → Prop} (Wk : Walk J xs Ok) {g : TG} {tb : TS} {D : Ends} {σ : St} {H : Hp} (Pv : Nat → St → Hp → Prop) (h0 : Pv 0 σ H) (hl : ∀ i σ H, i ≤ xs.length → Pv i σ H → Ok H)
    (hs : ∀ i x σ H, xs[i]? = some x → Pv i σ H → g x σ H fun σ2 H2 => tb { D with nx := Pv (i + 1), ct := Pv (i + 1), bk := D.nx } σ2 H2) (hd : ∀ σ H, Pv xs.length σ H → D.nx σ H) :
    ∃ W : Nat → Nat → St → Hp → Prop, (∃ m, W 0 m σ H) ∧ ∀ i m σ H, W i m σ H →
      (J.stop i H ∧ D.nx σ H) ∨ (J.go i H ∧ ∃ N : St → Hp → Prop, (∀ σ' H', N σ' H' → ∃ m', m' < m ∧ W (i + 1) m' σ' H') ∧ ∀ x H', J.yld i H x H' → g x σ H' fun σ2 H2 => tb { D with nx := N, ct := N, bk := D.nx } σ2 H2) := by
  refine ⟨fun i m σ H => m = xs.length - i ∧ i ≤ xs.length ∧ Pv i σ H, ⟨xs.length, by simp, Nat.zero_le _, h0⟩, ?_⟩
  rintro i m σ H ⟨rfl, hi, p⟩
  have q := hl i σ H hi p
  by_cases hlt : i < xs.length
  · refine .inr ⟨Wk.go i H hlt q, Pv (i + 1), fun σ' H' p' => ⟨xs.length - (i + 1), by omega, rfl, hlt, p'⟩, fun x H' y => ?_⟩
    obtain ⟨e, y'⟩ := Wk.yld i H x H' hlt q y
    subst e
    exact hs i x σ _ y' p
  · have e : i = xs.length := by omega
    subst e
    exact .inl ⟨Wk.stop _ H (Nat.le_refl _) q, hd σ H p⟩
theorem lc_walk {J : It} {xs : List V} {Ok : Hp → Prop} (Wk : Walk J xs Ok) {g : TG} {tt : TT} {te : TE} {σ : St} {H : Hp} {D : Addr} {Q : VK} (Pv : Nat → St → Hp → Prop) (h0 : Pv 0 σ H) (hl : ∀ i σ H, i ≤ xs.length → Pv i σ H → Ok H)
    (hs : ∀ i x σ H, xs[i]? = some x → Pv i σ H → g x σ H fun σ2 H2 => tt σ2 H2 fun b H3 => if b = true then te σ2 H3 fun v H4 => ∃ ys, H4 D = some (.lst ys) ∧ ys.length < sizeLine ∧ Pv (i + 1) σ2 (upd H4 D (.lst (ys ++ [v]))) else Pv (i + 1) σ2 H3)
    (hd : ∀ σ H, Pv xs.length σ H → Q (.ref D) H) : LCgo J g tt te D σ H Q := by
  refine ⟨fun i m σ H => m = xs.length - i ∧ i ≤ xs.length ∧ Pv i σ H, ⟨xs.length, by simp, Nat.zero_le _, h0⟩, ?_⟩
  rintro i m σ H ⟨rfl, hi, p⟩
  have q := hl i σ H hi p
  by_cases hlt : i < xs.length
  · refine .inr ⟨Wk.go i H hlt q, Pv (i + 1), fun σ' H' p' => ⟨xs.length - (i + 1), by omega, rfl, hlt, p'⟩, fun x H' y => ?_⟩
    obtain ⟨e, y'⟩ := Wk.yld i H x H' hlt q y
    subst e
    exact hs i x σ _ y' p
  · have e : i = xs.length := by omega
    subst e
    exact .inl ⟨Wk.stop _ H (Nat.le_refl _) q, hd σ H p⟩
end L2
set_option maxHeartbeats 4000000
namespace L2
open PySem PySem.Spec PyProof.Rows
def Small (n : Int) : Prop := Builtin.Int.intBits n ≤ 1048576
theorem small_of {n : Int} (h : n.natAbs.log2 + 1 ≤ 1048576) : Small n := PySem.intBits_le_iff.mpr (Nat.lt_of_lt_of_le Nat.lt_log2_self (Nat.pow_le_pow_right (by decide) h))
theorem small_zero : Small 0 := by unfold Small; decide
theorem Small.le {m n : Int} (h : Small n) (e : m.natAbs ≤ n.natAbs) : Small m := PySem.intBits_le_iff.mpr (Nat.lt_of_le_of_lt e (PySem.intBits_le_iff.mp h))
theorem script_small : ∀ {ns : List Int} {w : Nat}, PySem.W.WData.weightAll (ns.map PySem.W.WData.int) ≤ w → w ≤ 1048576 → ∀ n ∈ ns, Small n
  | [], _, _, _, _, h => nomatch h
  | x :: r, w, h, hw, n, hn => by
    rw [List.map_cons] at h
    unfold PySem.W.WData.weightAll at h
    rcases List.mem_cons.mp hn with e | e
    · subst e
      unfold PySem.W.WData.weight at h
      by_cases z : n = 0
      · rw [z]; exact small_zero
      · rw [if_neg (by simpa using z)] at h
        exact small_of (by omega)
    · exact script_small (ns := r) (w := w) (by omega) hw n e
theorem script_layable {ns : List Int} (h : PySem.W.WData.layableAll [PySem.W.WData.list (ns.map PySem.W.WData.int)] = true) : ∀ n ∈ ns, Small n := by
  unfold PySem.W.WData.layableAll at h
  rw [List.all_cons, Bool.and_eq_true] at h
  have h1 := h.1
  unfold PySem.W.WData.layable at h1
  rw [Bool.and_eq_true] at h1
  have h2 := of_decide_eq_true h1.2
  unfold PySem.W.WData.weight at h2
  exact script_small h2 (by decide)
theorem walk_b {l : PySem.W.OpenLaw} {n k : Nat} {q : Program} {loose : List Str} {XP : (Str → Option Value) → Heap → Prop} {YP : World → Heap → Prop} {d : DefRec} {K : Params → PySem.W.Frag} {CX : World → CXT} {sp : World → Sp} {x : Str}
    (hn : l.most = some n) (hn2 : n ≤ sizeLine) (hdf : d.params.defaults = []) (hr : Room k callerA)
    (hY : ∀ (w : World) (h : Heap), YP w h → (K w.params).In h)
    (F : ∀ (w : World) (mg : Str → Option Value) (fa : Addr) (h : Heap), (K w.params).In h → h.Ns mainGlobals mg → mg d.name = some (.ref fa) →
      ∃ fd : FuncData, (∀ (s : Shared) (u : Value), BindsTo s fd ⟨[u], []⟩ [(x, u)]) ∧
        ∀ base : Heap, (K w.params).In base → base.Ns mainGlobals mg → FnOk l.prog w (K w.params) mg base (CX w) k fa fd [x] (sp w))
    (hsp : ∀ (w : World) (H : Hp) (a : Addr) (ns : List Int), ns.length ≤ n → (∀ n ∈ ns, Small n) → Only H → SqL (K w.params) H a (ns.map V.int) → sp w [.ref a] H (fun v _ => v = .bl true) fun _ _ _ => False)
    (hCX : ∀ (w : World) (H : Hp) (s : Shared) (e : Value) (s' : Shared), CX w [] H s (fun _ _ _ => False) e s' → False) :
    PySem.W.WalkO q loose XP YP l.row.toRowW d [] (fun f vs => PySem.call f vs) := by
  intro w s₀ s₁ mg mb G Y fa o pm cd doc dV kV ho hd hcd hD hmg hg args vals as hpre hlay hrd hwl hlo
  obtain rfl : dV = .none := PySem.W.Dflts.none hD hdf
  obtain rfl : kV = .none := PySem.W.Dflts.noKw hD
  obtain ⟨a, vs, ns, rfl, rfl, hobj, hints, hlen⟩ := Att.script_of hn hpre hwl
  have KX := hY w _ Y
  obtain ⟨fd, hb, hF⟩ := F w mg fa _ KX G.T.g hmg
  have hc := law_call KX G.T.g G.T.b G.T.builtins G.T.nolimit hg hobj hints (Nat.le_trans hlen hn2) hr hF hb (fun H hO hS => hsp w H a ns hlen (script_layable hlay) hO hS) fun H e s' => hCX w H s₁ e s'
  refine PySem.W.enter_call (codeAny_mono hc fun r s' hq => ?_)
  obtain ⟨rfl, h2, h3, h4⟩ := hq
  exact ⟨.inl ⟨.bool true, .bool true, [], rfl, fun _ => rfl, .bool true, Att.post_true l _, fun _ => ⟨List.Pairwise.nil, fun _ hm => (nomatch hm)⟩⟩, h2, h3, h4⟩
section
variable {X : Cx}
def CMulB (i j : Int) : Prop := Builtin.Int.intBits i ≤ 4000000 ∧ Builtin.Int.intBits j ≤ 4000000
end
end L2
set_option maxHeartbeats 4000000
namespace L2
open PySem PySem.Spec PyProof.Rows
def tx (l : List Nat) : Str := ⟨l.toArray⟩
theorem tx_cps (l : List Nat) : (tx l).cps.toList = l := rfl
theorem tx_len (l : List Nat) : (tx l).length = l.length := List.size_toArray ..
theorem tx_app (l m : List Nat) : tx l ++ tx m = tx (l ++ m) := by
  show (⟨l.toArray ++ m.toArray⟩ : Str) = ⟨(l ++ m).toArray⟩
  rw [List.append_toArray]
theorem tx_inj {l m : List Nat} (h : tx l = tx m) : l = m := congrArg (fun z : Str => z.cps.toList) h
theorem tx_rep (l : List Nat) (n : Int) : repS (tx l) n = tx (List.replicate n.toNat l).flatten := rfl
theorem tx_in (c : Nat) (l : List Nat) : (!(Builtin.Str.occurrences (tx l) (tx [c]) 0 (tx l).length 1).isEmpty) = decide (c ∈ l) := StrLaws.found_one (tx l) c
abbrev vt (l : List Nat) : V := .str (tx l)
theorem cut_to (l : List Nat) (k : Nat) : cutL l none (some (k : Int)) = l.take k := by
  unfold cutL
  rw [HT.sIx_none, HT.sIx_nat, List.drop_zero, Nat.sub_zero]
  by_cases h : k ≤ l.length
  · rw [Nat.min_eq_left h]
  · rw [Nat.min_eq_right (by omega), List.take_length, List.take_of_length_le (by omega)]
theorem cut_from (l : List Nat) (k : Nat) : cutL l (some (k : Int)) none = l.drop k := by
  unfold cutL
  rw [HT.sIx_none, HT.sIx_nat]
  by_cases h : k ≤ l.length
  · rw [Nat.min_eq_left h, List.take_of_length_le (by rw [List.length_drop]; omega)]
  · rw [Nat.min_eq_right (by omega), Nat.sub_self, List.take_zero, List.drop_of_length_le (by omega)]
section
variable {X : Cx}
def rIn1 (neg : Bool) : R2 := fun x y H Q => ∃ c l, x = vt [c] ∧ y = vt l ∧ Q (.bl (if neg then !decide (c ∈ l) else decide (c ∈ l))) H
theorem op_notIn1 : OpR X (compareOp .NotIn) (rIn1 true) := by
  intro pins s σ H x y v u Q I rx ry h
  obtain ⟨c, l, rfl, rfl, q⟩ := h
  exact op_notIn_str pins s σ H _ _ v u Q I rx ry ⟨_, _, rfl, rfl, by rw [tx_in]; exact q⟩
def oNotIn := (op_notIn1 (X := X)).or op_notIn_seq
def iAny (K : PySem.W.Frag) (te : TE) : TI := fun σ H R => te σ H fun x H1 => (∃ a xs, x = .ref a ∧ SqL K H1 a xs ∧ R (Itl K a) H1) ∨ (∃ a xs, x = .ref a ∧ SqT K H1 a xs ∧ R (Itt K a) H1) ∨ (∃ z, x = .str z ∧ R (Its z) H1)
theorem piAny {e : Expr} {te : TE} {nm : Str} {np : Pos} (he : PE X e te) : PI X (.Name nm np) e (iAny X.K te) := by
  intro pins s σ H R I h
  refine thn (he pins s σ H _ I h) fun v s1 ⟨x, H1, I1, r1, q1⟩ => ?_
  have fp : ∀ b ∈ [s1.heap.objs.size], FpOk X pins H1 b := fun b hb => by
    have e : b = s1.heap.objs.size := by simpa using hb
    subst e
    exact I1.fpOk (Nat.le_refl _) (I1.hok.fresh (Nat.le_refl _))
  rcases q1 with ⟨a, xs, rfl, hq, q⟩ | ⟨a, xs, rfl, hq, q⟩ | ⟨z, rfl, q⟩
  · cases r1
    obtain ⟨its, rv, p, hz⟩ := I1.list hq
    exact wpAny_pyIter_list p.isList ⟨s1.heap.objs.size, [s1.heap.objs.size], _, _, H1, rfl, I1.kept (t' := s1.toks) fun b o e => Heap.get?_push_of_some _ e, turn_list a _, ⟨_, Heap.get?_push_size _ rfl, rfl, rfl⟩, fp, q⟩
  · cases r1
    obtain ⟨its, rv, p, hz⟩ := I1.tuple hq
    exact wpAny_pyIter_tuple (show s1.heap.IsTuple a its.toArray from p) ⟨s1.heap.objs.size, [s1.heap.objs.size], _, _, H1, rfl, I1.kept (t' := s1.toks) fun b o e => Heap.get?_push_of_some _ e, turn_tuple a _, ⟨_, Heap.get?_push_size _ rfl, rfl, rfl⟩, fp, q⟩
  · obtain ⟨t, rfl⟩ := r1
    cases ha : z.cps.all (· < 128) with
    | false =>
      exact wpAny_pyIter_wide ha ⟨s1.heap.objs.size, [s1.heap.objs.size], _, _, H1, rfl, I1.kept (t' := s1.toks) fun b o e => Heap.get?_push_of_some _ e, turn_str (ty := "str_iterator") _ z t (fun _ _ _ _ _ _ h1 h2 h3 => wpAny_pyNext_wide_item h1 h2 h3) (fun _ _ _ _ _ h0 h1 h2 h3 => wpAny_pyNext_wide_end h0 h1 h2 h3)
        (fun _ _ _ _ _ h1 h2 => wpAny_pyIter_striter_wide h1 h2), ⟨_, Heap.get?_push_size _ rfl, rfl, rfl⟩, fp, q⟩
    | true =>
      exact wpAny_pyIter_ascii ha ⟨s1.heap.objs.size, [s1.heap.objs.size], _, _, H1, rfl, I1.kept (t' := s1.toks) fun b o e => Heap.get?_push_of_some _ e, turn_str (ty := "str_ascii_iterator") _ z t (fun _ _ _ _ _ _ h1 h2 h3 => wpAny_pyNext_ascii_item h1 h2 h3) (fun _ _ _ _ _ h0 h1 h2 h3 => wpAny_pyNext_ascii_end h0 h1 h2 h3)
        (fun _ _ _ _ _ h1 h2 => wpAny_pyIter_striter_ascii h1 h2), ⟨_, Heap.get?_push_size _ rfl, rfl, rfl⟩, fp, q⟩
theorem walk_tx (l : List Nat) : Walk (Its (tx l)) (l.map fun c => vt [c]) (fun _ => True) := walk_str
theorem sum_lens (ls : List (List Nat)) : ((ls.map tx).map (·.length)).sum = ls.flatten.length := by
  induction ls with
  | nil => rfl
  | cons l r ih => rw [List.map_cons, List.map_cons, List.sum_cons, ih, tx_len, List.flatten_cons, List.length_append]
def between (sep : List Nat) : List (List Nat) → List Nat
  | [] => []
  | [l] => l
  | l :: m :: r => l ++ sep ++ between sep (m :: r)
theorem between_nil (ls : List (List Nat)) : between [] ls = ls.flatten := by
  induction ls with
  | nil => rfl
  | cons l r ih =>
    cases r with
    | nil => simp [between]
    | cons m r => unfold between; rw [ih]; simp
theorem tx_join (sep : List Nat) : ∀ ls : List (List Nat), Txt.join (tx sep) (ls.map tx) = tx (between sep ls) := by
  intro ls
  show Builtin.Str.glued (tx sep) (ls.map tx) = _
  rw [StrLaws.glued_eq_join]
  induction ls with
  | nil => rfl
  | cons l r ih =>
    cases r with
    | nil => rfl
    | cons m r =>
      rw [List.map_cons, List.map_cons]
      show tx l ++ tx sep ++ Str.join (tx sep) (tx m :: r.map tx) = _
      rw [List.map_cons] at ih
      rw [ih, tx_app, tx_app]
      rfl
def SignOk (z : Str) : Prop := z.length ≤ 100000 ∧ ∀ c ∈ z.cps.toList, c < 16 ^ 8
def PF (X : Cx) (e : Expr) (t : St → Hp → (Str → Hp → Prop) → Prop) : Prop := ∀ (pins : List (Addr × Obj)) (s : Shared) (σ : St) (H : Hp) (Q : Str → Hp → Prop), Inv X pins σ H s → t σ H Q →
  wpAny (model X.prog X.w) X.A (eval e X.env) (fun u s' => ∃ z tk H', u = .str z tk ∧ Inv X pins σ H' s' ∧ Q z H') X.xe s
theorem pf_str {z : Str} {j pos} : PF X (.Constant (.str z) j pos) (fun _ H Q => Q z H) := fun _ _ _ H _ I h => Calls.Constant_str ⟨z, _, H, rfl, I.tok _, h⟩
theorem pf_repr {e : Expr} {te : TE} {pos : Pos} (he : PE X e te) : PF X (.FormattedValue e 114 none pos) (fun σ H Q => te σ H fun x H1 => ∃ z, x = .str z ∧ SignOk z ∧ ∀ y : Str, y.length ≤ 10 * z.length + 2 → Q y H1) := by
  intro pins s σ H Q I h
  refine wpAny_FormattedValue_repr (thn (he pins s σ H _ I h) fun v s1 ⟨x, H1, I1, r1, z, e1, hz, q⟩ => ?_)
  subst e1
  obtain ⟨t, rfl⟩ := r1
  have hl := StrLaws.reprText_len z hz.2
  have hs : (PySem.reprText z).length ≤ sizeLine := by have := hz.1; rw [sizeLine_eq]; omega
  refine wpAny_pyReprObj_str ?_ hs
  exact wpAny_formatField_str ⟨_, _, H1, rfl, I1.tok _, q _ hl⟩ ⟨_, _, H1, rfl, I1.tok _, q _ hl⟩ hs
def PFs (X : Cx) (es : List Expr) (t : Str → St → Hp → (Str → Hp → Prop) → Prop) : Prop := ∀ (acc : Str) (pins : List (Addr × Obj)) (s : Shared) (σ : St) (H : Hp) (Q : Str → Hp → Prop), Inv X pins σ H s → t acc σ H Q →
  Joins (model X.prog X.w) X.A X.xe (evalEach es X.env) acc (fun out s' => ∃ H', Inv X pins σ H' s' ∧ Q out H') s
theorem pfs_nil : PFs X [] (fun acc _ H Q => Q acc H) := fun acc pins s σ H Q I h => ⟨H, I, h⟩
theorem pfs_cons {e : Expr} {es : List Expr} {t : St → Hp → (Str → Hp → Prop) → Prop} {u : Str → St → Hp → (Str → Hp → Prop) → Prop} (he : PF X e t) (hs : PFs X es u) :
    PFs X (e :: es) (fun acc σ H Q => t σ H fun z H1 => (acc ++ z).length ≤ sizeLine ∧ u (acc ++ z) σ H1 Q) := by
  intro acc pins s σ H Q I h
  show wpAny _ _ (eval e X.env) _ _ s
  exact thn (he pins s σ H _ I h) fun v s1 ⟨z, tk, H1, e1, I1, hz, q⟩ => ⟨z, tk, e1, hz, hs (acc ++ z) pins s1 σ H1 Q I1 q⟩
def tJoined (u : Str → St → Hp → (Str → Hp → Prop) → Prop) : TE := fun σ H Q => u Str.empty σ H fun out H1 => out.length ≤ sizeLine ∧ Q (.str out) H1
theorem joins_mono {M : Model} {A : Around} {E : Value → Shared → Prop} : ∀ (ps : List (Sem Value)) (acc : Str) (Q Q' : Str → Shared → Prop) (s : Shared), (∀ z s, Q z s → Q' z s) → Joins M A E ps acc Q s → Joins M A E ps acc Q' s
  | [], _, _, _, _, k, h => k _ _ h
  | p :: ps, acc, Q, Q', s, k, h => thn h fun v s1 ⟨y, t, e, hz, hr⟩ => ⟨y, t, e, hz, joins_mono ps _ Q Q' s1 k hr⟩
theorem pe_joined {e1 e2 : Expr} {es : List Expr} {u : Str → St → Hp → (Str → Hp → Prop) → Prop} {pos : Pos} (h : PFs X (e1 :: e2 :: es) u) : PE X (.JoinedStr (e1 :: e2 :: es) pos) (tJoined u) := by
  intro pins s σ H Q I hq
  refine wpAny_JoinedStr (joins_mono _ _ _ _ _ (fun z s' ⟨H', I', hz, q⟩ => ⟨hz, .str z, H', I'.tok _, ⟨_, rfl⟩, q⟩) (h Str.empty pins s σ H _ I hq))
end
end L2
set_option maxHeartbeats 4000000
namespace L2
open PySem PySem.Spec PyProof.Rows
def addNew (acc : List Nat) (c : Nat) : List Nat := if c ∈ acc then acc else acc ++ [c]
def firsts (l : List Nat) : List Nat := l.foldl addNew []
theorem fold_len : ∀ (l acc : List Nat), (l.foldl addNew acc).length ≤ acc.length + l.length ∧ ((l.foldl addNew acc).length = acc.length + l.length ↔ l.Nodup ∧ ∀ c ∈ l, c ∉ acc)
  | [], acc => by simp
  | d :: r, acc => by
    obtain ⟨h1, h2⟩ := fold_len r (addNew acc d)
    rw [List.foldl_cons]
    by_cases hd : d ∈ acc
    · have e : addNew acc d = acc := by unfold addNew; rw [if_pos hd]
      rw [e] at h1 h2 ⊢
      rw [List.length_cons]
      refine ⟨by omega, fun z => absurd z (by omega), fun z => absurd hd (z.2 d List.mem_cons_self)⟩
    · have e : addNew acc d = acc ++ [d] := by unfold addNew; rw [if_neg hd]
      rw [e] at h1 h2 ⊢
      rw [List.length_append, List.length_singleton] at h1 h2
      rw [List.length_cons]
      refine ⟨by omega, fun z => ?_, fun z => ?_⟩
      · obtain ⟨n1, n2⟩ := h2.mp (by omega)
        refine ⟨List.nodup_cons.mpr ⟨fun q => n2 d q (List.mem_append_right _ List.mem_cons_self), n1⟩, fun c hc q => ?_⟩
        rcases List.mem_cons.mp hc with e' | e'
        · rw [e'] at q; exact hd q
        · exact n2 c e' (List.mem_append_left _ q)
      · obtain ⟨n1, n2⟩ := z
        have n3 := List.nodup_cons.mp n1
        have := h2.mpr ⟨n3.2, fun c hc q => by
          rcases List.mem_append.mp q with q | q
          · exact n2 c (List.mem_cons_of_mem _ hc) q
          · have : c = d := by simpa using q
            rw [this] at hc; exact n3.1 hc⟩
        omega
def memb (l : List Nat) : Str → Bool := fun z => decide (∃ c ∈ firsts l, z = tx [c])
def SignSet (P : Program) (w : World) (h : Heap) (a : Addr) (l : List Nat) : Prop := h.SetOf (strKind P w) a (memb l) (firsts l).length
theorem SignSet.at {P : Program} {w : World} {h h' : Heap} {a : Addr} {l : List Nat} (S : SignSet P w h a l) (k : ∀ o, h.get? a = some o → h'.get? a = some o) : SignSet P w h' a l := by
  obtain ⟨o, es, ep, tb, ho, r⟩ := S
  exact ⟨o, es, ep, tb, k o ho, r⟩
section
variable {prog : Program} {w : World} {A : Around} {R : Result → Shared → Prop} {I : Addr} {fp wr : List Addr} {G : Array GenState → Array GenState → Prop} {l : List Nat} {St : Nat → Shared → Prop}
end
namespace SetF
end SetF
section
variable {prog : Program} {w : World} {A : Around} {E : Value → Shared → Prop} {s : Shared}
end
end L2
set_option maxHeartbeats 4000000
namespace L2
open PySem PySem.Spec PyProof.Rows
structure PAs (X : Cx) (es : List Expr) (t : TA) : Prop where
  h : PA X es t
theorem pas_nil {X : Cx} : PAs X [] tNil := ⟨pa_nil⟩
theorem pas_cons {X : Cx} {e : Expr} {te : TE} {es : List Expr} {t : TA} (ha : PE X e te) (hr : PAs X es t) (hs : starEach (e :: es) X.env = (false, eval e X.env) :: starEach es X.env := by rfl) : PAs X (e :: es) (tCons te t) := ⟨pa_cons ha hr.h hs⟩
section
variable {X : Cx}
theorem truth_at {bs : List Bool} {us : List Value} (r : Vals (bs.map V.bl) us) (A : Around) : TruthOf X.prog X.w A (fun i v => us.toArray[i]? = some v) (fun i => bs.getD i false) := by
  intro i v s Q E hv hq
  have hv' : us[i]? = some v := by simpa using hv
  have hl := r.length
  rw [List.length_map] at hl
  have hi : i < bs.length := by have := (List.getElem?_eq_some_iff.mp hv').1; omega
  obtain ⟨u, hu, ru⟩ := r.get (i := i) (x := .bl bs[i]) (by rw [List.getElem?_map, List.getElem?_eq_getElem hi]; rfl)
  rw [hv'] at hu; cases hu
  cases (show v = Value.bool bs[i] from ru)
  refine wpAny_truthy_bool ?_
  have e : bs.getD i false = bs[i] := by rw [List.getD_eq_getElem?_getD, List.getElem?_eq_getElem hi]; rfl
  rw [← e]; exact hq
theorem all_range (bs : List Bool) : (List.range bs.length).all (fun i => bs.getD i false) = bs.all id := by
  induction bs with
  | nil => rfl
  | cons b r ih =>
    rw [List.length_cons, List.range_succ_eq_map, List.all_cons, List.all_map, List.all_cons, ← ih]
    rfl
theorem callAll (hc : X.calm = true) : CallR X (.builtin "all") (fun xs H Q => ∃ (p : Addr) (bs : List Bool), xs = [.ref p] ∧ SqL X.K H p (bs.map V.bl) ∧ Q (.bl (bs.all id)) H) := by
  intro pins s σ H vs us Q I r h
  obtain ⟨p, bs, rfl, hp, q⟩ := h
  obtain ⟨u, rfl, ru⟩ := vals1 r
  cases (show u = Value.ref p from ru)
  obtain ⟨its, rv, pl, _⟩ := I.list hp
  have hlen : its.toArray.size = bs.length := by have := rv.length; rw [List.length_map] at this; simp [this]
  have hne : p ≠ s.heap.objs.size := by obtain ⟨o, ho, _⟩ := pl.isList; exact Nat.ne_of_lt (Heap.lt_size ho)
  have hh := I.ok.hd hc
  refine call_all_walk (wpAny_pyIter_list pl.isList ⟨s.heap.objs.size, _, _, _, _, _, fun i => bs.getD i false, rfl, Walks.list (by simp [hh]) _ p hne its.toArray, ⟨⟨_, Heap.get?_push_size _ rfl, rfl, rfl⟩, pl.isList.push _⟩, truth_at rv _, fun h' tk k => ?_⟩)
  rw [hlen, all_range]
  refine ⟨.bl _, H, I.kept (t' := tk) fun b u e => k b u ?_ (Heap.get?_push_of_some _ e), rfl, q⟩
  intro z
  exact absurd (Heap.lt_size e) (by rw [List.mem_singleton.mp z]; exact Nat.lt_irrefl _)
theorem vals_signs : ∀ (l : List Nat) (us : List Value), us.length = l.length → (∀ (j : Nat) v, us[j]? = some v → SignAt (tx l) j v) → Vals (l.map fun c => vt [c]) us := by
  intro l us hl h
  have key : ∀ (us : List Value) (m : Nat), us.length + m = l.length → (∀ (j : Nat) v, us[j]? = some v → SignAt (tx l) (m + j) v) → Vals ((l.drop m).map fun c => vt [c]) us := by
    intro us
    induction us with
    | nil => intro m hm _; rw [List.drop_of_length_le (by simp at hm; omega)]; exact .nil
    | cons u r ih =>
      intro m hm hs
      rw [List.length_cons] at hm
      obtain ⟨c, tk, hc, rfl⟩ := hs 0 u rfl
      have hc' : l[m]? = some c := by rw [← tx_cps l, Array.getElem?_toList]; exact hc
      obtain ⟨hlt, e⟩ := List.getElem?_eq_some_iff.mp hc'
      rw [List.drop_eq_getElem_cons hlt, e, List.map_cons]
      refine .cons ⟨tk, rfl⟩ (ih (m + 1) (by omega) fun j v hv => ?_)
      have := hs (j + 1) v hv
      rw [show m + (j + 1) = m + 1 + j by omega] at this
      exact this
  have := key us 0 (by omega) (fun j v hv => by rw [Nat.zero_add]; exact h j v hv)
  rwa [List.drop_zero] at this
theorem callListS (hc : X.calm = true) : CallR X (.type "list") (fun xs H Q => ∃ l, xs = [vt l] ∧ l.length ≤ sizeLine ∧ ∀ p, H p = none → Q (.ref p) (upd H p (.lst (l.map fun c => vt [c])))) := by
  intro pins s σ H vs us Q I r h
  obtain ⟨l, rfl, hl, q⟩ := h
  obtain ⟨u, rfl, ru⟩ := vals1 r
  obtain ⟨t, rfl⟩ := ru
  have sz : (tx l).cps.size = l.length := List.size_toArray ..
  refine call_list_str (I.ok.hd hc) (tx l) t (fun h' tk acc c' k e it => ?_) (by rw [sz]; exact hl)
  have hv := vals_signs l acc.toList (by rw [Array.length_toList, it.1, sz]) fun j v hv => it.2 j v (by simpa using hv)
  refine ⟨.ref s.heap.objs.size, _, I.laid (o := .lst (l.map fun c => vt [c])) k (Nat.le_refl _) ⟨by rw [List.length_map]; exact hl, acc.toList, c', hv, by simpa using e⟩, rfl, q _ (I.hok.fresh (Nat.le_refl _))⟩
def callList (hc : X.calm = true) := (call_list_of (X := X)).or (callListS hc)
theorem eqVs_min {xs ys : List V} : ((List.range (min xs.length ys.length)).all (fun j => eqV (xs.getD j .non) (ys.getD j .non)) && xs.length == ys.length) = eqVs xs ys := by
  by_cases h : xs.length = ys.length
  · rw [h, Nat.min_self, beq_self_eq_true, Bool.and_true, ← h, eqVs_all h]
  · rw [eqVs_len h, beq_eq_false_iff_ne.mpr h, Bool.and_false]
def rEqT (K : PySem.W.Frag) (neg : Bool) : R2 := fun x y H Q => ∃ a b xs ys, x = .ref a ∧ y = .ref b ∧ SqT K H a xs ∧ SqT K H b ys ∧ xs.all flatV = true ∧ ys.all flatV = true ∧ Q (.bl (if neg then !eqVs xs ys else eqVs xs ys)) H
theorem op_eqT (hu : X.A.units < cLine) : OpR X (compareOp .Eq) (rEqT X.K false) := by
  intro pins s σ H x y v u Q I rx ry h
  obtain ⟨a, b, xs, ys, rfl, rfl, ha, hb, fx, fy, q⟩ := h
  cases (show v = Value.ref a from rx)
  cases (show u = Value.ref b from ry)
  obtain ⟨its, rv, p, _⟩ := I.tuple ha
  obtain ⟨its2, rv2, p2, _⟩ := I.tuple hb
  refine SeqAt.eq_tupleAt (e := fun j => eqV (xs.getD j .non) (ys.getD j .non)) p p2 hu (fun j h1 h2 => eqAt_items rv rv2 fx fy j h1 h2) ?_
  refine ⟨.bl _, H, I, rfl, ?_⟩
  rw [show its.toArray.size = xs.length by simp [rv.length], show its2.toArray.size = ys.length by simp [rv2.length], eqVs_min]
  exact q
theorem op_neT (hu : X.A.units < cLine) : OpR X (compareOp .NotEq) (rEqT X.K true) := by
  intro pins s σ H x y v u Q I rx ry h
  obtain ⟨a, b, xs, ys, rfl, rfl, ha, hb, fx, fy, q⟩ := h
  cases (show v = Value.ref a from rx)
  cases (show u = Value.ref b from ry)
  obtain ⟨its, rv, p, _⟩ := I.tuple ha
  obtain ⟨its2, rv2, p2, _⟩ := I.tuple hb
  refine SeqAt.RcNeAt.tuples (e := fun j => eqV (xs.getD j .non) (ys.getD j .non)) p p2 hu (fun j h1 h2 => eqAt_items rv rv2 fx fy j h1 h2) X.prog X.w X.xe _ ?_
  refine ⟨.bl _, H, I, rfl, ?_⟩
  rw [show its.toArray.size = xs.length by simp [rv.length], show its2.toArray.size = ys.length by simp [rv2.length], eqVs_min]
  exact q
def oEqA (hu : X.A.units < cLine) := (op_eq (X := X)).or ((op_eqL hu).or (op_eqT hu))
theorem Inv.big {pins : List (Addr × Obj)} {σ : St} {H : Hp} {s : Shared} (I : Inv X pins σ H s) : sysModules < s.heap.objs.size :=
  Nat.lt_trans (by decide) (I.mod.glob.keeps I.bk).lt
def tDNewK : TE := fun _ H Q => ∀ p, H p = none → Q (.ref p) (upd H p (.dK []))
theorem pe_dnewK {pos : Pos} : PE X (.Dict [] [] pos) tDNewK := fun pins s σ H Q I h =>
  wpAny_Dict_empty ⟨.ref s.heap.objs.size, _, I.laid (a := s.heap.objs.size) (o := .dK []) (t' := s.toks) (fun _ _ q => Heap.get?_push_of_some _ q) (Nat.le_refl _)
    ⟨Nat.zero_le _, beq_eq_false_iff_ne.mpr (Ne.symm (Nat.ne_of_lt I.big)), [], .nil, Heap.DictOf.new s.heap⟩, rfl, h _ (I.hok.fresh (Nat.le_refl _))⟩
end
end L2
namespace L2
open PySem PySem.Spec PyProof.Rows
section
variable {X : Cx}
theorem vals_intsAt : ∀ {ns : List Int} {us : List Value}, Vals (ns.map V.int) us → ∀ (j : Nat) v, us[j]? = some v → ∃ t, v = .int (ns.getD j 0) t
  | [], _, r, j, v, h => by
    cases r; cases h
  | n :: ns, _, r, j, v, h => by
    cases r with
    | cons a r =>
      cases j with
      | zero => cases h; obtain ⟨t, e⟩ := a; exact ⟨t, e⟩
      | succ j => exact vals_intsAt r j v h
theorem preSum_list : ∀ (ns : List Int), PySem.preSum (fun j => ns.getD j 0) ns.length = ns.sum := by
  intro ns
  have go : ∀ (l : List Int) (k : Nat), k ≤ l.length → PySem.preSum (fun j => l.getD j 0) k = (l.take k).sum := by
    intro l k
    induction k with
    | zero => intro _; rw [List.take_zero]; rfl
    | succ k ih =>
      intro h
      show PySem.preSum _ k + l.getD k 0 = _
      rw [ih (by omega), List.take_add_one, List.sum_append_int, List.getElem?_eq_getElem (by omega), List.getD_eq_getElem?_getD, List.getElem?_eq_getElem (by omega)]
      simp
  rw [go ns _ (Nat.le_refl _), List.take_length]
theorem callSum (hc : X.calm = true) : CallR X (.builtin "sum") (fun xs H Q => ∃ (p : Addr) (ns : List Int), xs = [.ref p] ∧ SqL X.K H p (ns.map V.int) ∧ Q (.int ns.sum) H) := by
  intro pins s σ H vs us Q I r h
  obtain ⟨p, ns, rfl, hp, q⟩ := h
  obtain ⟨u, rfl, ru⟩ := vals1 r
  cases (show u = Value.ref p from ru)
  obtain ⟨its, rv, pl, _⟩ := I.list hp
  have hlen : its.toArray.size = ns.length := by have := rv.length; rw [List.length_map] at this; simp [this]
  have hl := pl.isList
  obtain ⟨o, ho, _⟩ := id hl
  have hne : p ≠ s.heap.objs.size := Nat.ne_of_lt (Heap.lt_size ho)
  have hh := I.ok.hd hc
  have W := (Walks.list (prog := X.prog) (w := X.w) (A := X.A.in1) hh s.heap.objs.size p hne its.toArray).toS
  rw [hlen] at W
  refine call_sum_walkAnyS (wpAny_pyIter_list hl ?_)
  refine ⟨s.heap.objs.size, _, _, _, _, _, _, fun j => ns.getD j 0, rfl, W, ⟨⟨_, Heap.get?_push_size _ rfl, rfl, rfl⟩, hl.push _⟩, fun b hb => ?_, fun i v hP => vals_intsAt rv i v (by simpa using hP), fun s' t' hm => ?_⟩
  · rcases List.mem_cons.mp hb with rfl | hb
    · exact Heap.lt_size (Heap.get?_push_size _ rfl)
    · obtain rfl := List.mem_singleton.mp hb
      exact Heap.lt_size (Heap.get?_push_of_some _ ho)
  · obtain ⟨h', g', d', tk', os'⟩ := s'
    have e1 : g' = s.gens := hm.gens
    have e2 : d' = s.drawn := hm.drawn
    have e3 : os' = s.os := hm.os
    subst e1 e2 e3
    rw [preSum_list]
    exact ⟨.int _, H, I.kept (t' := tk') fun b u e => hm.heap b u (fun hb => absurd (Heap.lt_size e) ((List.mem_singleton.mp hb) ▸ Nat.lt_irrefl _)) (Heap.get?_push_of_some _ e), ⟨_, rfl⟩, q⟩
end
end L2
namespace L2
open PySem PySem.Spec PyProof.Rows
section
variable {K : PySem.W.Frag}
theorem same_new {H : Hp} {p : Addr} (h : H p = none) (o : HO) : Same H (upd H p o) := fun b u q => by rw [upd_ne (ne_of_none q h)]; exact q
theorem same_over {H H3 : Hp} {p : Addr} (s : Same H H3) (h : H p = none) (o : HO) : Same H (upd H3 p o) := fun b u q => by rw [upd_ne (ne_of_none q h)]; exact s b u q
theorem same_tup {H H' : Hp} {a : Addr} {xs : List V} (e : Same H H') (h : SqT K H a xs) : SqT K H' a xs := by
  rcases h with (h | ⟨o, h⟩) | h
  · exact .inl (.inl (e _ _ h))
  · exact .inl (.inr ⟨o, e _ _ h⟩)
  · exact .inr h
theorem same_lst {H H' : Hp} {a : Addr} {xs : List V} (e : Same H H') (h : SqL K H a xs) : SqL K H' a xs := e.seq h
theorem same_at {H H' : Hp} {a : Addr} {o : HO} (e : Same H H') (h : H a = some o) : H' a = some o := e _ _ h
theorem new_tup {H : Hp} {p a : Addr} {o : HO} {xs : List V} (n : H p = none) (h : SqT K H a xs) : SqT K (upd H p o) a xs := same_tup (same_new n o) h
theorem new_lst {H : Hp} {p a : Addr} {o : HO} {xs : List V} (n : H p = none) (h : SqL K H a xs) : SqL K (upd H p o) a xs := same_lst (same_new n o) h
theorem new_at {H : Hp} {p a : Addr} {o u : HO} (n : H p = none) (h : H a = some u) : upd H p o a = some u := same_new n o _ _ h
theorem new_same {H H1 : Hp} {p : Addr} {o : HO} (n : H1 p = none) (h : Same H H1) : Same H (upd H1 p o) := h.trans (same_new n o)
theorem ne_at {H : Hp} {p a : Addr} {o u : HO} (n : a ≠ p) (h : H a = some u) : upd H p o a = some u := by rw [upd_ne n]; exact h
theorem ne_tup {H : Hp} {p a : Addr} {o : HO} {xs : List V} (n : a ≠ p) (h : SqT K H a xs) : SqT K (upd H p o) a xs := by
  rcases h with (h | ⟨u, h⟩) | h
  · exact .inl (.inl (ne_at n h))
  · exact .inl (.inr ⟨u, ne_at n h⟩)
  · exact .inr h
theorem ne_lst {H : Hp} {p a : Addr} {o : HO} {xs : List V} (n : a ≠ p) (h : SqL K H a xs) : SqL K (upd H p o) a xs := by
  rcases h with (h | ⟨u, h⟩) | h
  · exact .inl (.inl (ne_at n h))
  · exact .inl (.inr ⟨u, ne_at n h⟩)
  · exact .inr h
theorem over_same {H H1 : Hp} {p : Addr} {o : HO} (n : H p = none) (h : Same H H1) : Same H (upd H1 p o) := same_over h n o
theorem ixL {H : Hp} {Q : VK} {p : Addr} {xs : List V} {i : Int} {v : V} (h : SqL K H p xs) (e : atI xs i = some v) (q : Q v H) : rIx K (.ref p) (.int i) H Q := .inl ⟨p, xs, i, v, rfl, rfl, h, e, q⟩
theorem ixT {H : Hp} {Q : VK} {p : Addr} {xs : List V} {i : Int} {v : V} (h : SqT K H p xs) (e : atI xs i = some v) (q : Q v H) : rIx K (.ref p) (.int i) H Q := .inr (.inl ⟨p, xs, i, v, rfl, rfl, h, e, q⟩)
theorem ixS {H : Hp} {Q : VK} {l : List Nat} {i : Int} {c : Nat} (h : l.length ≤ sizeLine) (e : atI l i = some c) (q : Q (vt [c]) H) : rIx K (vt l) (.int i) H Q := .inr (.inr ⟨tx l, i, c, rfl, rfl, by rw [tx_len]; exact h, e, q⟩)
theorem appL {H : Hp} {Q : VK} {l : Addr} {xs : List V} {y : V} (h : H l = some (.lst xs)) (z : xs.length < sizeLine) (q : Q .non (upd H l (.lst (xs ++ [y])))) : rAppend (.ref l) [y] H Q := ⟨l, xs, y, rfl, rfl, h, z, q⟩
theorem tyL {H : Hp} {p : Addr} {xs : List V} (h : SqL K H p xs) : tyV K "list" (.ref p) H := .inl ⟨rfl, _, h⟩
theorem cutT {H : Hp} {Q : VK} {l : List Nat} {lo hi : Option Int} (z : l.length ≤ sizeLine) (q : Q (vt (cutL l lo hi)) H) : rSlS (vt l) lo hi H Q := ⟨tx l, rfl, by rw [tx_len]; exact z, q⟩
theorem lenvS {H : Hp} {l : List Nat} (h : l.length ≤ sizeLine) : LenV K (vt l) H l.length := ⟨by rw [tx_len]; exact h, (tx_len l).symm⟩
theorem ifT {c A B : Prop} [Decidable c] (h : c) (a : A) : if decide c = true then A else B := by rw [decide_eq_true h]; exact iteT a
theorem ifF {c A B : Prop} [Decidable c] (h : ¬ c) (b : B) : if decide c = true then A else B := by rw [decide_eq_false h]; exact iteF b
theorem ifnT {c A B : Prop} [Decidable c] (h : ¬ c) (a : A) : if (!decide c) = true then A else B := by rw [decide_eq_false h]; exact iteT a
theorem ifnF {c A B : Prop} [Decidable c] (h : c) (b : B) : if (!decide c) = true then A else B := by rw [decide_eq_true h]; exact iteF b
theorem if2 {c A B : Prop} [Decidable c] (a : c → A) (b : ¬ c → B) : if decide c = true then A else B := by
  by_cases h : c
  · exact ifT h (a h)
  · exact ifF h (b h)
theorem ifn2 {c A B : Prop} [Decidable c] (a : ¬ c → A) (b : c → B) : if (!decide c) = true then A else B := by
  by_cases h : c
  · exact ifnF h (b h)
  · exact ifnT h (a h)
theorem cdivK {i j : Int} (h : 0 < j) (h2 : j < 1000000000) : CDivL i j := by
  refine ⟨by omega, Nat.lt_of_lt_of_le (show j.natAbs < 2 ^ 30 by omega) (Nat.pow_le_pow_right (by decide) (by decide))⟩
def MulOk (i j : Int) : Prop := CMul i j ∨ CMulL i j ∨ CMulB i j
theorem mulN {X : Cx} : OpR X (binaryOp .Mult) (rI MulOk fun i j => .int (i * j)) := opI fun _ _ _ _ _ _ _ hc q => by
  rcases hc with hc | hc | hc
  · exact mul_int q hc.ok
  · exact mul_int q (PySem.IntMulOk.of_le (bits_of hc.1) (bits_of hc.2) (by decide))
  · exact mul_int q (PySem.IntMulOk.of_le hc.1 hc.2 (by decide))
def rCatX : R2 := fun x y H Q => ∃ l m, x = vt l ∧ y = vt m ∧ l.length + m.length ≤ sizeLine ∧ Q (vt (l ++ m)) H
theorem op_catX {X : Cx} : OpR X (binaryOp .Add) rCatX := fun pins s σ H x y v u Q I rx ry h => by
  obtain ⟨l, m, rfl, rfl, hz, q⟩ := h
  exact op_add_str pins s σ H _ _ v u Q I rx ry ⟨_, _, rfl, rfl, by rw [tx_len, tx_len]; exact hz, by rw [tx_app]; exact q⟩
theorem ip_catX {X : Cx} : OpR X (inplaceOp .Add) rCatX := fun pins s σ H x y v u Q I rx ry h => by
  obtain ⟨l, m, rfl, rfl, hz, q⟩ := h
  exact iop_add_str pins s σ H _ _ v u Q I rx ry ⟨_, _, rfl, rfl, by rw [tx_len, tx_len]; exact hz, by rw [tx_app]; exact q⟩
def rRepX : R2 := fun x y H Q => ∃ l n, x = vt l ∧ y = .int n ∧ (0 ≤ n ∧ n ≤ 4000 ∧ l.length ≤ 4000) ∧ Q (vt (List.replicate n.toNat l).flatten) H
theorem op_repX {X : Cx} : OpR X (binaryOp .Mult) rRepX := fun pins s σ H x y v u Q I rx ry h => by
  obtain ⟨l, n, rfl, rfl, ⟨h1, h2, h3⟩, q⟩ := h
  exact op_mul_str pins s σ H _ _ v u Q I rx ry ⟨_, _, rfl, rfl, h1, h2, by rw [tx_len]; exact h3, by rw [tx_rep]; exact q⟩
def oMulN {X : Cx} := (mulN (X := X)).or (op_repX.or op_rep)
def oAddN {X : Cx} := (op_add (X := X)).or (op_catX.or (op_cat.or op_catT))
theorem catX {H : Hp} {Q : VK} {l m : List Nat} (z : l.length + m.length ≤ sizeLine) (q : Q (vt (l ++ m)) H) : rCatX (vt l) (vt m) H Q := ⟨l, m, rfl, rfl, z, q⟩
theorem mulL {i j : Int} (h1 : -(2 ^ 64) < i) (h2 : i < 2 ^ 64) : MulOk i j := .inl (.inl ⟨h1, h2⟩)
theorem mulR {i j : Int} (h1 : -(2 ^ 64) < j) (h2 : j < 2 ^ 64) : MulOk i j := .inl (.inr ⟨h1, h2⟩)
theorem mulB {i j : Int} (h1 : i.natAbs < 2 ^ 100000) (h2 : j.natAbs < 2 ^ 100000) : MulOk i j := .inr (.inl ⟨h1, h2⟩)
theorem ip_addN {X : Cx} : OpR X (inplaceOp .Add) (rI0 fun i j => .int (i + j)) := opI0 fun _ _ _ _ _ _ _ q => PyProof.Rows.iadd_int q
def ipAdd {X : Cx} := (ip_addN (X := X)).or ip_catX
def CShl (i j : Int) : Prop := 0 ≤ j ∧ j ≤ 1000000 ∧ i.natAbs < 2 ^ 100000
theorem op_shlN {X : Cx} : OpR X (binaryOp .LShift) (rI CShl fun i j => .int (i * 2 ^ j.toNat)) := opI fun _ _ _ _ _ _ _ hc q => PyProof.Rows.lshift_int hc.1 (by have := bits_of hc.2.2; have := hc.2.1; omega) q
theorem lc_vals {J : It} {xs : List V} {Ok : Hp → Prop} (Wk : Walk J xs Ok) {te : TE} {H : Hp} {D : Addr} {Q : VK} {caps : St} (R : Nat → V → Prop) (hl : ∀ ys, Ok (upd H D (.lst ys))) (hz : xs.length < sizeLine)
    (hs : ∀ (i : Nat) (x : V) (ys : List V) (C : VK), xs[i]? = some x → (∀ v, R i v → C v (upd H D (.lst ys))) → te (some x :: caps) (upd H D (.lst ys)) C)
    (hd : ∀ ys, ys.length = xs.length → (∀ (j : Nat) v, ys[j]? = some v → R j v) → Q (.ref D) (upd H D (.lst ys))) : LCgo J (gName 0) tTrue te D (none :: caps) (upd H D (.lst [])) Q := by
  refine lc_walk Wk (fun i σ H' => ∃ r ys, σ = r :: caps ∧ H' = upd H D (.lst ys) ∧ ys.length = i ∧ ∀ (j : Nat) v, ys[j]? = some v → R j v) ⟨none, [], rfl, rfl, rfl, fun j v h => nomatch h⟩ (fun i σ H' _ ⟨_, _, _, e, _⟩ => by rw [e]; exact hl _) ?_ ?_
  · rintro i x σ H' hx ⟨r, ys, rfl, rfl, hy, hR⟩
    have hi := (List.getElem?_eq_some_iff.mp hx).1
    simp only [gName, tTrue, if_true]
    refine hs i x ys _ hx fun v hv => ⟨ys, upd_same, by omega, _, _, rfl, upd_upd, by rw [List.length_append, hy]; rfl, fun j u hu => ?_⟩
    by_cases z : j < ys.length
    · rw [List.getElem?_append_left z] at hu; exact hR j u hu
    · rw [List.getElem?_append_right (by omega)] at hu
      have : j - ys.length = 0 := by
        have := (List.getElem?_eq_some_iff.mp hu).1
        simp at this; omega
      rw [this] at hu
      cases hu
      have : j = i := by omega
      rw [this]; exact hv
  · rintro σ H' ⟨r, ys, rfl, rfl, hy, hR⟩
    exact hd ys hy hR
theorem lc_grow {J : It} {xs : List V} {Ok : Hp → Prop} (Wk : Walk J xs Ok) {te : TE} {H : Hp} {D : Addr} {Q : VK} {caps : St} (hD : H D = none) (R : Hp → Nat → V → Prop) (hm : ∀ H1 H2 j v, (∀ b o, b ≠ D → H1 b = some o → H2 b = some o) → R H1 j v → R H2 j v)
    (hl : ∀ H1, Same H H1 → Ok H1) (hz : xs.length < sizeLine)
    (hs : ∀ (i : Nat) (x : V) (H1 : Hp) (ys : List V) (C : VK), xs[i]? = some x → Same H H1 → H1 D = some (.lst ys) → (∀ H2 v, Same H1 H2 → R H2 i v → C v H2) → te (some x :: caps) H1 C)
    (hd : ∀ H1 ys, Same H H1 → H1 D = some (.lst ys) → ys.length = xs.length → (∀ (j : Nat) v, ys[j]? = some v → R H1 j v) → Q (.ref D) H1) : LCgo J (gName 0) tTrue te D (none :: caps) (upd H D (.lst [])) Q := by
  refine lc_walk Wk (fun i σ H' => ∃ r ys, σ = r :: caps ∧ Same H H' ∧ H' D = some (.lst ys) ∧ ys.length = i ∧ ∀ (j : Nat) v, ys[j]? = some v → R H' j v) ⟨none, [], rfl, same_new hD _, upd_same, rfl, fun j v h => nomatch h⟩ (fun i σ H' _ ⟨_, _, _, e, _⟩ => hl _ e) ?_ ?_
  · rintro i x σ H' hx ⟨r, ys, rfl, hS, hy, hn, hR⟩
    have hi := (List.getElem?_eq_some_iff.mp hx).1
    simp only [gName, tTrue, if_true]
    refine hs i x H' ys _ hx hS hy fun H2 v h2 hv => ⟨ys, h2 _ _ hy, by omega, _, _, rfl, ?_, upd_same, by rw [List.length_append, hn]; rfl, fun j u hu => ?_⟩
    · exact same_over (hS.trans h2) hD _
    · have up : ∀ b o, b ≠ D → H2 b = some o → upd H2 D (.lst (ys ++ [v])) b = some o := fun b o hb e => by rw [upd_ne hb]; exact e
      by_cases z : j < ys.length
      · rw [List.getElem?_append_left z] at hu
        exact hm _ _ _ _ up (hm _ _ _ _ (fun b o _ e => h2 b o e) (hR j u hu))
      · rw [List.getElem?_append_right (by omega)] at hu
        have : j - ys.length = 0 := by
          have := (List.getElem?_eq_some_iff.mp hu).1
          simp at this; omega
        rw [this] at hu
        cases hu
        have : j = i := by omega
        rw [this]; exact hm _ _ _ _ up hv
  · rintro σ H' ⟨r, ys, rfl, hS, hy, hn, hR⟩
    exact hd H' ys hS hy hn hR
end
end L2
namespace PySem
end PySem
namespace L2
open PySem PySem.Spec PyProof.Rows
section
variable {X : Cx} {C : Addr} {i : Nat} {n x : Str} {body : List Stmt} {b₀ : Stmt} {suite : List Stmt} {np hpos pos : Pos} {tb : Pins → (Value → Shared → Prop) → XS → TS} {th : Pins → Value → TS} {bmB : List Value} {newId : String}
end
end L2
namespace PySem
namespace F
theorem owner_rev : Manifest.owners.lookup (String.ofList ['d', 'e', 's', 'r', 'e', 'v', 'e', 'r'].reverse) = some Manifest.sig_reversed := by kernel_rfl
theorem slot_rev_next : Slot "reversed" "__next__" "reversed.__next__" :=
  .of (owner := "reversed") (n := "__next__") (by rw [typeLookup_type, builtinLookup_eq_fast]; kernel_rfl) (by decide +kernel) (by decide +kernel) (by decide +kernel)
    (by first | exact .inl (by decide +kernel) | exact .inr (by decide +kernel)) (by rw [isSubtype_type]; kernel_rfl)
theorem entry_rev_next : entryFor table "reversed.__next__" = some Builtin.«reversed.__next__» := entryFor_of_tree (by kernel_rfl)
theorem args_rev_next_1 (a : Value) : argsOk "reversed.__next__" ⟨[a], []⟩ := by
  unfold argsOk; rw [signature?_of (id := "reversed.__next__") (n := ['_', '_', 't', 'x', 'e', 'n', '_', '_']) (o := ['d', 'e', 's', 'r', 'e', 'v', 'e', 'r']) (by kernel_rfl) owner_rev]; kernel_rfl
theorem slot_rev_iter : Slot "reversed" "__iter__" "reversed.__iter__" :=
  .of (owner := "reversed") (n := "__iter__") (by rw [typeLookup_type, builtinLookup_eq_fast]; kernel_rfl) (by decide +kernel) (by decide +kernel) (by decide +kernel)
    (by first | exact .inl (by decide +kernel) | exact .inr (by decide +kernel)) (by rw [isSubtype_type]; kernel_rfl)
theorem args_rev_iter_1 (a : Value) : argsOk "reversed.__iter__" ⟨[a], []⟩ := by
  unfold argsOk; rw [signature?_of (id := "reversed.__iter__") (n := ['_', '_', 'r', 'e', 't', 'i', '_', '_']) (o := ['d', 'e', 's', 'r', 'e', 'v', 'e', 'r']) (by kernel_rfl) owner_rev]; kernel_rfl
theorem entry_rev_iter : entryFor table "reversed.__iter__" = some Builtin.«dict_keyiterator.__iter__» :=
  entryFor_alias (id' := "dict_keyiterator.__iter__") (by kernel_rfl) (by first | rfl | decide +kernel | (unfold String.splitOn; simp +decide [String.splitOnAux])) (by decide +kernel) (by kernel_rfl)
theorem slot_rev_hint : Slot "reversed" "__length_hint__" "reversed.__length_hint__" :=
  .of (owner := "reversed") (n := "__length_hint__") (by rw [typeLookup_type, builtinLookup_eq_fast]; kernel_rfl) (by decide +kernel) (by decide +kernel) (by decide +kernel)
    (by first | exact .inl (by decide +kernel) | exact .inr (by decide +kernel)) (by rw [isSubtype_type]; kernel_rfl)
theorem entry_rev_hint : entryFor table "reversed.__length_hint__" = some Builtin.«reversed.__length_hint__» := entryFor_of_tree (by kernel_rfl)
theorem args_rev_hint_1 (a : Value) : argsOk "reversed.__length_hint__" ⟨[a], []⟩ := by
  unfold argsOk; rw [signature?_of (id := "reversed.__length_hint__") (n := ['_', '_', 't', 'n', 'i', 'h', '_', 'h', 't', 'g', 'n', 'e', 'l', '_', '_']) (o := ['d', 'e', 's', 'r', 'e', 'v', 'e', 'r']) (by kernel_rfl) owner_rev]; kernel_rfl
theorem slot_rev_init : Slot "reversed" "__init__" "object.__init__" :=
  .of (owner := "object") (n := "__init__") (by rw [typeLookup_type, builtinLookup_eq_fast]; kernel_rfl) (by decide +kernel) (by decide +kernel) (by decide +kernel)
    (by first | exact .inl (by decide +kernel) | exact .inr (by decide +kernel)) (by rw [isSubtype_type]; kernel_rfl)
theorem called_rev : TypeCalled "reversed" "reversed.__new__" "object.__init__" :=
  ⟨by decide +kernel, by decide +kernel, ⟨_, _, mro_reversed⟩, made_reversed, by decide +kernel, by rw [isSubtype_type]; kernel_rfl, slot_rev_init⟩
theorem str_no_rev : typeLookup (.type "str") "__reversed__" = pure none := by rw [typeLookup_type, builtinLookup_eq_fast]; kernel_rfl
theorem rev_no_len : typeLookup (.type "reversed") "__len__" = pure none := by rw [typeLookup_type, builtinLookup_eq_fast]; kernel_rfl
theorem str_getitem : typeLookup (.type "str") "__getitem__" = pure (some (.builtin "str.__getitem__")) := by rw [typeLookup_type, builtinLookup_eq_fast]; kernel_rfl
end F
section
variable {prog : Program} {w : World} {A : Around} {E : Value → Shared → Prop} {s : Shared}
def revStrObj (x : Str) (t : Tok) (i : Int) : Obj := { cls := .type "reversed", data := .fields #[.str x t, rawInt i] }
theorem code_reversed_str {x : Str} {t : Tok} {Q₁ : Value → Shared → Prop} (hx : x.length ≤ sizeLine)
    (h : ∀ tk, Q₁ (.ref s.heap.objs.size) { s with heap := s.heap.push (revStrObj x t ((x.length : Int) - 1)), toks := tk }) :
    codeAny (model prog w) A (.call (.builtin "reversed.__new__") ⟨[.type "reversed", .str x t], []⟩) (wants Q₁ E) s := by
  refine codeAny_of_tree ?_
  show wpAny _ A.in1 (do checkBuiltinCall "reversed.__new__" ⟨[.type "reversed", .str x t], []⟩; again (.builtin "reversed.__new__" ⟨[.type "reversed", .str x t], []⟩)) _ _ s
  refine wpAny_bind (wpAny_of_eq (F.newCall_reversed_1 _) (wpAny_pure ⟨plainId_quiet F.plain_reversed_new _, codeAny_builtin F.entry_reversed_new ?_⟩))
  rw [Around.under_plainId F.plain_reversed_new _]
  unfold Builtin.«reversed.__new__»
  refine wpAny_bind (wpAny_of_eq (newClass_reversed _) ?_)
  try dsimp only
  refine wpAny_bind (wpAny_of_eq (a := ()) (by first | rfl | kernel_rfl) ?_)
  refine wpAny_bind (wpAny_of_eq (a := ()) (by first | rfl | kernel_rfl) ?_)
  try dsimp only
  refine wpAny_bind (wpAny_specialOf (T := "str") (v := .str x t) rfl F.str_no_rev ?_)
  try dsimp only
  refine wpAny_bind (wpAny_bind (wpAny_isInstance (T := "str") (v := .str x t) (b := false) rfl F.sub_str_dict ?_))
  rw [if_neg Bool.false_ne_true]
  refine wpAny_bind (wpAny_specialOf (T := "str") (v := .str x t) rfl F.str_getitem ?_)
  dsimp only
  rw [if_pos (by decide)]
  refine wpAny_pure ?_
  rw [if_neg (by decide)]
  refine wpAny_bind (PyProof.Rows.len_str (by have := sizeLine_eq; omega) ?_)
  refine wpAny_bind (m := asInt? (.int _ _)) (wpAny_pure ?_)
  dsimp only
  unfold Builtin.SmallTypes.newRecord
  dsimp only
  refine wpAny_bind (wpAny_newObj_type ?_)
  exact wpAny_pure (h _)
theorem call_reversed_str {x : Str} {t : Tok} {Q : Value → Shared → Prop} (hx : x.length ≤ sizeLine)
    (h : ∀ tk, Q (.ref s.heap.objs.size) { s with heap := s.heap.push (revStrObj x t ((x.length : Int) - 1)), toks := tk }) : wpAny (model prog w) A (call (.type "reversed") [.str x t]) Q E s := by
  refine callType_codes (Q₁ := fun obj s₁ => obj = .ref s.heap.objs.size ∧ ∃ tk, s₁ = { s with heap := s.heap.push (revStrObj x t ((x.length : Int) - 1)), toks := tk }) F.called_rev (F.typeCall_reversed_1 _) F.entry_object_init (code_reversed_str hx fun tk => ⟨rfl, tk, rfl⟩) fun obj s₁ h₁ => ?_
  obtain ⟨rfl, tk, rfl⟩ := h₁
  have ty : ({ s with heap := s.heap.push (revStrObj x t ((x.length : Int) - 1)), toks := tk } : Shared).TypeIs (.ref s.heap.objs.size) "reversed" := ⟨_, Heap.get?_push_size _ rfl, rfl⟩
  exact ⟨ty, F.args_object_init_2 _ _, object_init_meets F.called_rev.init.lookup F.called_rev.made (by decide) prog w A.in1 _ _ ⟨ty, rfl, h tk⟩⟩
def Heap.IsRevStr (h : Heap) (a : Addr) (x : Str) (t : Tok) (i : Int) : Prop := ∃ o, h.get? a = some o ∧ o.cls = .type "reversed" ∧ o.data = .fields #[.str x t, rawInt i]
theorem Heap.IsRevStr.typeIs {a : Addr} {x : Str} {t : Tok} {i : Int} (z : s.heap.IsRevStr a x t i) : s.TypeIs (.ref a) "reversed" := let ⟨o, ho, hc, _⟩ := z; ⟨o, ho, hc⟩
theorem Heap.IsRevStr.at {h h' : Heap} {a : Addr} {x : Str} {t : Tok} {i : Int} (z : h.IsRevStr a x t i) (e : ∀ o, h.get? a = some o → h'.get? a = some o) : h'.IsRevStr a x t i := let ⟨o, ho, r⟩ := z; ⟨o, e _ ho, r⟩
theorem next_revStr_item {it : Addr} {x : Str} {t : Tok} {i c : Nat} {Q : Option Value → Shared → Prop} (hit : s.heap.IsRevStr it x t (i : Int)) (hc : x.cps[i]? = some c) (hx : x.length ≤ sizeLine)
    (hQ : ∀ h' u tk, h'.IsRevStr it x t ((i : Int) - 1) → Heap.SameBut it s.heap h' → Q (some (.str ⟨#[c]⟩ u)) { s with heap := h', toks := tk }) : wpAny (model prog w) A (pyNext (.ref it)) Q E s := by
  obtain ⟨o, ho, hcl, hd⟩ := id hit
  unfold pyNext
  refine wpAny_bind (wpAny_attempt (wpAny_callSpecial?_slot (name := Str.ofString "__next__") hit.typeIs F.slot_rev_next
    (wpAny_call_entry F.slot_rev_next hit.typeIs F.entry_rev_next ?_ (F.args_rev_next_1 _))))
  unfold Builtin.«reversed.__next__»
  refine wpAny_bind (wpAny_of_eq (a := (Value.ref it, [])) rfl ?_)
  try dsimp only
  refine wpAny_bind (wpAny_field ho hd (x := .str x t) rfl ?_)
  refine wpAny_bind (wpAny_field ho hd (x := rawInt (i : Int)) rfl ?_)
  show wpAny _ _ (if (i : Int) < 0 then _ else _) _ _ s
  rw [if_neg (by omega)]
  refine wpAny_bind (wpAny_specialOf (T := "str") (v := .str x t) rfl F.str_getitem ?_)
  rw [if_neg (by decide)]
  refine wpAny_bind (wpAny_mkInt ?_)
  have hi : i < x.cps.size := by
    rcases Nat.lt_or_ge i x.cps.size with h | h
    · exact h
    · rw [Array.getElem?_eq_none h] at hc; cases hc
  have hs := sizeLine_eq
  have hl : x.length = x.cps.size := rfl
  refine wpAny_bind (wpAny_attempt (PyProof.Rows.getItem_str (c := c) (i := (i : Int)) (by
    have e1 : decide ((i : Int) < -(2 ^ 63 : Int)) = false := decide_eq_false (by omega)
    have e2 : decide ((i : Int) ≥ 2 ^ 63) = false := decide_eq_false (by omega)
    rw [e1, e2, Bool.or_false]) (by rw [seqIndex_of (by omega) (by omega), Int.toNat_natCast]; exact hc) ?_))
  dsimp only
  refine wpAny_bind (wpAny_field ho hd (x := rawInt (i : Int)) rfl ?_)
  try dsimp only
  refine wpAny_bind (wpAny_setField ho hd (by simp) ?_)
  refine wpAny_pure ⟨_, rfl, wpAny_pure (hQ _ _ _ ?_ (Heap.SameBut.update ..))⟩
  exact ⟨_, Heap.get?_update_self _ ho (Obj.isFreed_of_fields (Obj.data_mapFields hd _)), (Obj.cls_mapFields ..).trans hcl, by
    rw [Obj.data_mapFields hd]; simp⟩
theorem next_revStr_end {it : Addr} {x : Str} {t : Tok} {Q : Option Value → Shared → Prop} (hh : A.handled = none) (hit : s.heap.IsRevStr it x t (-1))
    (hQ : ∀ h', Heap.ExtBut it s.heap h' → Q none { s with heap := h' }) : wpAny (model prog w) A (pyNext (.ref it)) Q E s := by
  obtain ⟨o, ho, hc, hd⟩ := id hit
  unfold pyNext
  refine wpAny_bind (wpAny_attempt (wpAny_callSpecial?_slot (name := Str.ofString "__next__") hit.typeIs F.slot_rev_next
    (wpAny_call_entry F.slot_rev_next hit.typeIs F.entry_rev_next ?_ (F.args_rev_next_1 _))))
  unfold Builtin.«reversed.__next__»
  refine wpAny_bind (wpAny_of_eq (a := (Value.ref it, [])) rfl ?_)
  try dsimp only
  refine wpAny_bind (wpAny_field ho hd (x := .str x t) rfl ?_)
  refine wpAny_bind (wpAny_field ho hd (x := rawInt (-1)) rfl ?_)
  show wpAny _ _ (if (-1 : Int) < 0 then _ else _) _ _ s
  rw [if_pos (by decide)]
  refine wpAny_bind (wpAny_rule ?_)
  refine wpAny_bind ?_
  refine wpAny_bind (wpAny_setField ho hd (by simp) ?_)
  have ho2 := Heap.get?_update_self (Obj.mapFields fun f => f.setIfInBounds 1 (rawInt (-1))) ho (Obj.isFreed_of_fields (Obj.data_mapFields hd _))
  refine wpAny_setField ho2 (Obj.data_mapFields hd _) (by simp) ?_
  refine wpAny_bind ?_
  first
  | show wpAny _ _ (newExc (.type "StopIteration") [] >>= _) _ _ _
  | (refine wpAny_bind ?_; show wpAny _ _ (newExc (.type "StopIteration") [] >>= _) _ _ _)
  refine wpAny_bind ?_
  simp only [newExc, newTuple]
  refine wpAny_bind (wpAny_newObj_type ?_ (by size_fits))
  refine wpAny_bind (m := firstArgMember _ _) (wpAny_of_eq (a := Value.none) (by first | rfl | (simp only [firstArgMember]; rfl)) ?_)
  refine wpAny_newObj_type ?_ (by size_fits)
  simp only [raiseNew]
  refine wpAny_bind (wpAny_handled ?_)
  first | rw [show A.in1.handled = none from hh] | rw [hh]
  refine wpAny_bind (wpAny_pure (wpAny_throw ?_))
  refine wpAny_bind (wpAny_isInstance (T := "StopIteration") (b := true) ⟨_, Heap.get?_push_size _ rfl, rfl⟩ isSubtype_stop ?_)
  refine wpAny_pure (hQ _ ?_)
  refine Heap.ExtBut.push (Heap.ExtBut.push ?_ _) _
  intro b u hb e
  rw [Heap.get?_update_other _ _ (Ne.symm hb), Heap.get?_update_other _ _ (Ne.symm hb)]; exact e
theorem iter_revStr {it : Addr} {x : Str} {t : Tok} {i : Int} {Q : Value → Shared → Prop} (hit : s.heap.IsRevStr it x t i) (h : Q (.ref it) s) : wpAny (model prog w) A (pyIter (.ref it)) Q E s := by
  refine wpAny_pyIter_slot hit.typeIs F.slot_rev_iter (wpAny_call_entry F.slot_rev_iter hit.typeIs F.entry_rev_iter ?_ (F.args_rev_iter_1 _))
  show wpAny _ _ (ret (.ref it)) _ _ s
  exact wpAny_pure ⟨_, rfl, "reversed", _, hit.typeIs, F.slot_rev_next.lookup, h⟩
end
theorem Walks.strRev {prog : Program} {w : World} {A : Around} (hh : A.handled = none) (I : Addr) (x : Str) (t : Tok) (hx : x.length ≤ sizeLine) :
    Walks prog w A I [I] [I] x.cps.size (fun i v => ∃ c u, x.cps[x.cps.size - 1 - i]? = some c ∧ v = .str ⟨#[c]⟩ u) (fun i h => i ≤ x.cps.size ∧ h.IsRevStr I x t ((x.cps.size : Int) - 1 - (i : Int))) where
  sub := fun b hb => by simp at hb; simp [hb]
  frame := fun _ _ _ z hk => ⟨z.1, z.2.at fun o e => hk I (by simp) o e⟩
  item := fun i s Q E hi z hQ => by
    have e : (x.cps.size : Int) - 1 - (i : Int) = ((x.cps.size - 1 - i : Nat) : Int) := by omega
    have hit := z.2
    rw [e] at hit
    have hc : x.cps[x.cps.size - 1 - i]? = some (x.cps[x.cps.size - 1 - i]'(by omega)) := Array.getElem?_eq_getElem (by omega)
    refine next_revStr_item hit hc hx fun h' u tk hit' hs' => ?_
    have e2 : ((x.cps.size - 1 - i : Nat) : Int) - 1 = (x.cps.size : Int) - 1 - ((i + 1 : Nat) : Int) := by omega
    rw [e2] at hit'
    exact hQ _ h' tk ⟨_, u, hc, rfl⟩ ⟨hi, hit'⟩ fun b o hb eo => hs'.extBut b o (fun h => hb (by simp [h])) eo
  done := fun s Q E z hQ => by
    have e : (x.cps.size : Int) - 1 - (x.cps.size : Int) = -1 := by omega
    have hit := z.2
    rw [e] at hit
    exact next_revStr_end hh hit fun h' he' => hQ h' s.toks fun b o hb eo => he' b o (fun h => hb (by simp [h])) eo
  self := fun _ _ _ _ z hQ => iter_revStr z.2 hQ
section
variable {prog : Program} {w : World} {A : Around} {E : Value → Shared → Prop} {s : Shared}
theorem call_hint_rev {it : Addr} {x : Str} {t : Tok} {i : Int} {Q : Value → Shared → Prop} (hit : s.heap.IsRevStr it x t i) (hx : x.length ≤ sizeLine) (hi : i + 1 ≤ x.length)
    (h : ∀ u tk, s.toks ≤ tk → Q (.int (i + 1) u) { s with toks := tk }) : wpAny (model prog w) A (call (.builtin "reversed.__length_hint__") [.ref it]) Q E s := by
  obtain ⟨o, ho, hc, hd⟩ := id hit
  refine wpAny_call_entry F.slot_rev_hint hit.typeIs F.entry_rev_hint ?_ (F.args_rev_hint_1 _)
  unfold Builtin.«reversed.__length_hint__»
  refine wpAny_bind (wpAny_of_eq (a := Value.ref it) (by first | rfl | kernel_rfl) ?_)
  refine wpAny_bind (wpAny_field ho hd (x := .str x t) rfl ?_)
  rw [if_neg (show ¬ ((Value.str x t == Value.none) = true) from Bool.false_ne_true)]
  refine wpAny_bind (PyProof.Rows.len_str (by have := sizeLine_eq; omega) ?_)
  refine wpAny_bind (m := asInt? (.int _ _)) (wpAny_pure ?_)
  dsimp only
  refine wpAny_bind (wpAny_field ho hd (x := rawInt i) rfl ?_)
  show wpAny _ A.in1 (if (x.length : Int) < i + 1 then _ else retInt (i + 1)) _ _ _
  rw [if_neg (by omega)]
  unfold retInt
  refine wpAny_bind (wpAny_mkInt ?_)
  exact wpAny_pure ⟨_, rfl, h _ _ (by show s.toks ≤ s.toks + 1 + 1 + 1; omega)⟩
theorem collect_rev {Q : List Value → Shared → Prop} {I : Addr} {x : Str} {t : Tok} (hh : A.handled = none) (hx : x.length ≤ sizeLine) (hit : s.heap.IsRevStr I x t ((x.length : Int) - 1))
    (hQ : ∀ s' acc, Moved [I] (fun a b => b = a) s s' → ItemsOf (fun i v => ∃ c u, x.cps[x.cps.size - 1 - i]? = some c ∧ v = .str ⟨#[c]⟩ u) acc x.cps.size → Q acc.toList s') : wpAny (model prog w) A (collect (.ref I)) Q E s := by
  have hn : x.cps.size ≤ sizeLine := hx
  have W := (Walks.strRev (prog := prog) (w := w) (A := A.in1) hh I x t hx).toS
  obtain ⟨o0, ho0, _⟩ := id hit
  have hlt := Heap.lt_size ho0
  have hSI : s.heap.objs.size ≠ I := Ne.symm (Nat.ne_of_lt hlt)
  have hSf : s.heap.objs.size ∉ [I] := fun hm => hSI (List.mem_singleton.mp hm)
  have e0 : (x.cps.size : Int) - 1 - ((0 : Nat) : Int) = (x.length : Int) - 1 := by show (x.cps.size : Int) - 1 - 0 = (x.cps.size : Int) - 1; omega
  have hst : (fun (i : Nat) (s : Shared) => i ≤ x.cps.size ∧ s.heap.IsRevStr I x t ((x.cps.size : Int) - 1 - (i : Int))) 0 s := ⟨Nat.zero_le _, by rw [e0]; exact hit⟩
  unfold collect
  refine wpAny_bind (wpAny_runValue (codeAny_builtin F.entry_proto_collect ?_))
  rw [Around.under_plainId F.plain_proto_collect _]
  show wpAny _ A.in1 (newList [] >>= fun l => again (.builtin "list.__iadd__" ⟨[l, .ref I], []⟩)) _ _ s
  refine wpAny_bind (wpAny_newObj_type ?_)
  refine wpAny_pure ⟨plainId_quiet F.plain_list_iadd _, codeAny_builtin F.entry_list_iadd ?_⟩
  rw [Around.under_plainId F.plain_list_iadd _]
  have hst₁ := W.frame 0 s (s.heap.push { cls := .type "list", data := .seq ([] : List Value).toArray }) s.toks hst (Nat.le_refl _) fun b _ o e => Heap.get?_push_of_some _ e
  have hit₁ : (s.heap.push { cls := .type "list", data := .seq ([] : List Value).toArray }).IsRevStr I x t ((x.length : Int) - 1) := hit.at fun o e => Heap.get?_push_of_some _ e
  have hS₁ : (s.heap.push { cls := .type "list", data := .seq ([] : List Value).toArray }).get? s.heap.objs.size = some { cls := .type "list", data := .seq ([] : List Value).toArray } := Heap.get?_push_size _ rfl
  have h1 : Builtin.List.listSameRef (.ref s.heap.objs.size) (.ref I) = false := by simp [Builtin.List.listSameRef, hSI]
  show wpAny _ A.in1 (Builtin.List.listExtendWith (.ref s.heap.objs.size) (.ref I) (.ref s.heap.objs.size)) _ _ _
  unfold Builtin.List.listExtendWith
  have hT₁ : ({ s with heap := s.heap.push { cls := .type "list", data := .seq ([] : List Value).toArray } } : Shared).TypeIs (.ref I) "reversed" := Heap.IsRevStr.typeIs (s := { s with heap := s.heap.push { cls := .type "list", data := .seq ([] : List Value).toArray } }) hit₁
  refine wpAny_bind (wpAny_typeOf hT₁ ?_)
  rw [if_neg (by rw [h1]; decide)]
  refine wpAny_bind (iter_revStr (s := { s with heap := s.heap.push { cls := .type "list", data := .seq ([] : List Value).toArray } }) hit₁ ?_)
  refine wpAny_bind (wpAny_holding ?_)
  unfold Builtin.List.listLengthHint
  refine wpAny_bind (wpAny_specialOf hT₁ F.rev_no_len ?_)
  show wpAny _ A.in1 (specialOf (Value.ref I) (Str.ofString "__length_hint__") >>= _) _ _ _
  refine wpAny_bind (wpAny_specialOf hT₁ F.slot_rev_hint.lookup ?_)
  (generalize hid : ("reversed.__length_hint__" : String) = id0; (fail_if_success (clear hid id0)); wp_delta; rw [show splitId id0 = some ("reversed", "__length_hint__") from by subst hid; decide +kernel]; subst hid)
  refine wpAny_bind (wpAny_isInstance (b := true) hT₁ (by rw [isSubtype_type]; kernel_rfl) ?_)
  rw [if_neg (by decide)]
  refine wpAny_bind (wpAny_rule ?_)
  refine wpAny_bind (wpAny_of_eq (F.slot_rev_hint.bind _) ?_)
  dsimp only
  refine wpAny_bind (wpAny_attempt (call_hint_rev (s := { s with heap := s.heap.push { cls := .type "list", data := .seq ([] : List Value).toArray } }) hit₁ hx (by omega) fun u tk htk => ?_))
  have hk : (x.length : Int) - 1 + 1 = (x.length : Int) := by omega
  rw [hk]
  have hs := sizeLine_eq
  dsimp only
  have ha : asInt? (Value.int (x.length : Int) u) = pure (some (x.length : Int)) := rfl
  rw [ha, pure_bind]
  dsimp only
  have hfit : Builtin.List.listFitsIndex (x.length : Int) = true := by unfold Builtin.List.listFitsIndex; simp only [Bool.and_eq_true, decide_eq_true_eq]; omega
  have hlong : Builtin.List.listTooLong (x.length : Int).toNat = false := by unfold Builtin.List.listTooLong; rw [Int.toNat_natCast]; exact decide_eq_false (by omega)
  rw [hfit, if_neg (by decide), if_neg (by omega), hlong, if_neg (by decide)]
  refine wpAny_pure ?_
  clear hs
  have hst₂ := W.frame 0 _ _ tk hst₁ htk fun b _ o e => e
  by_cases hz : x.length = 0
  · rw [if_neg (by rw [hz]; decide)]
    refine wpAny_pure ⟨plainId_quiet F.plain_extend_loop _, codeAny_extend_loopS W hn _ hSf _ x.cps.size 0 _ _ _ rfl (Nat.zero_le _) hst₂ hS₁ (ItemsOf.nil _) fun s' acc' c' hm hS' hacc => ?_⟩
    show wpAny _ A (load s.heap.objs.size >>= _) _ _ s'
    refine wpAny_bind (wpAny_load hS' ?_)
    exact wpAny_pure (hQ s' acc' (Moved.drop_new (o := { cls := .type "list", data := .seq ([] : List Value).toArray }) (tk := tk) hm htk) hacc)
  · rw [if_pos (by rw [show ((x.length : Int) != 0) = true from by simpa using hz]; rfl)]
    refine wpAny_bind (wpAny_rule ?_)
    refine wpAny_bind ?_
    show wpAny _ A.in1 (updateSeq s.heap.objs.size (·.push .none) >>= fun _ => updateSeq s.heap.objs.size (·.pop)) _ _ _
    refine wpAny_bind (wpAny_updateSeq hS₁ rfl ?_ (by show 0 ≤ sizeLine; exact Nat.zero_le _) (by show 1 ≤ sizeLine + 1; exact Nat.le_add_left _ _))
    have hS₂ := Heap.get?_update_self (Obj.mapSeq (·.push Value.none)) hS₁ rfl
    refine wpAny_updateSeq hS₂ rfl ?_ (by show 1 ≤ sizeLine; decide) (by show 0 ≤ sizeLine + 1; exact Nat.zero_le _)
    have hS₃ := Heap.get?_update_self (Obj.mapSeq (·.pop)) hS₂ rfl
    have oth : ∀ b o, b ≠ s.heap.objs.size → (s.heap.push { cls := .type "list", data := .seq ([] : List Value).toArray }).get? b = some o →
        (((s.heap.push { cls := .type "list", data := .seq ([] : List Value).toArray }).update s.heap.objs.size (Obj.mapSeq (·.push Value.none))).update s.heap.objs.size (Obj.mapSeq (·.pop))).get? b = some o :=
      fun b o hb e => (Heap.get?_update_other _ _ (Ne.symm hb)).trans ((Heap.get?_update_other _ _ (Ne.symm hb)).trans e)
    refine wpAny_pure ⟨plainId_quiet F.plain_extend_loop _, codeAny_extend_loopS W hn _ hSf _ x.cps.size 0 _ _ _ rfl (Nat.zero_le _)
      (W.frame 0 ({ s with heap := s.heap.push { cls := .type "list", data := .seq ([] : List Value).toArray }, toks := tk } : Shared) _ tk hst₂ (Nat.le_refl _) fun b hb o e => oth b o (fun h => hSf (h ▸ hb)) e) hS₃ (ItemsOf.nil _) fun s' acc' c' hm hS' hacc => ?_⟩
    show wpAny _ A (load s.heap.objs.size >>= _) _ _ s'
    refine wpAny_bind (wpAny_load hS' ?_)
    refine wpAny_pure (hQ s' acc' (Moved.drop_new (o := { cls := .type "list", data := .seq ([] : List Value).toArray }) (tk := tk) (Moved.trans W.gtrans ((Moved.refl (G := fun a b => b = a) W.grefl).then_heap (by first | exact Nat.le_refl _ | exact Nat.le_succ _ | omega) fun b o hb e => ?_) hm) htk) hacc)
    exact oth b o (fun h => hb (h ▸ List.mem_cons_self)) e
theorem join_rev {I : Addr} {x sep : Str} {t t2 : Tok} {Q : Value → Shared → Prop} (hh : A.handled = none) (hx : x.length ≤ sizeLine) (hit : s.heap.IsRevStr I x t ((x.length : Int) - 1))
    (hq : ∀ s' (l : List (Str × Tok)), Moved [I] (fun a b => b = a) s s' → ItemsOf (fun i v => ∃ c u, x.cps[x.cps.size - 1 - i]? = some c ∧ v = .str ⟨#[c]⟩ u) (strValues l).toArray x.cps.size →
      JoinOk sep (l.map (·.1)) = true ∧ ∀ t' k, Q (.str (Txt.join sep (l.map (·.1))) t') { s' with toks := k }) :
    wpAny (model prog w) A (call (.builtin "str.join") [.str sep t2, .ref I]) Q E s := by
  refine wpAny_call (codeAny_call_builtin F.slot_str_join.plain F.entry_str_join (F.slot_str_join.check _ _ _ _ _ _ _ _ (typeIs_str _ _ _) (F.args_str_join_2 _ _) ?_))
  rw [join_tree_other]
  refine wpAny_bind (wpAny_typeOf hit.typeIs ?_)
  show wpAny _ A.in1 ((pyIter (.ref I)).tryCatch _ >>= fun it => collect it >>= fun items => joinTail sep items) _ _ s
  refine wpAny_bind (wpAny_tryCatch (iter_revStr hit ?_))
  refine wpAny_bind (collect_rev (A := A.in1) hh hx hit fun s' acc hm hacc => ?_)
  obtain ⟨l, hl⟩ := exists_strValues acc.toList fun v hv => by
    obtain ⟨j, hj, rfl⟩ := Array.mem_iff_getElem.mp (Array.mem_toList_iff.mp hv)
    obtain ⟨c, u, _, e⟩ := hacc.2 j _ (Array.getElem?_eq_getElem hj)
    exact ⟨_, _, e⟩
  rw [← hl]
  have hacc' : ItemsOf (fun i v => ∃ c u, x.cps[x.cps.size - 1 - i]? = some c ∧ v = .str ⟨#[c]⟩ u) (strValues l).toArray x.cps.size := by rw [hl]; simpa using hacc
  obtain ⟨hok, hpost⟩ := hq s' l hm hacc'
  unfold JoinOk at hok
  rw [Bool.not_eq_true'] at hok
  have g : Gives (joinTail sep (strValues l)) (joinMade sep l) := by
    have g0 := gives_joinTail sep l hok
    cases l with
    | nil => exact g0
    | cons p r => cases r with
      | nil => exact g0
      | cons q r' => exact g0
  exact g prog w A (wants Q E) s' (post_join l ⟨joinFit_length hok, hpost⟩)
end
end PySem
namespace L2
open PySem PySem.Spec PyProof.Rows
section
variable {X : Cx}
theorem rev_items {l : List Nat} {ps : List (Str × Tok)} (h : ItemsOf (fun i v => ∃ c u, (tx l).cps[(tx l).cps.size - 1 - i]? = some c ∧ v = Value.str ⟨#[c]⟩ u) (strValues ps).toArray (tx l).cps.size) : ps.map (·.1) = (l.reverse.map fun c => [c]).map tx := by
  have hz : (tx l).cps.size = l.length := List.size_toArray ..
  have hlen : ps.length = l.length := by have := h.1; rw [List.size_toArray, hz] at this; simpa [strValues] using this
  refine List.ext_getElem? fun i => ?_
  rw [List.getElem?_map, List.getElem?_map, List.getElem?_map]
  by_cases hi : i < l.length
  · have hp : i < ps.length := by omega
    have e1 : (strValues ps).toArray[i]? = some (Value.str ps[i].1 ps[i].2) := by simp [strValues, hp]
    obtain ⟨c, u, hc, e⟩ := h.2 i _ e1
    rw [hz] at hc
    have hc' : l[l.length - 1 - i]? = some c := by simpa [tx] using hc
    rw [List.getElem?_reverse hi, hc', List.getElem?_eq_getElem hp]
    have e2 : ps[i].1 = (⟨#[c]⟩ : Str) := (Value.str.inj e).1
    show some ps[i].1 = some (tx [c])
    rw [e2]; rfl
  · rw [List.getElem?_eq_none (by omega), List.getElem?_eq_none (by rw [List.length_reverse]; omega)]; rfl
variable {o e : Expr} {to te : TE} {apos cpos rpos p2 : Pos}
def tJoinRev (to te : TE) : TE := fun σ H Q => to σ H fun x H1 => ∃ sep, x = vt sep ∧ te σ H1 fun y H2 => ∃ l, y = vt l ∧ (l.length ≤ 4000 ∧ sep.length ≤ 1000) ∧ Q (vt (between sep (l.reverse.map fun c => [c]))) H2
theorem pe_joinRev (hc : X.calm = true) (hg : Gl X "reversed") (hmg : X.mg "reversed" = none) (hv : bootBuiltins "reversed" = some (.type "reversed")) (ho : PE X o to) (he : PE X e te)
    (hbase : attributeBase o "join" X.env (eval o X.env) = eval o X.env := by rfl)
    (hfew : ((backTo cpos (starEach [.Call (.Name "reversed" p2) [e] [] rpos] X.env)).all (fun x => !x.1) && (backToKw cpos (keywordEach [] X.env)).all (fun x => x.1.isSome)
      && decide ([Expr.Call (.Name "reversed" p2) [e] [] rpos].length + ([] : List Keyword).length + (if ([] : List Keyword).isEmpty then 0 else 1) < 30)) = true := by rfl)
    (hline : (apos.endLine == cpos.line) = true := by rfl) (hs : starEach [Expr.Call (.Name "reversed" p2) [e] [] rpos] X.env = [(false, eval (.Call (.Name "reversed" p2) [e] [] rpos) X.env)] := by rfl)
    (hs2 : starEach [e] X.env = [(false, eval e X.env)] := by rfl) :
    PE X (.Call (.Attribute o "join" apos) [.Call (.Name "reversed" p2) [e] [] rpos] [] cpos) (tJoinRev to te) := by
  intro pins s σ H Q I h
  refine wpAny_Call_method_late hbase hfew hline rfl (thn (ho pins s σ H _ I h) fun v s1 ⟨x, H1, I1, r1, sep, ex, q1⟩ => ?_)
  subst ex
  obtain ⟨t1, rfl⟩ := r1
  obtain ⟨h1, h2⟩ := tyV_is (T := "str") I1 (x := vt sep) ⟨t1, rfl⟩ rfl
  refine ⟨"str", "str.join", PySem.F.plainAttrs_str, PySem.F.slot_str_join, PySem.F.type_str_join, h1, h2, ?_⟩
  rw [hs]
  refine Calls.callWith_builtin rfl (Calls.evalArgs_plain ?_)
  show wpAny _ _ (spliced ((false, eval (.Call (.Name "reversed" p2) [e] [] rpos) X.env) :: backTo cpos [])) _ _ s1
  refine Calls.spliced_cons (wpAny_Call_Name_kw (ld_blt I1 hg hmg hv ?_ (by decide) (by decide)))
  refine PyProof.Rows.callWith_type1 (rest := []) ?_ hs2 rfl
  rw [hs2]
  show wpAny _ _ (spliced ((false, eval e X.env) :: backTo rpos [])) _ _ s1
  refine Calls.spliced_cons (thn (he pins s1 σ H1 _ I1 q1) fun u s2 ⟨y, H2, I2, r2, l, el, hz, q2⟩ => ?_)
  subst el
  obtain ⟨t2, rfl⟩ := r2
  refine Calls.spliced_nil ?_
  have sz : (tx l).length = l.length := tx_len l
  have hs0 := sizeLine_eq
  have hl : l.length ≤ sizeLine := by omega
  refine call_reversed_str (by rw [sz]; exact hl) fun tk => ?_
  refine Calls.spliced_nil ?_
  refine join_rev (x := tx l) (t := t2) (I2.ok.hd hc) (by rw [sz]; exact hl) ⟨_, Heap.get?_push_size _ rfl, rfl, rfl⟩ fun s' ps hm hit' => ?_
  have ee := rev_items hit'
  rw [ee]
  have hok : (((l.reverse.map fun c => [c]).map tx).map (·.length)).sum + ((l.reverse.map fun c => [c]).map tx).length * (tx sep).length ≤ 16777216 := by
    rw [sum_lens, List.length_map, List.length_map, List.length_reverse, tx_len]
    have e1 : (l.reverse.map fun c => [c]).flatten.length = l.length := by
      rw [List.length_flatten, List.map_map]
      show (l.reverse.map fun _ => 1).sum = _
      rw [List.map_const', List.sum_replicate_nat, List.length_reverse]; omega
    rw [e1]
    have : l.length * sep.length ≤ 4000 * 1000 := Nat.mul_le_mul hz.1 hz.2
    omega
  refine ⟨joinOk_of hok, fun t' k => ?_⟩
  rw [tx_join]
  obtain ⟨h', g', d', tk', os'⟩ := s'
  have e1 : g' = s2.gens := hm.gens
  have e2 : d' = s2.drawn := hm.drawn
  have e3 : os' = s2.os := hm.os
  subst e1 e2 e3
  exact ⟨.str _, H2, I2.kept (t' := k) fun b u e => hm.heap b u (fun hb => absurd (Heap.lt_size e) ((List.mem_singleton.mp hb) ▸ Nat.lt_irrefl _)) (Heap.get?_push_of_some _ e), ⟨_, rfl⟩, q2⟩
def rNeL (K : PySem.W.Frag) : R2 := fun x y H Q => ∃ a b xs ys, x = .ref a ∧ y = .ref b ∧ SqL K H a xs ∧ SqL K H b ys ∧ xs.all flatV = true ∧ ys.all flatV = true ∧ Q (.bl (!eqVs xs ys)) H
theorem op_neL (hu : X.A.units < cLine) : OpR X (compareOp .NotEq) (rNeL X.K) := by
  intro pins s σ H x y v u Q I rx ry h
  obtain ⟨a, b, xs, ys, rfl, rfl, ha, hb, fx, fy, q⟩ := h
  cases (show v = Value.ref a from rx)
  cases (show u = Value.ref b from ry)
  obtain ⟨its, rv, p, _⟩ := I.list ha
  obtain ⟨its2, rv2, p2, _⟩ := I.list hb
  have l1 := rv.length
  have l2 := rv2.length
  by_cases hz : xs.length = ys.length
  · refine SeqAt.RcNeAt.lists (e := fun j => eqV (xs.getD j .non) (ys.getD j .non)) p.isList p2.isList (by simp [← l1, ← l2, hz]) hu (fun j h1 h2 => eqAt_items rv rv2 fx fy j h1 h2) X.prog X.w X.xe _ ?_
    have e : (List.range its.toArray.size).all (fun j => eqV (xs.getD j .non) (ys.getD j .non)) = eqVs xs ys := by
      rw [← eqVs_all hz]; simp [← l1]
    rw [e]
    exact ⟨.bl _, H, I, rfl, q⟩
  · rw [eqVs_len hz] at q
    exact SeqAt.RcNeAt.lists_lengths p.isList p2.isList (by simp [← l1, ← l2, hz]) hu X.prog X.w X.xe _ ⟨.bl _, H, I, rfl, q⟩
def oNeN (hu : X.A.units < cLine) := (op_ne (X := X)).or ((op_neT hu).or (op_neL hu))
end
end L2
namespace L2
open PySem PySem.Spec PyProof.Rows
section
variable {κ : Type} [DecidableEq κ]
def valV (kvs : List (κ × V)) (k : κ) : Option V := (kvs.find? fun kv => decide (kv.1 = k)).map (·.2)
def putK (kvs : List (κ × V)) (k : κ) (v : V) : List (κ × V) :=
  if (kvs.any fun kv => decide (kv.1 = k)) = true then kvs.map (fun kv => if kv.1 = k then (kv.1, v) else kv) else kvs ++ [(k, v)]
def dropK (kvs : List (κ × V)) (k : κ) : List (κ × V) := kvs.filter fun kv => decide (kv.1 ≠ k)
theorem valV_pos {p : κ × V} {r : List (κ × V)} {k : κ} (e : p.1 = k) : valV (p :: r) k = some p.2 := by simp [valV, List.find?_cons, e]
theorem valV_neg {p : κ × V} {r : List (κ × V)} {k : κ} (e : ¬ p.1 = k) : valV (p :: r) k = valV r k := by simp [valV, List.find?_cons, e]
theorem valV_any (k : κ) : ∀ kvs : List (κ × V), (kvs.any fun kv => decide (kv.1 = k)) = (valV kvs k).isSome
  | [] => rfl
  | p :: r => by
    rw [List.any_cons]
    by_cases e : p.1 = k
    · simp only [valV_pos e, decide_eq_true e, Bool.true_or, Option.isSome_some]
    · rw [valV_neg e, decide_eq_false e, Bool.false_or]; exact valV_any k r
theorem valV_map (k j : κ) (y : V) : ∀ kvs : List (κ × V), valV (kvs.map fun kv => if kv.1 = k then (kv.1, y) else kv) j = (valV kvs j).map fun x => if j = k then y else x
  | [] => rfl
  | p :: r => by
    have ih := valV_map k j y r
    rw [List.map_cons]
    by_cases h : p.1 = k
    · rw [if_pos h]
      by_cases e : p.1 = j
      · rw [valV_pos (p := (p.1, y)) e, valV_pos e, Option.map_some, if_pos (e.symm.trans h)]
      · rw [valV_neg (p := (p.1, y)) e, valV_neg e, ih]
    · rw [if_neg h]
      by_cases e : p.1 = j
      · rw [valV_pos (p := p) e, valV_pos e, Option.map_some, if_neg (fun z => h (e.trans z))]
      · rw [valV_neg (p := p) e, valV_neg e, ih]
theorem valV_snoc (k j : κ) (y : V) : ∀ kvs : List (κ × V), valV kvs k = none → valV (kvs ++ [(k, y)]) j = if j = k then some y else valV kvs j
  | [], _ => by
    by_cases e : k = j
    · rw [if_pos e.symm]; exact valV_pos (p := (k, y)) e
    · rw [if_neg (fun z => e z.symm)]; exact valV_neg (p := (k, y)) e
  | p :: r, hn => by
    rw [List.cons_append]
    have hk : ¬ p.1 = k := fun z => by rw [valV_pos z] at hn; cases hn
    rw [valV_neg hk] at hn
    have ih := valV_snoc k j y r hn
    by_cases e : p.1 = j
    · rw [valV_pos e, valV_pos e, if_neg (fun z => hk (e.trans z))]
    · rw [valV_neg e, valV_neg e, ih]
theorem valV_put (kvs : List (κ × V)) (k j : κ) (y : V) : valV (putK kvs k y) j = if j = k then some y else valV kvs j := by
  unfold putK
  by_cases a : (kvs.any fun kv => decide (kv.1 = k)) = true
  · rw [if_pos a, valV_map]
    rw [valV_any] at a
    by_cases e : j = k
    · obtain ⟨x, hx⟩ := Option.isSome_iff_exists.mp a
      rw [if_pos e, e, hx, Option.map_some, if_pos rfl]
    · rw [if_neg e]
      cases valV kvs j with
      | none => rfl
      | some x => rw [Option.map_some, if_neg e]
  · rw [if_neg a]
    refine valV_snoc k j y kvs ?_
    rw [valV_any] at a
    cases q : valV kvs k with
    | none => rfl
    | some x => rw [q] at a; exact (a rfl).elim
theorem length_putK (kvs : List (κ × V)) (k : κ) (v : V) : (putK kvs k v).length ≤ kvs.length + 1 := by
  unfold putK
  split
  · rw [List.length_map]; omega
  · rw [List.length_append, List.length_cons, List.length_nil]; omega
theorem RelO.isSome_eq {o : Option V} {u : Option Value} (r : RelO o u) : o.isSome = u.isSome := by
  cases o with
  | none => cases u with
    | none => rfl
    | some _ => exact (show False from r).elim
  | some _ => cases u with
    | none => exact (show False from r).elim
    | some _ => rfl
theorem RelO.getD {o : Option V} {u : Option Value} {d : V} {d' : Value} (r : RelO o u) (rd : RelV d d') : RelV (o.getD d) (u.getD d') := by
  cases o with
  | none => cases u with
    | none => exact rd
    | some _ => exact (show False from r).elim
  | some _ => cases u with
    | none => exact (show False from r).elim
    | some _ => exact r
theorem KV.val {kvs : List (κ × V)} {vs : List (κ × Value)} (r : KV kvs vs) (k : κ) : RelO (valV kvs k) (valueAt vs k) := by
  unfold KV at r
  induction r with
  | nil => exact True.intro
  | @cons p q ps qs h t ih =>
    obtain ⟨h1, h2⟩ := h
    by_cases e : p.1 = k
    · have e' : q.1 = k := h1.symm.trans e
      have b : valueAt (q :: qs) k = some q.2 := by simp [valueAt, List.find?_cons, e']
      rw [valV_pos e, b]; exact h2
    · have e' : ¬ q.1 = k := fun z => e (h1.trans z)
      have b : valueAt (q :: qs) k = valueAt qs k := by simp [valueAt, List.find?_cons, e']
      rw [valV_neg e, b]; exact ih
theorem KV.any {kvs : List (κ × V)} {vs : List (κ × Value)} (r : KV kvs vs) (k : κ) : (kvs.any fun kv => decide (kv.1 = k)) = vs.any fun kv => decide (kv.1 = k) := by
  unfold KV at r
  induction r with
  | nil => rfl
  | cons h t ih => rw [List.any_cons, List.any_cons, ih, h.1]
theorem KV.repl {kvs : List (κ × V)} {vs : List (κ × Value)} (r : KV kvs vs) (k : κ) {y : V} {u : Value} (ry : RelV y u) :
    KV (kvs.map fun kv => if kv.1 = k then (kv.1, y) else kv) (vs.map fun kv => if kv.1 = k then (kv.1, u) else kv) := by
  unfold KV at r ⊢
  induction r with
  | nil => exact .nil
  | @cons p q ps qs h t ih =>
    rw [List.map_cons, List.map_cons]
    refine .cons ?_ ih
    obtain ⟨h1, h2⟩ := h
    by_cases e : p.1 = k
    · rw [if_pos e, if_pos (h1.symm.trans e)]; exact ⟨h1, ry⟩
    · rw [if_neg e, if_neg (fun z => e (h1.trans z))]; exact ⟨h1, h2⟩
theorem KV.put {kvs : List (κ × V)} {vs : List (κ × Value)} (r : KV kvs vs) (k : κ) {y : V} {u : Value} (ry : RelV y u) : KV (putK kvs k y) (stored vs k u) := by
  unfold putK stored
  rw [r.any k]
  by_cases e : (vs.any fun kv => decide (kv.1 = k)) = true
  · rw [if_pos e, if_pos e]; exact r.repl k ry
  · rw [if_neg e, if_neg e]; exact Paired.snoc r ⟨rfl, ry⟩
theorem KV.drop {kvs : List (κ × V)} {vs : List (κ × Value)} (r : KV kvs vs) (k : κ) : KV (dropK kvs k) (without vs k) := by
  unfold KV at r ⊢
  unfold dropK without
  induction r with
  | nil => exact .nil
  | @cons p q ps qs h t ih =>
    obtain ⟨h1, h2⟩ := h
    rw [List.filter_cons, List.filter_cons]
    by_cases e : p.1 = k
    · have a : ¬ decide (p.1 ≠ k) = true := by simp [e]
      have b : ¬ decide (q.1 ≠ k) = true := by simp [h1.symm.trans e]
      rw [if_neg a, if_neg b]; exact ih
    · have e' : ¬ q.1 = k := fun z => e (h1.trans z)
      have a : decide (p.1 ≠ k) = true := by simp [e]
      have b : decide (q.1 ≠ k) = true := by simp [e']
      rw [if_pos a, if_pos b]; exact .cons ⟨h1, h2⟩ ih
theorem KV.keys {kvs : List (κ × V)} {vs : List (κ × Value)} (r : KV kvs vs) : kvs.map (·.1) = vs.map (·.1) := by
  unfold KV at r
  induction r with
  | nil => rfl
  | cons h t ih => rw [List.map_cons, List.map_cons, ih, h.1]
theorem KV.length {kvs : List (κ × V)} {vs : List (κ × Value)} (r : KV kvs vs) : kvs.length = vs.length := Paired.length r
end
theorem kV_is {P : Program} {w : World} {k : Key} {u : Value} (r : RelV (kV k) u) : (mixKind P w).is k u = true := by
  cases k with
  | inl i => obtain ⟨t, e⟩ := (show ∃ t, u = Value.int i t from r); subst e; exact mixKind_int P w i t
  | inr x => obtain ⟨t, e⟩ := (show ∃ t, u = Value.str x t from r); subst e; exact mixKind_str P w x t
theorem items_are {P : Program} {w : World} : ∀ {ks : List Key} {us : List Value}, Vals (ks.map kV) us → ItemsAre (mixKind P w) ks us
  | [], _, r => by rw [List.map_nil] at r; cases r; exact .nil
  | k :: ks, _, r => by
    rw [List.map_cons] at r
    cases r with
    | cons h t => exact .cons (kV_is h) (items_are t)
abbrev KT (H : Hp) : List (List Key × V) → List (List Key × Addr × Value) → Prop := Paired fun p q => p.1 = q.1 ∧ H q.2.1 = some (.tup (p.1.map kV)) ∧ RelV p.2 q.2.2
theorem KT.val {H : Hp} {kvs : List (List Key × V)} {xs : List (List Key × Addr × Value)} (r : KT H kvs xs) (k : List Key) : RelO (valV kvs k) ((atKey xs k).map (·.2)) := by
  induction r with
  | nil => exact True.intro
  | @cons p q ps qs h t ih =>
    obtain ⟨h1, _, h2⟩ := h
    by_cases e : p.1 = k
    · have e' : q.1 = k := h1.symm.trans e
      have b : atKey (q :: qs) k = some q.2 := by simp [atKey, List.find?_cons, e']
      rw [valV_pos e, b]; exact h2
    · have e' : ¬ q.1 = k := fun z => e (h1.trans z)
      have b : atKey (q :: qs) k = atKey qs k := by simp [atKey, List.find?_cons, e']
      rw [valV_neg e, b]; exact ih
theorem KT.repl {H : Hp} {kvs : List (List Key × V)} {xs : List (List Key × Addr × Value)} (r : KT H kvs xs) (k : List Key) {y : V} {u : Value} (ry : RelV y u) :
    KT H (kvs.map fun kv => if kv.1 = k then (kv.1, y) else kv) (xs.map (putAt k u)) := by
  induction r with
  | nil => exact .nil
  | @cons p q ps qs h t ih =>
    rw [List.map_cons, List.map_cons]
    refine .cons ?_ ih
    obtain ⟨h1, h2, h3⟩ := h
    unfold putAt
    by_cases e : p.1 = k
    · rw [if_pos e, if_pos (h1.symm.trans e)]; exact ⟨h1, h2, ry⟩
    · rw [if_neg e, if_neg (fun z => e (h1.trans z))]; exact ⟨h1, h2, h3⟩
theorem KT.put {H : Hp} {kvs : List (List Key × V)} {xs : List (List Key × Addr × Value)} (r : KT H kvs xs) (k : List Key) {b : Addr} {y : V} {u : Value} (hb : H b = some (.tup (k.map kV))) (ry : RelV y u) :
    KT H (putK kvs k y) (storedH xs k b u) := by
  have e : (kvs.any fun kv => decide (kv.1 = k)) = (atKey xs k).isSome := by
    rw [valV_any, (r.val k).isSome_eq, Option.isSome_map]
  unfold putK storedH
  rw [e]
  by_cases q : (atKey xs k).isSome = true
  · rw [if_pos q, if_pos q]; exact r.repl k ry
  · rw [if_neg q, if_neg q]; exact Paired.snoc r ⟨rfl, hb, ry⟩
theorem KT.keeps {H H' : Hp} {kvs : List (List Key × V)} {xs : List (List Key × Addr × Value)} (r : KT H kvs xs) (ht : ∀ b ys, H b = some (.tup ys) → H' b = some (.tup ys)) : KT H' kvs xs :=
  Paired.mapP r fun _ _ z => ⟨z.1, ht _ _ z.2.1, z.2.2⟩
section
variable {P : Program} {w : World} {H : Hp} {h : Heap} {a : Addr}
theorem rd_of {u : HO} (ok : HOk P w H h) (e : Rd H a u) : ObjOk P w H h a u := e.ok ok
theorem dk_rd {kvs : List (Key × V)} (ok : HOk P w H h) (e : Rd H a (.dK kvs)) : kvs.length ≤ sizeLine ∧ (a == sysModules) = false ∧ ∃ vs, KV kvs vs ∧ h.DictOf (mixKind P w) a vs :=
  show ObjOk P w H h a (.dK kvs) from rd_of ok e
theorem dk_of {kvs : List (Key × V)} (ok : HOk P w H h) (e : H a = some (.dK kvs)) : kvs.length ≤ sizeLine ∧ (a == sysModules) = false ∧ ∃ vs, KV kvs vs ∧ h.DictOf (mixKind P w) a vs := dk_rd ok (.inl e)
theorem key_of {ks : List Key} (ok : HOk P w H h) (e : H a = some (.tup (ks.map kV))) : (tupleKind (mixKind P w)).is h ks a := by
  obtain ⟨_, its, r, o, h1, h2, n, h3⟩ := (show ObjOk P w H h a (.tup (ks.map kV)) from ok a _ e)
  exact ⟨o, its.toArray, n, h1, h2, h3, by simpa using items_are r⟩
theorem dt_rd {kvs : List (List Key × V)} (ok : HOk P w H h) (e : Rd H a (.dT kvs)) : kvs.length ≤ sizeLine ∧ (a == sysModules) = false ∧
    ∃ xs, KT H kvs xs ∧ h.DictOfH (tupleKind (mixKind P w)) a xs := by
  obtain ⟨z, y, xs, r, o, es, ep, h1, h2, h3, h4, h5⟩ := (show ObjOk P w H h a (.dT kvs) from rd_of ok e)
  refine ⟨z, y, xs, r, o, es, ep, h1, h2, h3, h4, fun x hx => ?_, h5⟩
  have all : ∀ {l : List (List Key × V)} {m : List (List Key × Addr × Value)}, KT H l m → ∀ x ∈ m, (tupleKind (mixKind P w)).is h x.1 x.2.1 := by
    intro l m q
    induction q with
    | nil => intro x hx; exact nomatch hx
    | @cons p q ps qs hq t ih =>
      intro x hx
      rcases List.mem_cons.mp hx with e | hx
      · subst e
        exact key_of ok (by rw [← hq.1]; exact hq.2.1)
      · exact ih x hx
  exact all r x hx
theorem dt_of {kvs : List (List Key × V)} (ok : HOk P w H h) (e : H a = some (.dT kvs)) : kvs.length ≤ sizeLine ∧ (a == sysModules) = false ∧
    ∃ xs, KT H kvs xs ∧ h.DictOfH (tupleKind (mixKind P w)) a xs := dt_rd ok (.inl e)
end
def DGet (H : Hp) (a : Addr) (y : V) (r : Option V) : Prop :=
  (∃ kvs k, Rd H a (.dK kvs) ∧ y = kV k ∧ r = valV kvs k) ∨ ∃ kvs k b, Rd H a (.dT kvs) ∧ y = .ref b ∧ H b = some (.tup (k.map kV)) ∧ r = valV kvs k
def DPut (H : Hp) (a : Addr) (y v : V) (H' : Hp) : Prop :=
  (∃ kvs k, H a = some (.dK kvs) ∧ y = kV k ∧ kvs.length < sizeLine ∧ H' = upd H a (.dK (putK kvs k v))) ∨
  ∃ kvs k b, H a = some (.dT kvs) ∧ y = .ref b ∧ H b = some (.tup (k.map kV)) ∧ kvs.length < sizeLine ∧ H' = upd H a (.dT (putK kvs k v))
theorem DGet.k {H : Hp} {a : Addr} {kvs : List (Key × V)} {k : Key} (e : H a = some (.dK kvs)) : DGet H a (kV k) (valV kvs k) := .inl ⟨kvs, k, .inl e, rfl, rfl⟩
theorem DGet.t {H : Hp} {a b : Addr} {kvs : List (List Key × V)} {k : List Key} (e : H a = some (.dT kvs)) (eb : H b = some (.tup (k.map kV))) : DGet H a (.ref b) (valV kvs k) := .inr ⟨kvs, k, b, .inl e, rfl, eb, rfl⟩
theorem DPut.k {H : Hp} {a : Addr} {kvs : List (Key × V)} {k : Key} {v : V} (e : H a = some (.dK kvs)) (hl : kvs.length < sizeLine) : DPut H a (kV k) v (upd H a (.dK (putK kvs k v))) := .inl ⟨kvs, k, e, rfl, hl, rfl⟩
theorem DPut.t {H : Hp} {a b : Addr} {kvs : List (List Key × V)} {k : List Key} {v : V} (e : H a = some (.dT kvs)) (eb : H b = some (.tup (k.map kV))) (hl : kvs.length < sizeLine) :
    DPut H a (.ref b) v (upd H a (.dT (putK kvs k v))) := .inr ⟨kvs, k, b, e, rfl, eb, hl, rfl⟩
section
variable {X : Cx} {pins : List (Addr × Obj)} {σ : St} {H : Hp} {s : Shared} {a : Addr} {y v : V} {u r : Value} {o : Option V} {A : Around} {E : Value → Shared → Prop}
theorem d_getItem {Q : Value → Shared → Prop} (hu : A.units + 1 < cLine) (I : Inv X pins σ H s) (g : DGet H a y (some v)) (ry : RelV y u) (h : ∀ w' s', Inv X pins σ H s' → RelV v w' → Q w' s') :
    wpAny (model X.prog X.w) A (getItem (.ref a) u) Q E s := by
  rcases g with ⟨kvs, k, e, ey, l⟩ | ⟨kvs, k, b, e, ey, eb, l⟩
  · subst ey
    obtain ⟨z, hd, vs, rel, dd⟩ := dk_rd I.hok e
    obtain ⟨w', hw, rw'⟩ := RelO.some_of (v := v) (o := valueAt vs k) (by rw [l]; exact rel.val k)
    exact wpAny_getItem_of (kV_is ry) dd.mapOf hw (h w' _ (I.tok _) rw')
  · subst ey
    cases (show u = Value.ref b from ry)
    obtain ⟨z, hd, xs, rel, dd⟩ := dt_rd I.hok e
    obtain ⟨w', hw, rw'⟩ := RelO.some_of (v := v) (o := (atKey xs k).map (·.2)) (by rw [l]; exact rel.val k)
    obtain ⟨p, hp, hp2⟩ := Option.map_eq_some_iff.mp hw
    refine wpAny_getItem_heap (tupleKind_room_in1 hu) (key_of I.hok eb) dd hp ?_
    rw [hp2]
    exact h w' _ (I.tok _) rw'
theorem d_in {Q : Value → Shared → Prop} (hu : A.units + 1 < cLine) (I : Inv X pins σ H s) (g : DGet H a y o) (ry : RelV y u) (h : ∀ s', Inv X pins σ H s' → Q (.bool o.isSome) s') :
    wpAny (model X.prog X.w) A (compareOp .In u (.ref a)) Q E s := by
  rcases g with ⟨kvs, k, e, ey, l⟩ | ⟨kvs, k, b, e, ey, eb, l⟩
  · subst ey
    obtain ⟨z, hd, vs, rel, dd⟩ := dk_rd I.hok e
    refine wpAny_in_of (kV_is ry) hd dd.mapOf ?_
    rw [← (rel.val k).isSome_eq, ← l]
    exact h _ (I.tok _)
  · subst ey
    cases (show u = Value.ref b from ry)
    obtain ⟨z, hd, xs, rel, dd⟩ := dt_rd I.hok e
    refine wpAny_in_heap (tupleKind_room_in1 hu) (key_of I.hok eb) hd dd ?_
    have q := (rel.val k).isSome_eq
    rw [Option.isSome_map] at q
    rw [← q, ← l]
    exact h _ (I.tok _)
theorem d_write {h' : Heap} {t' : Nat} {ob : HO} (I : Inv X pins σ H s) (mu : Mut (H a)) (hs : Heap.SameBut a s.heap h') (he : ∃ q, h'.get? a = some q) (new : ObjOk X.prog X.w (upd H a ob) h' a ob) :
    Inv X pins σ (upd H a ob) { s with heap := h', toks := t' } :=
  I.write (x := a) (e := a) mu (.inl rfl) (fun b q hb z => (hs.2 b hb).trans z) he new
theorem dk_new {P : Program} {w : World} {H' : Hp} {h' : Heap} {kvs : List (Key × V)} {vs : List (Key × Value)} (z : kvs.length ≤ sizeLine) (hd : (a == sysModules) = false) (rel : KV kvs vs) (dd : h'.DictOf (mixKind P w) a vs) :
    ObjOk P w H' h' a (.dK kvs) := ⟨z, hd, vs, rel, dd⟩
theorem d_setItem {H' : Hp} {Q : Unit → Shared → Prop} (hu : A.units + 1 < cLine) (I : Inv X pins σ H s) (g : DPut H a y v H') (ry : RelV y u) (rv : RelV v r) (h : ∀ s', Inv X pins σ H' s' → Q () s') :
    wpAny (model X.prog X.w) A (setItem (.ref a) u r) Q E s := by
  rcases g with ⟨kvs, k, e, ey, l, eH⟩ | ⟨kvs, k, b, e, ey, eb, l, eH⟩
  · subst ey eH
    obtain ⟨z, hd, vs, rel, dd⟩ := dk_of I.hok e
    have hz : vs.length ≤ sizeLine := by rw [← rel.length]; exact z
    have hl : (putK kvs k v).length ≤ sizeLine := by have := length_putK kvs k v; omega
    refine wpAny_setItem_pairs (hsz := hz) (kV_is ry) dd fun h' dd' hs => h _ ?_
    have he : ∃ q, h'.get? a = some q := let ⟨q, _, _, hq, _⟩ := dd'; ⟨q, hq⟩
    exact d_write I (by rw [e]; exact True.intro) hs he (dk_new hl hd (rel.put k rv) dd')
  · subst ey eH
    cases (show u = Value.ref b from ry)
    obtain ⟨z, hd, xs, rel, dd⟩ := dt_of I.hok e
    have hz : xs.length ≤ sizeLine := by rw [← Paired.length rel]; exact z
    have hl : (putK kvs k v).length ≤ sizeLine := by have := length_putK kvs k v; omega
    refine wpAny_setItem_heap (hsz := hz) (tupleKind_room_in1 hu) (key_of I.hok eb) dd fun h' dd' hs => h _ ?_
    obtain ⟨q, es, ep, hq, h2, h3, h4, _, h5⟩ := dd'
    refine d_write I (by rw [e]; exact True.intro) hs ⟨q, hq⟩ ⟨hl, hd, _, (rel.put k eb rv).keeps fun c ys ec => ?_, q, es, ep, hq, h2, h3, h4, h5⟩
    rw [upd_ne (ne_of ec e (fun z => nomatch z))]
    exact ec
end
section
variable {X : Cx} {pins : List (Addr × Obj)} {σ : St} {H : Hp} {s : Shared} {a : Addr} {kvs : List (Key × V)} {k : Key} {u : Value} {A : Around} {E : Value → Shared → Prop}
end
def NoSl (i : Expr) : Prop := ∀ ov iv, subscripted i false ov iv = operate [ov, iv] (getItem ov iv)
theorem subD_of {prog : Program} {w : World} {A : Around} {E : Value → Shared → Prop} {s : Shared} {env : Env} {value slice : Expr} {pos : Pos} {T id : String} {Q : Value → Shared → Prop}
    (hl : typeLookup (.type T) "__getitem__" = pure (some (.builtin id))) (hs : NoSl slice)
    (h : wpAny (model prog w) A (eval value env) (fun o s₁ => wpAny (model prog w) A (eval slice env) (fun i s₂ => s₂.TypeIs o T ∧ wpAny (model prog w) A (getItem o i) Q E s₂) E s₁) E s) :
    wpAny (model prog w) A (eval (.Subscript value slice pos) env) Q E s := by
  refine Subscript_ (wpAny_mono h (fun o s₁ h₁ => wpAny_mono h₁ (fun i s₂ h₂ => ?_) fun _ _ x => x) fun _ _ x => x)
  obtain ⟨hT, h₂⟩ := h₂
  unfold subscriptTail
  refine wpAny_bind ?_
  rw [getitemInPython_of_ne hT.not_modules]
  refine wpAny_bind (wpAny_specialOf hT hl ?_)
  have fin : wpAny (model prog w) A (subscripted slice false o i) (fun r s₃ => wpAny (model prog w) A (letTemporaryGo value o r >>= fun _ => pure r) Q E s₃) E s₂ := by
    rw [hs o i]
    exact wpAny_operating (wpAny_mono h₂ (fun r s₃ h₃ => wpAny_bind (wpAny_letTemporaryGo (wpAny_pure h₃))) fun _ _ x => x)
  first
    | exact wpAny_pure (wpAny_bind fin)
    | exact wpAny_bind (wpAny_pure (wpAny_bind fin))
    | exact wpAny_bind fin
theorem dict_typeIs {X : Cx} {pins : List (Addr × Obj)} {σ : St} {H : Hp} {s : Shared} {a : Addr} {y : V} {o : Option V} (I : Inv X pins σ H s) (g : DGet H a y o) : s.TypeIs (.ref a) "dict" := by
  rcases g with ⟨kvs, k, e, _, _⟩ | ⟨kvs, k, b, e, _, _, _⟩
  · obtain ⟨_, _, vs, _, dd⟩ := dk_rd I.hok e
    exact dd.typeIs
  · obtain ⟨_, _, xs, _, dd⟩ := dt_rd I.hok e
    exact dd.typeIs
def tDGet (td ty : TE) : TE := fun σ H Q => td σ H fun x H1 => ty σ H1 fun y H2 => ∃ a v, x = .ref a ∧ DGet H2 a y (some v) ∧ Q v H2
def tDIn (ty td : TE) : TE := fun σ H Q => ty σ H fun y H1 => td σ H1 fun x H2 => ∃ a o, x = .ref a ∧ DGet H2 a y o ∧ Q (.bl o.isSome) H2
def sDPut (td ty tv : TE) : TS := fun D σ H => tv σ H fun v H1 => td σ H1 fun x H2 => ty σ H2 fun y H3 => ∃ a H4, x = .ref a ∧ DPut H3 a y v H4 ∧ D.nx σ H4
section
variable {X : Cx} {o i e value : Expr} {pos pos' tpos : Pos} {td ty tv : TE}
theorem pe_dget (hu : X.A.units + 1 < cLine) (ho : PE X o td) (hi : PE X i ty) (hs : NoSl i) : PE X (.Subscript o i pos) (tDGet td ty) := by
  intro pins s σ H Q I h
  refine subD_of PySem.F.slot_dict_getitem.lookup hs (thn (ho pins s σ H _ I h) fun u s1 ⟨x, H1, I1, rx, q1⟩ => thn (hi pins s1 σ H1 _ I1 q1) fun iv s2 ⟨y, H2, I2, ry, a, v, ex, g, q2⟩ => ?_)
  subst ex
  obtain rfl : u = Value.ref a := rx
  exact ⟨dict_typeIs I2 g, d_getItem hu I2 g ry fun w' s3 I3 rw' => ⟨v, H2, I3, rw', q2⟩⟩
theorem pc_din (hu : X.A.units + 1 < cLine) (hi : PE X i ty) (ho : PE X o td) : PC X .In i o (tDIn ty td) := by
  intro pins s σ H Q I h
  refine thn (hi pins s σ H _ I h) fun iv s1 ⟨y, H1, I1, ry, q1⟩ => thn (ho pins s1 σ H1 _ I1 q1) fun u s2 ⟨x, H2, I2, rx, a, ov, ex, g, q2⟩ => ?_
  subst ex
  obtain rfl : u = Value.ref a := rx
  exact d_in hu I2 g ry fun s3 I3 => ⟨.bl ov.isSome, H2, I3, rfl, q2⟩
theorem ps_dput (hu : X.A.units + 1 < cLine) (ho : PE X o td) (hi : PE X i ty) (hv : PE X value tv) (hs : swapsWith value (some (.Subscript o i pos')) pos.line X.env = pure false) :
    PS X (.Assign [.Subscript o i pos'] value pos) (sDPut td ty tv) := by
  intro pins s σ H D I h
  refine wpAny_Assign_Subscript (thn (hv pins s σ H _ I h) fun r s1 ⟨v, H1, I1, rv, q1⟩ => thn (ho pins s1 σ H1 _ I1 q1) fun u s2 ⟨x, H2, I2, rx, q2⟩ => thn (hi pins s2 σ H2 _ I2 q2) fun iv s3 ⟨y, H3, I3, ry, a, H4, ex, g, q3⟩ => ?_) hs
  subst ex
  obtain rfl : u = Value.ref a := rx
  exact d_setItem hu I3 g ry rv fun s4 I4 => ⟨σ, H4, I4, q3⟩
end
section
variable {X : Cx} {pos : Pos}
end
structure M1 (X : Cx) (o : Expr) (m : Str) (apos : Pos) (e : Expr) (cpos : Pos) : Prop where
  base : attributeBase o m X.env (eval o X.env) = eval o X.env
  few : ((backTo cpos (starEach [e] X.env)).all (fun x => !x.1) && (backToKw cpos (keywordEach [] X.env)).all (fun x => x.1.isSome)
    && decide (([e] : List Expr).length + ([] : List Keyword).length + (if ([] : List Keyword).isEmpty then 0 else 1) < 30)) = true
  line : (apos.endLine == cpos.line) = true
  trees : backTo cpos (starEach [e] X.env) = [(false, eval e X.env)]
structure M2 (X : Cx) (o : Expr) (m : Str) (apos : Pos) (e f : Expr) (cpos : Pos) : Prop where
  base : attributeBase o m X.env (eval o X.env) = eval o X.env
  few : ((backTo cpos (starEach [e, f] X.env)).all (fun x => !x.1) && (backToKw cpos (keywordEach [] X.env)).all (fun x => x.1.isSome)
    && decide (([e, f] : List Expr).length + ([] : List Keyword).length + (if ([] : List Keyword).isEmpty then 0 else 1) < 30)) = true
  line : (apos.endLine == cpos.line) = true
  trees : backTo cpos (starEach [e, f] X.env) = [(false, eval e X.env), (false, eval f X.env)]
def IsD (H : Hp) (a : Addr) : Prop := (∃ kvs, Rd H a (.dK kvs)) ∨ ∃ kvs, Rd H a (.dT kvs)
theorem isD_at {X : Cx} {pins : List (Addr × Obj)} {σ : St} {H : Hp} {s : Shared} {a : Addr} (I : Inv X pins σ H s) (d : IsD H a) :
    s.TypeIs (.ref a) "dict" ∧ (∀ b, Value.ref a = .ref b → ∃ ob, s.heap.get? b = some ob ∧ ob.dict = none) ∧ (a == sysModules) = false := by
  rcases d with ⟨kvs, e⟩ | ⟨kvs, e⟩
  · obtain ⟨_, hd, vs, _, dd⟩ := dk_rd I.hok e
    refine ⟨dd.typeIs, fun b q => ?_, hd⟩
    cases q
    obtain ⟨ob, _, _, h1, h2, _⟩ := dd
    exact ⟨ob, h1, h2.2.1⟩
  · obtain ⟨_, hd, xs, _, dd⟩ := dt_rd I.hok e
    refine ⟨dd.typeIs, fun b q => ?_, hd⟩
    cases q
    obtain ⟨ob, _, _, h1, h2, _⟩ := dd
    exact ⟨ob, h1, h2.2.1⟩
section
variable {X : Cx} {pins : List (Addr × Obj)} {σ : St} {H : Hp} {s : Shared} {a : Addr} {y d : V} {u r : Value} {o : Option V} {A : Around} {E : Value → Shared → Prop}
theorem d_get1 {Q : Value → Shared → Prop} (hu : A.units + 1 < cLine) (I : Inv X pins σ H s) (g : DGet H a y o) (ry : RelV y u) (h : ∀ w' s', Inv X pins σ H s' → RelV (o.getD .non) w' → Q w' s') :
    wpAny (model X.prog X.w) A (call (.builtin "dict.get") [.ref a, u]) Q E s := by
  rcases g with ⟨kvs, k, e, ey, l⟩ | ⟨kvs, k, b, e, ey, eb, l⟩
  · subst ey
    obtain ⟨z, hd, vs, rel, dd⟩ := dk_rd I.hok e
    refine call_meetsIn PySem.F.slot_dict_get dd.typeIs PySem.F.entry_dict_get (PySem.F.args_dict_get_2 _ _) (meets_dict_get (mixKind X.prog X.w) a (kV_is ry) hd) ⟨_, dd.mapOf, h _ _ (I.tok _) ?_⟩
    rw [l]
    exact (rel.val k).getD rfl
  · subst ey
    cases (show u = Value.ref b from ry)
    obtain ⟨z, hd, xs, rel, dd⟩ := dt_rd I.hok e
    refine call_meetsIn PySem.F.slot_dict_get dd.typeIs PySem.F.entry_dict_get (PySem.F.args_dict_get_2 _ _) (meetsH_dict_get (tupleKind (mixKind X.prog X.w)) a b hd) ⟨tupleKind_room_in1 hu, k, xs, key_of I.hok eb, dd, h _ _ (I.tok _) ?_⟩
    rw [l]
    exact (rel.val k).getD rfl
theorem d_get2 {Q : Value → Shared → Prop} (hu : A.units + 1 < cLine) (I : Inv X pins σ H s) (g : DGet H a y o) (ry : RelV y u) (rd : RelV d r) (h : ∀ w' s', Inv X pins σ H s' → RelV (o.getD d) w' → Q w' s') :
    wpAny (model X.prog X.w) A (call (.builtin "dict.get") [.ref a, u, r]) Q E s := by
  rcases g with ⟨kvs, k, e, ey, l⟩ | ⟨kvs, k, b, e, ey, eb, l⟩
  · subst ey
    obtain ⟨z, hd, vs, rel, dd⟩ := dk_rd I.hok e
    refine call_meetsIn PySem.F.slot_dict_get dd.typeIs PySem.F.entry_dict_get (PySem.F.args_dict_get_3 _ _ _) (meets_dict_get_default (mixKind X.prog X.w) a (kV_is ry) hd r) ⟨_, dd.mapOf, h _ _ (I.tok _) ?_⟩
    rw [l]
    exact (rel.val k).getD rd
  · subst ey
    cases (show u = Value.ref b from ry)
    obtain ⟨z, hd, xs, rel, dd⟩ := dt_rd I.hok e
    refine call_meetsIn PySem.F.slot_dict_get dd.typeIs PySem.F.entry_dict_get (PySem.F.args_dict_get_3 _ _ _) (meetsH_dict_get_default (tupleKind (mixKind X.prog X.w)) a b hd r) ⟨tupleKind_room_in1 hu, k, xs, key_of I.hok eb, dd, h _ _ (I.tok _) ?_⟩
    rw [l]
    exact (rel.val k).getD rd
end
def tDGet1 (td ty : TE) : TE := fun σ H Q => td σ H fun x H1 => ∃ a, x = .ref a ∧ IsD H1 a ∧ ty σ H1 fun y H2 => ∃ o, DGet H2 a y o ∧ Q (o.getD .non) H2
def tDGet2 (td ty tx : TE) : TE := fun σ H Q => td σ H fun x H1 => ∃ a, x = .ref a ∧ IsD H1 a ∧ ty σ H1 fun y H2 => tx σ H2 fun z H3 => ∃ o, DGet H3 a y o ∧ Q (o.getD z) H3
section
variable {X : Cx} {o e f : Expr} {apos cpos : Pos} {td ty tx : TE}
theorem pe_dget1 (hu : X.A.units + 1 < cLine) (ho : PE X o td) (he : PE X e ty) (m : M1 X o "get" apos e cpos) : PE X (.Call (.Attribute o "get" apos) [e] [] cpos) (tDGet1 td ty) := by
  intro pins s σ H Q I h
  refine wpAny_Call_method m.base m.few m.line PySem.F.plainAttrs_dict PySem.F.slot_dict_get PySem.F.type_dict_get (thn (ho pins s σ H _ I h) fun u s1 ⟨x, H1, I1, rx, a, ex, d, q1⟩ => ?_)
  subst ex
  obtain rfl : u = Value.ref a := rx
  obtain ⟨t1, t2, _⟩ := isD_at I1 d
  refine ⟨t1, t2, ?_⟩
  rw [m.trees]
  refine Calls.callWith_builtin rfl (Calls.evalArgs_plain (Calls.spliced_cons (thn (he pins s1 σ H1 _ I1 q1) fun iv s2 ⟨y, H2, I2, ry, ov, g, q2⟩ => Calls.spliced_nil ?_)))
  exact d_get1 hu I2 g ry fun w' s3 I3 rw' => ⟨_, H2, I3, rw', q2⟩
theorem pe_dget2 (hu : X.A.units + 1 < cLine) (ho : PE X o td) (he : PE X e ty) (hf : PE X f tx) (m : M2 X o "get" apos e f cpos) : PE X (.Call (.Attribute o "get" apos) [e, f] [] cpos) (tDGet2 td ty tx) := by
  intro pins s σ H Q I h
  refine wpAny_Call_method m.base m.few m.line PySem.F.plainAttrs_dict PySem.F.slot_dict_get PySem.F.type_dict_get (thn (ho pins s σ H _ I h) fun u s1 ⟨x, H1, I1, rx, a, ex, d, q1⟩ => ?_)
  subst ex
  obtain rfl : u = Value.ref a := rx
  obtain ⟨t1, t2, _⟩ := isD_at I1 d
  refine ⟨t1, t2, ?_⟩
  rw [m.trees]
  refine Calls.callWith_builtin rfl (Calls.evalArgs_plain (Calls.spliced_cons (thn (he pins s1 σ H1 _ I1 q1) fun iv s2 ⟨y, H2, I2, ry, q2⟩ =>
    Calls.spliced_cons (thn (hf pins s2 σ H2 _ I2 q2) fun fv s3 ⟨z, H3, I3, rz, ov, g, q3⟩ => Calls.spliced_nil ?_))))
  exact d_get2 hu I3 g ry rz fun w' s4 I4 rw' => ⟨_, H3, I4, rw', q3⟩
end
section
variable {X : Cx} {pins : List (Addr × Obj)} {σ : St} {H : Hp} {s : Shared} {a : Addr} {kvs : List (Key × V)} {A : Around} {E : Value → Shared → Prop}
end
section
variable {X : Cx} {pins : List (Addr × Obj)} {σ : St} {H : Hp} {s : Shared} {a : Addr} {y : V} {u : Value} {A : Around} {E : Value → Shared → Prop}
end
end L2
namespace L2
open PySem PySem.Spec PyProof.Rows
section
variable {X : Cx}
end
section
variable {κ : Type} [DecidableEq κ]
theorem valV_not {kvs : List (κ × V)} {k : κ} (h : valV kvs k = none) : ¬ k ∈ kvs.map (·.1) := by
  intro m
  obtain ⟨p, hp, e⟩ := List.mem_map.mp m
  have q : (kvs.any fun kv => decide (kv.1 = k)) = true := List.any_eq_true.mpr ⟨p, hp, decide_eq_true e⟩
  rw [valV_any, h] at q
  exact absurd q (by simp)
theorem valV_in {kvs : List (κ × V)} {k : κ} {v : V} (h : valV kvs k = some v) : k ∈ kvs.map (·.1) := by
  have q : (kvs.any fun kv => decide (kv.1 = k)) = true := by
    rw [valV_any, h]
    all_goals rfl
  obtain ⟨p, hp, e⟩ := List.any_eq_true.mp q
  exact List.mem_map.mpr ⟨p, hp, of_decide_eq_true e⟩
end
end L2
namespace L2
open PySem PySem.Spec PyProof.Rows
section
variable {X : Cx} {pins : List (Addr × Obj)} {σ : St} {H : Hp} {s : Shared} {h' : Heap}
end
section
variable {X : Cx}
end
end L2
namespace L2
open PySem PySem.Spec PyProof.Rows
section
variable {X : Cx}
def rIndex : V → List V → Hp → VK → Prop := fun x vs H Q => ∃ l c, x = vt l ∧ vs = [vt [c]] ∧ c ∈ l ∧ ∀ j : Nat, l[j]? = some c → Q (.int (j : Int)) H
theorem mt_index : MtR X "str.index" rIndex := by
  intro pins s σ H x vs v us Q I rx rs h
  obtain ⟨l, c, rfl, rfl, hc, q⟩ := h
  obtain ⟨t, rfl⟩ := rx
  obtain ⟨u, rfl, ru⟩ := vals1 rs
  obtain ⟨t2, rfl⟩ := ru
  have hf := StrLaws.found_one (tx l) c
  rw [show (tx l).cps.toList = l from rfl, decide_eq_true hc] at hf
  cases ho : Builtin.Str.occurrences (tx l) (tx [c]) 0 (tx l).length 1 with
  | nil =>
    have : (Builtin.Str.occurrences (tx l) ⟨#[c]⟩ 0 (tx l).length 1) = [] := ho
    rw [this] at hf; cases hf
  | cons i rest =>
    have hi : i ∈ Builtin.Str.occurrences (tx l) ⟨#[c]⟩ 0 (tx l).length 1 := by
      rw [show Builtin.Str.occurrences (tx l) ⟨#[c]⟩ 0 (tx l).length 1 = i :: rest from ho]; exact List.mem_cons_self
    have hat := (StrLaws.subAt_one (tx l) c i).mp (StrLaws.occ_spec _ _ _ _ _ i hi)
    exact call_gives PySem.F.slot_str_index (typeIs_str _ _ _) PySem.F.entry_str_index (PySem.F.args_str_index_2 _ _) (gives_str_index (tx l) (tx [c]) t t2 i rest ho) ⟨.int i, H, I.tok _, ⟨_, rfl⟩, q i hat⟩
def rGetL (K : PySem.W.Frag) : V → V → Hp → VK → Prop := fun x y H Q => ∃ p xs i v, x = .ref p ∧ y = .int i ∧ SqL K H p xs ∧ 0 ≤ i ∧ atI xs i = some v ∧ Q v H
theorem get_list : PGet X (rGetL X.K) := by
  intro pins s σ H x y v u Q I rx ry h
  obtain ⟨p, xs, i, z, rfl, rfl, hq, h0, he, q⟩ := h
  cases rx
  obtain ⟨t, rfl⟩ := ry
  obtain ⟨its, r, pl, hz⟩ := I.list hq
  obtain ⟨j, h1, h2, h3, h4, h5⟩ := atI_get he
  obtain ⟨w, ew, rw'⟩ := r.get h2
  have hl := r.length
  have hn := line63
  have hj : i.toNat = j := by
    rw [seqIndex_of h0 h5] at h1
    exact Option.some.inj h1
  exact wpAny_getItem_list pl.isList h0 (by omega) (by rw [hj]; simpa using ew) ⟨z, H, I, rw', q⟩
end
end L2
namespace L2
open PySem PySem.Spec PyProof.Rows
structure DEnt (o : Obj) (es : Array DictEntry) (ep : Nat) : Prop where
  ex : o.ExactDict
  da : o.data = .dict es ep
section
variable {prog : Program} {w : World} {A : Around} {E : Value → Shared → Prop} {s : Shared} {o : Obj} {es : Array DictEntry} {ep : Nat} {it d : Addr} {i : Nat}
theorem DEnt.typeIs (D : DEnt o es ep) (ho : s.heap.get? d = some o) : s.TypeIs (.ref d) "dict" := ⟨o, ho, D.ex.1⟩
theorem de_iter {Q : Value → Shared → Prop} (D : DEnt o es ep) (ho : s.heap.get? d = some o) (hd : (d == sysModules) = false)
    (hQ : Q (.ref s.heap.objs.size) { s with heap := s.heap.push { cls := .type "dict_keyiterator", data := .fields #[.ref d, .int 0 0, .int es.size 0, .int ep 0] } }) :
    wpAny (model prog w) A (pyIter (.ref d)) Q E s := by
  have hT : s.TypeIs (.ref d) "dict" := D.typeIs ho
  refine wpAny_pyIter_slot hT F.slot_dict_iter (wpAny_call_entry F.slot_dict_iter hT F.entry_dict_iter ?_ (F.args_dict_iter_1 _))
  unfold Builtin.«dict.__iter__»
  refine wpAny_bind ?_
  unfold Builtin.Dict.dictSlotNone
  refine wpAny_bind (wpAny_notOrdered_dict hT ?_)
  show wpAny _ _ (pure (Value.ref d)) _ _ s
  refine wpAny_pure ?_
  show wpAny _ _ (Builtin.Dict.showsAll d >>= _) _ _ s
  unfold Builtin.Dict.showsAll
  rw [if_neg (by rw [hd]; exact Bool.false_ne_true)]
  refine wpAny_bind (wpAny_pure ?_)
  refine wpAny_bind (wpAny_dictEntries ho D.da ?_)
  refine wpAny_bind (wpAny_dictEpoch ho D.da ?_)
  refine wpAny_bind (wpAny_newObj_type (wpAny_pure ⟨_, rfl, "dict_keyiterator", _, ⟨_, Heap.get?_push_size _ rfl, rfl⟩, F.slot_dict_keyiterator_next.lookup, ?_⟩))
  simpa [rawInt] using hQ
theorem de_item {Q : Option Value → Shared → Prop} (hit : s.heap.IsKeyIter it d i es.size ep) (D : DEnt o es ep) (hod : s.heap.get? d = some o) (hlt : i < es.size)
    (hQ : ∀ h', h'.IsKeyIter it d (i + 1) es.size ep → Heap.SameBut it s.heap h' → Q (some es[i].key) { s with heap := h' }) :
    wpAny (model prog w) A (pyNext (.ref it)) Q E s := by
  obtain ⟨oi, ho, hc, hd⟩ := id hit
  unfold pyNext
  refine wpAny_bind (wpAny_attempt (wpAny_callSpecial?_slot (name := Str.ofString "__next__") hit.typeIs F.slot_dict_keyiterator_next
    (wpAny_call_entry F.slot_dict_keyiterator_next hit.typeIs F.entry_dict_keyiterator_next ?_ (F.args_dict_keyiterator_next_1 _))))
  refine wpAny_bind (wpAny_pure ?_)
  refine wpAny_bind ?_
  refine wpAny_bind ?_
  first | refine wpAny_bind (wpAny_typeNameOfWhole_keyiter hit.typeIs (wpAny_pure ?_)) | refine wpAny_bind (wpAny_typeNameOf_keyiter hit.typeIs (wpAny_pure ?_))
  refine wpAny_bind (wpAny_fieldsOf ho hd ?_)
  have hown : Builtin.Dict_items.ownsTuple "dict_keyiterator" = false := by decide
  simp only [hown, Bool.false_eq_true, if_false]
  show wpAny _ _ (if (Value.ref d == Value.none) = true then _ else _) _ _ s
  rw [if_neg (show ¬ ((Value.ref d == Value.none) = true) from Bool.false_ne_true)]
  refine wpAny_bind (wpAny_pure ?_)
  refine wpAny_bind (wpAny_dictEntries hod D.da ?_)
  rw [if_neg (by simp)]
  refine wpAny_bind (wpAny_pure ?_)
  refine wpAny_bind (wpAny_dictEpoch hod D.da ?_)
  rw [if_neg (by simp)]
  refine wpAny_pure ?_
  simp only [show ¬ ((i : Int) < 0) from by omega, if_false, Int.toNat_natCast, Array.getElem?_eq_getElem hlt]
  refine wpAny_bind ?_
  first | refine wpAny_bind (wpAny_typeNameOfWhole_keyiter hit.typeIs (wpAny_pure ?_)) | refine wpAny_bind (wpAny_typeNameOf_keyiter hit.typeIs (wpAny_pure ?_))
  refine wpAny_bind (wpAny_isOneOf_keyiter hit.typeIs ?_)
  show wpAny _ _ (setField (.ref it) 1 (rawInt ((i : Int) + 1)) >>= _) _ _ s
  refine wpAny_bind (wpAny_setField ho hd (by simp) ?_)
  have hit' : (s.heap.update it (Obj.mapFields (·.setIfInBounds 1 (rawInt ((i : Int) + 1))))).IsKeyIter it d (i + 1) es.size ep :=
    ⟨_, Heap.get?_update_self _ ho (Obj.isFreed_of_fields (Obj.data_mapFields hd _)), (Obj.cls_mapFields ..).trans hc, by rw [Obj.data_mapFields hd]; simp [rawInt]⟩
  refine wpAny_bind (wpAny_holding ?_)
  refine wpAny_bind (wpAny_isOneOf_keyiter (s := { s with heap := s.heap.update it (Obj.mapFields (·.setIfInBounds 1 (rawInt ((i : Int) + 1)))) }) hit'.typeIs ?_)
  show wpAny _ _ (pure es[i].key) _ _ _
  exact wpAny_pure (wpAny_pure ⟨_, rfl, wpAny_pure (hQ _ hit' (Heap.SameBut.update ..))⟩)
theorem de_end {Q : Option Value → Shared → Prop} (hh : A.handled = none) (hit : s.heap.IsKeyIter it d i es.size ep) (D : DEnt o es ep) (hod : s.heap.get? d = some o) (hge : es.size ≤ i)
    (hQ : ∀ h', Heap.ExtBut it s.heap h' → Q none { s with heap := h' }) : wpAny (model prog w) A (pyNext (.ref it)) Q E s := by
  obtain ⟨oi, ho, hc, hd⟩ := id hit
  unfold pyNext
  refine wpAny_bind (wpAny_attempt (wpAny_callSpecial?_slot (name := Str.ofString "__next__") hit.typeIs F.slot_dict_keyiterator_next
    (wpAny_call_entry F.slot_dict_keyiterator_next hit.typeIs F.entry_dict_keyiterator_next ?_ (F.args_dict_keyiterator_next_1 _))))
  refine wpAny_bind (wpAny_pure ?_)
  refine wpAny_bind ?_
  refine wpAny_bind ?_
  first | refine wpAny_bind (wpAny_typeNameOfWhole_keyiter hit.typeIs (wpAny_pure ?_)) | refine wpAny_bind (wpAny_typeNameOf_keyiter hit.typeIs (wpAny_pure ?_))
  refine wpAny_bind (wpAny_fieldsOf ho hd ?_)
  have hown : Builtin.Dict_items.ownsTuple "dict_keyiterator" = false := by decide
  simp only [hown, Bool.false_eq_true, if_false]
  show wpAny _ _ (if (Value.ref d == Value.none) = true then _ else _) _ _ s
  rw [if_neg (show ¬ ((Value.ref d == Value.none) = true) from Bool.false_ne_true)]
  refine wpAny_bind (wpAny_pure ?_)
  refine wpAny_bind (wpAny_dictEntries hod D.da ?_)
  rw [if_neg (by simp)]
  refine wpAny_bind (wpAny_pure ?_)
  refine wpAny_bind (wpAny_dictEpoch hod D.da ?_)
  rw [if_neg (by simp)]
  refine wpAny_pure ?_
  simp only [show ¬ ((i : Int) < 0) from by omega, if_false, Int.toNat_natCast, Array.getElem?_eq_none hge]
  refine wpAny_bind ?_
  first | refine wpAny_bind (wpAny_typeNameOfWhole_keyiter hit.typeIs (wpAny_pure ?_)) | refine wpAny_bind (wpAny_typeNameOf_keyiter hit.typeIs (wpAny_pure ?_))
  show wpAny _ _ (setField (.ref it) 0 .none >>= _) _ _ s
  refine wpAny_bind (wpAny_setField ho hd (by simp) ?_)
  show wpAny _ _ (newExc (.type "StopIteration") [] >>= _) _ _ _
  refine wpAny_bind ?_
  simp only [newExc, newTuple]
  refine wpAny_bind (wpAny_newObj_type ?_ (by size_fits))
  refine wpAny_bind (m := firstArgMember _ _) (wpAny_of_eq (a := Value.none) (by first | rfl | (simp only [firstArgMember]; rfl)) ?_)
  refine wpAny_newObj_type ?_ (by size_fits)
  simp only [raiseNew]
  refine wpAny_bind (wpAny_handled ?_)
  rw [show A.in1.handled = none from hh]
  refine wpAny_bind (wpAny_pure (wpAny_throw ?_))
  refine wpAny_bind (wpAny_isInstance (T := "StopIteration") (b := true) ⟨_, Heap.get?_push_size _ rfl, rfl⟩ isSubtype_stop ?_)
  exact wpAny_pure (hQ _ (((Heap.SameBut.update ..).extBut.push _).push _))
end
def Itd (a : Addr) (o : Obj) (u : HO) (xs : List V) : It :=
  ⟨fun i H => H a = some (.frz o u) ∧ i < xs.length, fun i H x H' => H' = H ∧ xs[i]? = some x, fun i H => H a = some (.frz o u) ∧ xs.length ≤ i⟩
theorem walk_dict {a : Addr} {o : Obj} {u : HO} {xs : List V} : Walk (Itd a o u xs) xs (fun H => H a = some (.frz o u)) where
  go := fun i H h q => ⟨q, h⟩
  stop := fun i H h q => ⟨q, h⟩
  yld := fun i H x H' _ q y => y
section
variable {X : Cx}
end
end L2
namespace L2
open PySem PySem.Spec PyProof.Rows
section
variable {X : Cx}
end
end L2
namespace L2
open PySem PySem.Spec PyProof.Rows
section
variable {X : Cx}
end
end L2
namespace L2
open PySem PySem.Spec PyProof.Rows
section
variable {prog : Program} {w : World} {A : Around} {E : Value → Shared → Prop} {s : Shared} {it t : Addr} {i : Nat} {items : Array Value} {x : Value}
structure ZApart (z TI TO i1 i2 : Addr) : Prop where
  a1 : TI ≠ z
  a2 : TO ≠ z
  a3 : i1 ≠ z
  a4 : i2 ≠ z
  a5 : TI ≠ TO
  a6 : TI ≠ i1
  a7 : TI ≠ i2
  a8 : TO ≠ i1
  a9 : TO ≠ i2
  a0 : i1 ≠ i2
end
section
variable {X : Cx} {pins : List (Addr × Obj)} {σ : St} {H : Hp} {s : Shared} {h' : Heap}
end
section
variable {X : Cx}
theorem zn {n : Nat} {a b : Nat} (h : a ≠ b) : n + a ≠ n + b := by omega
end
end L2
namespace L2
open PySem PySem.Spec PyProof.Rows
section
variable {X : Cx}
def iRngD (ta : TA) : TI := fun σ H R => ta σ H fun vs H1 => ∃ i : Int, vs = [.int i, .int (-1), .int (-1)] ∧ (-1 ≤ i ∧ i < 2 ^ 60) ∧ R (Itrs i (-1) (i + 1).toNat) H1
theorem rangeSize_dn {i : Int} (h1 : -1 ≤ i) (h2 : i < 2 ^ 60) : Builtin.Range.rangeSize i (-1) (-1) = i + 1 ∧ Builtin.Range.small i (-1) (-1) = true := by
  have e : Builtin.Range.rangeSize i (-1) (-1) = i + 1 := by
    unfold Builtin.Range.rangeSize
    rw [if_neg (by decide)]
    split <;> (try simp) <;> omega
  refine ⟨e, ?_⟩
  unfold Builtin.Range.small
  rw [e]
  simp only [Builtin.Range.rangeFitsLong, Bool.and_eq_true, Bool.or_eq_true, decide_eq_true_eq, beq_iff_eq]
  simp
  omega
variable {tg : Expr}
theorem pi_rangeD {a b c : Expr} {ta : TA} {p pos : Pos} (hg : Gl X "range") (hm : X.mg "range" = none) (ha : PA X [a, b, c] ta) (hs : starEach [a, b, c] X.env = (false, eval a X.env) :: starEach [b, c] X.env := by rfl) (hs2 : (backTo pos (starEach [b, c] X.env)).any (·.1) = false := by rfl) :
    PI X tg (.Call (.Name "range" p) [a, b, c] [] pos) (iRngD ta) := by
  intro pins s σ H R I h
  refine Call_ (ld_blt I hg hm boot_range (PyProof.Rows.callWith_type1 (thn (ha pos pins s σ H _ I h) fun us s1 ⟨vs, H1, I1, r1, q1⟩ => ?_) hs hs2))
  obtain ⟨i, e, ⟨h1, h2⟩, q⟩ := q1
  subst e
  cases r1 with
  | cons r rr =>
    cases rr with
    | cons r' rr =>
      cases rr with
      | cons r'' rr =>
        cases rr
        obtain ⟨t, rfl⟩ := r
        obtain ⟨t', rfl⟩ := r'
        obtain ⟨t'', rfl⟩ := r''
        have z := rangeSize_dn h1 h2
        refine call_range_3 (by decide) ?_ (.inl (PyProof.noPylong_small (by omega)))
        refine wpAny_pyIter_range (IsRange.new ..) z.2 ?_
        have I2 : Inv X pins σ H1 { s1 with heap := s1.heap.push { cls := .type "range", data := .fields #[.int i t, .int (-1) t', .int (-1) t''] }, toks := s1.toks } := I1.kept fun b o e => Heap.get?_push_of_some _ e
        refine ⟨(s1.heap.push { cls := .type "range", data := .fields #[.int i t, .int (-1) t', .int (-1) t''] }).objs.size, [(s1.heap.push { cls := .type "range", data := .fields #[.int i t, .int (-1) t', .int (-1) t''] }).objs.size], _, _, H1, rfl,
          I2.kept (t' := s1.toks) fun b o e => Heap.get?_push_of_some _ e, turn_ranges _ i (-1) (i + 1).toNat, ?_, fun b hb => ?_, q⟩
        · have e1 : i + ((0 : Nat) : Int) * (-1) = i := by simp
          have e2 : (((i + 1).toNat : Nat) : Int) - ((0 : Nat) : Int) = Builtin.Range.rangeSize i (-1) (-1) := by rw [z.1]; omega
          show IsRangeIter _ _ (i + ((0 : Nat) : Int) * (-1)) ((((i + 1).toNat : Nat) : Int) - ((0 : Nat) : Int)) (-1)
          rw [e1, e2]
          exact Heap.get?_push_size _ rfl
        · have e : b = (s1.heap.push { cls := .type "range", data := .fields #[.int i t, .int (-1) t', .int (-1) t''] }).objs.size := by simpa using hb
          subst e
          exact I2.fpOk (Nat.le_refl _) (I2.hok.fresh (Nat.le_refl _))
end
end L2
namespace L2
open PySem PySem.Spec PyProof.Rows
section
variable {X : Cx}
theorem occ_count (l : List Nat) (c : Nat) : ∀ (m k : Nat) (st : Array Nat × Nat), k + m = l.length + 1 → st.2 ≤ k → st.1.size ≤ k →
    ((forIn (List.range' k m) st (StrLaws.occBody (tx l) ⟨#[c]⟩ l.length (l.length + 1))).run.fst.size = st.1.size + (l.drop k).count c) := by
  intro m
  induction m with
  | zero =>
    intro k st hk _ _
    rw [List.drop_of_length_le (by omega)]
    rfl
  | succ m ih =>
    intro k st hk h1 h2
    rw [List.range'_succ, List.forIn_cons]
    have hiff := StrLaws.subAt_one (tx l) c k
    have e1 : (tx l).length = l.length := tx_len l
    rw [e1] at hiff
    have e2 : (⟨#[c]⟩ : Str).length = 1 := rfl
    by_cases z : l[k]? = some c
    · have zz : (tx l).cps.toList[k]? = some c := z
      obtain ⟨a1, a2⟩ := hiff.mpr zz
      have hk' : k < l.length := (List.getElem?_eq_some_iff.mp z).1
      have eb : StrLaws.occBody (tx l) ⟨#[c]⟩ l.length (l.length + 1) k st = pure (ForInStep.yield (st.fst.push k, k + 1)) := by
        unfold StrLaws.occBody
        rw [if_pos ⟨⟨⟨by omega, h1⟩, a1⟩, a2⟩]; rfl
      rw [eb, pure_bind]
      show (Id.run (forIn (List.range' (k + 1) m) (st.fst.push k, k + 1) (StrLaws.occBody (tx l) ⟨#[c]⟩ l.length (l.length + 1)))).fst.size = _
      rw [ih (k + 1) _ (by omega) (Nat.le_refl _) (by rw [Array.size_push]; omega), Array.size_push]
      have ed : l.drop k = c :: l.drop (k + 1) := by
        rw [List.drop_eq_getElem_cons hk', (List.getElem?_eq_some_iff.mp z).2]
      rw [ed, List.count_cons_self]; omega
    · have eb : StrLaws.occBody (tx l) ⟨#[c]⟩ l.length (l.length + 1) k st = pure (ForInStep.yield (st.fst, st.snd)) := by
        unfold StrLaws.occBody
        rw [if_neg]
        rintro ⟨⟨_, a1⟩, a2⟩
        exact z (hiff.mp ⟨a1, a2⟩)
      rw [eb, pure_bind]
      show (Id.run (forIn (List.range' (k + 1) m) (st.fst, st.snd) (StrLaws.occBody (tx l) ⟨#[c]⟩ l.length (l.length + 1)))).fst.size = _
      rw [ih (k + 1) _ (by omega) (by show st.2 ≤ _; omega) (by show st.1.size ≤ _; omega)]
      by_cases hk' : k < l.length
      · have ed : l.drop k = l[k] :: l.drop (k + 1) := List.drop_eq_getElem_cons hk'
        rw [ed, List.count_cons_of_ne (fun e => z (by rw [List.getElem?_eq_getElem hk', e]))]
      · rw [List.drop_of_length_le (by omega), List.drop_of_length_le (by omega)]
def rCount : V → List V → Hp → VK → Prop := fun x vs H Q => ∃ l c, x = vt l ∧ vs = [vt [c]] ∧ Q (.int ((l.count c : Nat) : Int)) H
theorem mt_count : MtR X "str.count" rCount := by
  intro pins s σ H x vs v us Q I rx rs h
  obtain ⟨l, c, rfl, rfl, q⟩ := h
  obtain ⟨t, rfl⟩ := rx
  obtain ⟨u, rfl, ru⟩ := vals1 rs
  obtain ⟨t2, rfl⟩ := ru
  have g := gives_str_count (tx l) (tx [c]) t t2
  have e : (Builtin.Str.occurrences (tx l) (tx [c]) 0 (tx l).length ((tx l).length + 1)).length = l.count c := by
    rw [StrLaws.occ_eq, tx_len]
    have := occ_count l c (l.length + 1) 0 (#[], 0) (by omega) (Nat.le_refl _) (Nat.le_refl _)
    rw [List.drop_zero] at this
    rw [Array.length_toList]
    rw [show ((#[], 0) : Array Nat × Nat).1.size = 0 from rfl, Nat.zero_add] at this
    exact this
  rw [e] at g
  exact call_gives PySem.F.slot_str_count (typeIs_str _ _ _) PySem.F.entry_str_count (PySem.F.args_str_count_2 _ _) g ⟨.int _, H, I.tok _, ⟨_, rfl⟩, q⟩
theorem call_isiT : CallR X (.builtin "isinstance") (fun xs H Q => ∃ p vs, xs = [.ref p, .ty "tuple"] ∧ SqT X.K H p vs ∧ Q (.bl true) H) := by
  intro pins s σ H vs us Q I r h
  obtain ⟨p, xs, rfl, hp, q⟩ := h
  obtain ⟨u, c, rfl, rx, rc⟩ := vals2 r
  cases (show c = Value.type "tuple" from rc)
  cases (show u = Value.ref p from rx)
  obtain ⟨its, rv, pt, _⟩ := I.tuple hp
  obtain ⟨o, h1, h2, _⟩ := pt
  exact PySem.W.kia_one PySem.W.kitx_tuple I.kIn ⟨o, h1, h2⟩ (kit_same X.K _) (fun z => nomatch z) fun tk => ⟨.bl true, H, I.tok tk, rfl, q⟩
def isiAnyT := (isiAny (X := X)).or call_isiT
end
end L2
namespace L2
open PySem PySem.Spec PyProof.Rows
section
variable {X : Cx}
end
end L2
namespace L2
open PySem PySem.Spec PyProof.Rows
theorem keyIs_rel {k : Key} {v : Value} (h : keyIs k v = true) : RelV (kV k) v := by
  rcases keyIs_shape h with ⟨i, t, rfl, rfl⟩ | ⟨x, t, rfl, rfl⟩
  · exact ⟨t, rfl⟩
  · exact ⟨t, rfl⟩
theorem pairs_rel {P : Program} {w : World} : ∀ {es : List DictEntry} {kvs : List (Key × V)} {vs : List (Key × Value)}, Pairs (mixKind P w) es vs → KV kvs vs → es.length = kvs.length ∧ ∀ (i : Nat) e, es[i]? = some e → ∃ k, (kvs.map fun p => kV p.1)[i]? = some (kV k) ∧ RelV (kV k) e.key := by
  intro es kvs vs hp
  induction hp generalizing kvs with
  | nil => intro hk; cases hk; exact ⟨rfl, fun i e h => nomatch h⟩
  | cons h1 h2 h3 ih =>
    intro hk
    cases hk with
    | cons hq ht =>
      obtain ⟨hl, hi⟩ := ih ht
      refine ⟨by simp [hl], fun i e he => ?_⟩
      cases i with
      | zero =>
        cases he
        refine ⟨_, rfl, ?_⟩
        rw [hq.1]; exact keyIs_rel h1
      | succ i => exact hi i e he
theorem turn_dictK {P : Program} {w : World} {K : PySem.W.Frag} {tg : Expr} (a it : Addr) {o : Obj} {u : HO} {es : Array DictEntry} {ep : Nat} {xs : List V} (D : DEnt o es ep) (hl : es.toList.length = xs.length) (hk : ∀ (i : Nat) e, es.toList[i]? = some e → ∃ k, xs[i]? = some (kV k) ∧ RelV (kV k) e.key) :
    Turn P w K tg (Itd a o u xs) [it] it (fun i h => h.IsKeyIter it a i es.size ep) where
  mem := by simp
  obj := fun i h st b hb => by
    have e : b = it := by simpa using hb
    subst e
    obtain ⟨o, e, c, d⟩ := st
    exact ⟨o, e, fun v z => by rw [d] at z; cases z⟩
  keep := fun i h h' st k => st.at fun o e => k it (by simp) o e
  item := by
    intro X hP hw hK hc i pins s σ H E I hf st hg
    subst hP hw hK
    obtain ⟨hq, hx⟩ := hg
    have ho : s.heap.get? a = some o := (show ObjOk X.prog X.w H s.heap a (.frz o u) from I.hok a _ hq).1
    have hi : i < es.size := by rw [← Array.length_toList, hl]; exact hx
    obtain ⟨f0, f1, f2, f3, f4, f5⟩ := hf it (by simp)
    refine de_item st D ho hi fun h' st' sb => ?_
    have I1 : Inv X pins σ H { s with heap := h' } := I.turned (t' := s.toks) (fun b o hb e => (sb.2 b hb).trans e) f0 f1 f3 f4 f5
    obtain ⟨k, hxk, rk⟩ := hk i es[i] (by simp [hi])
    obtain ⟨oi, e, c, d⟩ := id st'
    exact ⟨_, rfl, go_of (s := { s with heap := h' }) e c d (by decide) ⟨kV k, H, I1, rk, ⟨rfl, hxk⟩, st', fun b hb => (hf b hb).1⟩⟩
  done := by
    intro X hP hw hK hc i pins s σ H E I hf st hg
    subst hP hw hK
    obtain ⟨hq, hx⟩ := hg
    have ho : s.heap.get? a = some o := (show ObjOk X.prog X.w H s.heap a (.frz o u) from I.hok a _ hq).1
    obtain ⟨f0, f1, f2, f3, f4, f5⟩ := hf it (by simp)
    exact de_end (I.ok.hd hc) st D ho (by rw [← Array.length_toList, hl]; exact hx) fun h' eb => ⟨rfl, I.turned (t' := s.toks) (fun b o hb e => eb b o hb e) f0 f1 f3 f4 f5⟩
  self := fun _ _ _ _ _ st h => wpAny_pyIter_keyiter st h
def iDictK (te : TE) : TI := fun σ H R => te σ H fun x H1 => ∃ a kvs, x = .ref a ∧
  ((H1 a = some (.dK kvs) ∧ ∀ o : Obj, R (Itd a o (.dK kvs) (kvs.map fun p => kV p.1)) (upd H1 a (.frz o (.dK kvs)))) ∨ ∃ o : Obj, H1 a = some (.frz o (.dK kvs)) ∧ R (Itd a o (.dK kvs) (kvs.map fun p => kV p.1)) H1)
section
variable {X : Cx}
theorem pi_dictK {e : Expr} {te : TE} {tg : Expr} (he : PE X e te) : PI X tg e (iDictK te) := by
  intro pins s σ H R I h
  refine thn (he pins s σ H _ I h) fun v s1 ⟨x, H1, I1, r1, q1⟩ => ?_
  obtain ⟨a, kvs, rfl, hq⟩ := q1
  cases r1
  rcases hq with ⟨ha, q⟩ | ⟨of, ha, q⟩
  · obtain ⟨z, y, vs, r, o, es, ep, h1, h2, h3, h4, h5, h6⟩ := (show ObjOk X.prog X.w H1 s1.heap a (.dK kvs) from I1.hok a _ ha)
    have D : DEnt o es ep := ⟨h2, h3⟩
    obtain ⟨hl, hk⟩ := pairs_rel h5 r
    have I2 : Inv X pins σ (upd H1 a (.frz o (.dK kvs))) { s1 with heap := s1.heap, toks := s1.toks } :=
      d_write I1 (by rw [ha]; exact True.intro) ⟨rfl, fun _ _ => rfl⟩ ⟨o, h1⟩ ⟨h1, z, y, vs, r, o, es, ep, h1, h2, h3, h4, h5, h6⟩
    refine de_iter D h1 y ⟨s1.heap.objs.size, [s1.heap.objs.size], _, _, upd H1 a (.frz o (.dK kvs)), rfl, I2.kept (t' := s1.toks) fun b o e => Heap.get?_push_of_some _ e, turn_dictK a _ D (by rw [hl, List.length_map]) hk, ⟨_, Heap.get?_push_size _ rfl, rfl, rfl⟩, fun b hb => ?_, q o⟩
    have e : b = s1.heap.objs.size := by simpa using hb
    subst e
    exact I2.fpOk (Nat.le_refl _) (I2.hok.fresh (Nat.le_refl _))
  · obtain ⟨h0, z, y, vs, r, o, es, ep, h1, h2, h3, h4, h5, h6⟩ := (show ObjOk X.prog X.w H1 s1.heap a (.frz of (.dK kvs)) from I1.hok a _ ha)
    have eo : o = of := Option.some.inj (h1.symm.trans h0)
    subst eo
    have D : DEnt o es ep := ⟨h2, h3⟩
    obtain ⟨hl, hk⟩ := pairs_rel h5 r
    refine de_iter D h1 y ⟨s1.heap.objs.size, [s1.heap.objs.size], _, _, H1, rfl, I1.kept (t' := s1.toks) fun b o e => Heap.get?_push_of_some _ e, turn_dictK a _ D (by rw [hl, List.length_map]) hk, ⟨_, Heap.get?_push_size _ rfl, rfl, rfl⟩, fun b hb => ?_, q⟩
    have e : b = s1.heap.objs.size := by simpa using hb
    subst e
    exact I1.fpOk (Nat.le_refl _) (I1.hok.fresh (Nat.le_refl _))
end
end L2
namespace L2
open PySem PySem.Spec PyProof.Rows
end L2
namespace L2
open PySem PySem.Spec PyProof.Rows
section
variable {X : Cx}
end
end L2
namespace L2
open PySem PySem.Spec PyProof.Rows
structure FunD (K : PySem.W.Frag) (x qual : Str) (st : Stmt) (f : Addr) (fd : FuncData) (D : Addr) : Prop where
  ex : ∃ (oc : Value) (od : Option Addr) (kV doc pm : Value) (an : Option Addr) (cdv ct : Value) (osl : Array (Option Value)),
    fd = PySem.W.fnOf x qual (defArgs st) (defBody st) (defScope st) (.ref D) kV doc pm an cdv ct ∧ K.lookup f = some ⟨oc, od, .func fd, osl⟩ ∧ PySem.W.codeIn K cdv qual = true
  kp : PySem.W.keepIn K (.ref f) = true
section
variable {P : Program} {w : World} {K : PySem.W.Frag} {mg : Str → Option Value} {base : Heap}
theorem FunD.okx {x qual : Str} {st : Stmt} {f D : Addr} {fd : FuncData} {N ps : List Str} {k : Nat} {sp : Sp} (F : FunD K x qual st f fd D) (S : FnScope N ps (defScope st)) (len : ∀ vs H Q E, sp vs H Q E → vs.length = ps.length)
    (hbody : ∀ (cdv : Value) (A : Around) (outer : List Env) (s : Shared) (H : Hp) (vs : List V) (Q : VK) (E : XK), Room k (A.deeper (envOfC qual (defScope st) s.heap.objs.size f cdv)) → sp vs H Q E →
      ∃ t, PSs (cxOf (CX1 P w) P w K mg base N qual (defScope st) f cdv A outer s H E) (defBody st) t ∧ t { nx := fun _ H' => Q .non H', rt := Q } (start N vs) H) : FnOk P w K mg base (CX1 P w) (k + 1) f fd ps sp := by
  obtain ⟨oc, od, kV, doc, pm, an, cdv, ct, osl, rfl, lk, hcd⟩ := F.ex
  refine fn_of lk hcd S len fun A outer s H vs Q E hr hsp => ?_
  exact hbody cdv A outer s H vs Q E hr hsp
theorem FunD.binds {x qual : Str} {st : Stmt} {f D : Addr} {fd : FuncData} {ps : List Str} {ds : List Value} {oc' : Value} {od' : Option Addr} {items : Array Value} {n : Nat} {sl' : Array (Option Value)} (F : FunD K x qual st f fd D) (ld : K.lookup D = some ⟨oc', od', .seq items n, sl'⟩)
    (h : ∀ (kV doc pm : Value) (an : Option Addr) (cdv ct : Value) (us : List Value), (us ++ ds).length = ps.length → (∃ k, bindArgs (PySem.W.fnOf x qual (defArgs st) (defBody st) (defScope st) (.ref D) kV doc pm an cdv ct) ⟨us, []⟩ = seqItems? (.ref D) >>= k ∧ k (some items) = pure (ps.zip (us ++ ds))) ∨ bindArgs (PySem.W.fnOf x qual (defArgs st) (defBody st) (defScope st) (.ref D) kV doc pm an cdv ct) ⟨us, []⟩ = pure (ps.zip (us ++ ds))) : Binds K fd ps ds := by
  obtain ⟨oc, od, kV, doc, pm, an, cdv, ct, osl, rfl, lk, hcd⟩ := F.ex
  intro s us KX hl
  rcases h kV doc pm an cdv ct us hl with ⟨k, h1, h2⟩ | h1
  · exact BindsTo.of_defaults (T := D) rfl (KX _ _ ld) rfl h1 h2
  · exact .of_eq h1
end
section
variable {X : Cx}
end
end L2
namespace L2
open PySem PySem.Spec PyProof.Rows
section
variable {X : Cx} {C : Addr} {x : Str} {body : List Stmt} {b₀ : Stmt} {suite : List Stmt} {np hpos pos : Pos} {tb : Pins → (Value → Shared → Prop) → XS → TS} {th : Pins → Value → TS} {bmB : List Value} {newId : String}
end
end L2
namespace L2
open PySem PySem.Spec PyProof.Rows
def put (A' H A : Hp) : Hp := fun b => match A' b with
  | some o => some o
  | none => match A b with
    | some _ => none
    | none => H b
theorem put_new {A' H A : Hp} {b : Addr} {o : HO} (h : A' b = some o) : put A' H A b = some o := by unfold put; rw [h]
theorem put_old {A' H A : Hp} {b : Addr} (h : A' b = none) (h2 : A b = none) : put A' H A b = H b := by unfold put; rw [h, h2]
structure Part (A H : Hp) : Prop where
  sub : Same A H
  tup : ∀ b xs, H b = some (.tup xs) → A b = some (.tup xs)
  own : ∀ a b o, H b = some (.own a) → A a = some o → A b = some (.own a)
  wno : ∀ a b o, H a = some o → A a = none → (∀ xs, o ≠ .lst xs) → H b = some (.own a) → A b = none
structure Aft (A A' H : Hp) : Prop where
  free : ∀ b o, H b = some o → A b = none → A' b = none
  tup : ∀ b xs, A b = some (.tup xs) → A' b = some (.tup xs)
section
variable {P : Program} {w : World} {K : PySem.W.Frag} {mg : Str → Option Value} {base : Heap} {A A' H : Hp} {h h' : Heap}
theorem Part.none (p : Part A H) {b : Addr} (e : H b = none) : A b = none := by
  cases q : A b with
  | none => rfl
  | some o => rw [p.sub b o q] at e; cases e
theorem Part.hok (p : Part A H) (x : HOk P w H h) : HOk P w A h := fun a o e =>
  (x a o (p.sub a o e)).stay (fun _ _ _ q => q) (fun b q => p.own a b o q e) p.tup
theorem Aft.sub (x : Aft A A' H) : Same A' (put A' H A) := fun b o e => put_new e
theorem Aft.rest (x : Aft A A' H) {b : Addr} {o : HO} (e : H b = some o) (n : A b = none) : put A' H A b = some o := by
  rw [put_old (x.free b o e n) n]; exact e
end
end L2
namespace L2
open PySem PySem.Spec PyProof.Rows
section
variable {X : Cx}
end
end L2
namespace L2
open PySem PySem.Spec PyProof.Rows
def isIns : HO → Bool
  | .ins .. => true
  | .frz _ u => isIns u
  | _ => false
section
variable {P : Program} {w : World} {K : PySem.W.Frag} {mg : Str → Option Value} {base : Heap} {A A' H H' : Hp} {h h' : Heap}
theorem ObjOk.swap {a : Addr} : ∀ {o : HO}, ObjOk P w H h a o → isIns o = false → (∀ b xs, H b = some (.tup xs) → H' b = some (.tup xs)) → ObjOk P w H' h a o
  | .lst _, x, _, _ => x
  | .tup _, x, _, _ => x
  | .dK _, x, _, _ => x
  | .dT _, x, _, ht => by
    obtain ⟨z, y, xs, r, ob, es, ep, e, c⟩ := x
    exact ⟨z, y, xs, Paired.mapP r fun p q z => ⟨z.1, ht _ _ z.2.1, z.2.2⟩, ob, es, ep, e, c⟩
  | .set _ _, x, _, _ => x
  | .ins .., _, h, _ => by cases h
  | .own _, x, _, _ => x
  | .xd _, x, _, _ => x
  | .rng _ _, x, _, _ => x
  | .frz _ u, x, h, ht => ⟨x.1, ObjOk.swap (o := u) x.2 h ht⟩
  | .tbl _, x, _, _ => x
  | .met _ _, x, _, _ => x
  | .ext _, x, _, _ => x
def noOwn (H : Hp) : Hp := fun b => match H b with
  | some (.own _) => none
  | o => o
theorem noOwn_tup {b : Addr} {xs : List V} (h : H b = some (.tup xs)) : noOwn H b = some (.tup xs) := by unfold noOwn; rw [h]
theorem noOwn_back {b : Addr} {o : HO} (h : noOwn H b = some o) : H b = some o := by
  unfold noOwn at h
  cases q : H b with
  | none => rw [q] at h; cases h
  | some u => rw [q] at h; cases u <;> first | exact h | cases h
theorem noOwn_own {b x : Addr} (h : noOwn H b = some (.own x)) : False := by
  have := noOwn_back h
  unfold noOwn at h
  rw [this] at h; cases h
theorem ObjOk.stay3 {a : Addr} {o : HO} (x : ObjOk P w H h a o) (k : ∀ u, h.get? a = some u → h'.get? a = some u) (ki : isIns o = true → ∀ b u, H b = some (.own a) → h.get? b = some u → h'.get? b = some u)
    (ho : isIns o = true → ∀ b, H b = some (.own a) → H' b = some (.own a)) (ht : ∀ b xs, H b = some (.tup xs) → H' b = some (.tup xs)) : ObjOk P w H' h' a o := by
  by_cases z : isIns o = true
  · exact x.stay (fun b u hb q => by
      rcases hb with rfl | hb
      · exact k u q
      · exact ki z b u hb q) (ho z) ht
  · have z' : isIns o = false := by simpa using z
    have x2 : ObjOk P w (noOwn H) h a o := x.swap z' fun b xs e => noOwn_tup e
    have x3 : ObjOk P w (noOwn H) h' a o := x2.stay (fun b u hb q => by
      rcases hb with rfl | hb
      · exact k u q
      · exact (noOwn_own hb).elim) (fun b q => q) fun b xs q => q
    exact x3.swap z' fun b xs e => ht b xs (noOwn_back e)
structure Prt (A H : Hp) : Prop where
  sub : Same A H
  tup : ∀ b xs, H b = some (.tup xs) → A b = some (.tup xs)
  own : ∀ a b o, isIns o = true → H b = some (.own a) → A a = some o → A b = some (.own a)
  wno : ∀ a b o, isIns o = true → H a = some o → A a = none → H b = some (.own a) → A b = none
theorem Prt.none (p : Prt A H) {b : Addr} (e : H b = none) : A b = none := by
  cases q : A b with
  | none => rfl
  | some o => rw [p.sub b o q] at e; cases e
theorem Prt.hok (p : Prt A H) (x : HOk P w H h) : HOk P w A h := fun a o e =>
  (x a o (p.sub a o e)).stay3 (fun _ q => q) (fun _ _ _ _ q => q) (fun i b q => p.own a b o i q e) p.tup
end
section
variable {X : Cx}
theorem rev_slice (l : List Nat) (u : Tok) : Txt.sliceBy (tx l) none none (-1, u) = tx l.reverse := by
  have h := step_rev_list (tx l) u
  have hl : (tx l).length = l.length := tx_len l
  have e : (Txt.sliceBy (tx l) none none (-1, u)).cps.toList = l.reverse := by
    rw [h, hl]
    refine List.ext_getElem? fun i => ?_
    by_cases hi : i < l.length
    · rw [List.getElem?_map, List.getElem?_range hi, List.getElem?_reverse hi]
      have : l.length - 1 - i < l.length := by omega
      simp [tx, Array.getD, this]
    · rw [List.getElem?_eq_none (by simp; omega), List.getElem?_eq_none (by simp; omega)]
  generalize Txt.sliceBy (tx l) none none (-1, u) = z at e
  obtain ⟨c⟩ := z
  show (⟨c⟩ : Str) = ⟨l.reverse.toArray⟩
  congr 1
  rw [← e]
variable {e st : Expr} {te tst : TE} {pos p2 : Pos}
end
end L2
namespace L2
open PySem PySem.Spec PyProof.Rows
section
variable {X : Cx} {P : Program} {w : World} {k : Nat} {f C : Addr} {fd : FuncData} {ps : List Str} {sp : Sp} {dvs : List V} {ds : List Value} {Φ : XS} {m : Str} {apos pos : Pos} {o e : Expr} {es : List Expr} {t : TA} {ta : TE}
end
end L2
namespace L2
open PySem PySem.Spec PyProof.Rows
section
variable {X : Cx} {o e f : Expr} {apos cpos : Pos} {td ty tx : TE}
end
end L2
namespace Bp
def gcdI (a b : Int) : Int := (Nat.gcd a.natAbs b.natAbs : Nat)
theorem gcdI_zero (a : Int) (h : 0 ≤ a) : gcdI a 0 = a := by
  unfold gcdI
  rw [Int.natAbs_zero, Nat.gcd_zero_right]
  omega
theorem gcdI_step {a b : Int} (ha : 0 ≤ a) (hb : 0 < b) : gcdI b (a % b) = gcdI a b := by
  unfold gcdI
  have e : (a % b).natAbs = a.natAbs % b.natAbs := by
    obtain ⟨m, rfl⟩ := Int.eq_ofNat_of_zero_le ha
    obtain ⟨n, rfl⟩ := Int.eq_ofNat_of_zero_le (Int.le_of_lt hb)
    rfl
  rw [e, Nat.gcd_comm a.natAbs b.natAbs, Nat.gcd_rec b.natAbs a.natAbs, Nat.gcd_comm]
theorem gcdI_pos {a b : Int} (h : b ≠ 0) : 0 < gcdI a b := by
  unfold gcdI
  have := Nat.gcd_pos_of_pos_right a.natAbs (show 0 < b.natAbs by omega)
  omega
theorem gcdI_le {a b : Int} (h : b ≠ 0) : (gcdI a b).natAbs ≤ b.natAbs := by
  unfold gcdI
  have := Nat.gcd_le_right a.natAbs (show 0 < b.natAbs by omega)
  omega
theorem gcdI_dvd_left (a b : Int) : gcdI a b ∣ a := by
  unfold gcdI
  exact Int.ofNat_dvd_left.mpr (Nat.gcd_dvd_left _ _)
theorem gcdI_dvd_right (a b : Int) : gcdI a b ∣ b := by
  unfold gcdI
  exact Int.ofNat_dvd_left.mpr (Nat.gcd_dvd_right _ _)
theorem gcdI_abs (a b : Int) : gcdI (if a < 0 then -a else a) (if b < 0 then -b else b) = gcdI a b := by
  unfold gcdI
  have e1 : (if a < 0 then -a else a).natAbs = a.natAbs := by split <;> omega
  have e2 : (if b < 0 then -b else b).natAbs = b.natAbs := by split <;> omega
  rw [e1, e2]
def sgn (b : Int) : Int := if b < 0 then -1 else 1
def num (t b : Int) : Int := t.fdiv (sgn b * gcdI t b)
def den (t b : Int) : Int := b.fdiv (sgn b * gcdI t b)
theorem fdiv_exact {a d q : Int} (h : d ≠ 0) (e : a = d * q) : a.fdiv d = q := by
  rw [e]; exact Int.mul_fdiv_cancel_left q h
theorem num_den {t b : Int} (h : b ≠ 0) : ∃ n d g, num t b = n ∧ den t b = d ∧ t = g * n ∧ b = g * d ∧ 0 < d ∧ Nat.gcd n.natAbs d.natAbs = 1 ∧ g.natAbs = (gcdI t b).natAbs := by
  have gp := gcdI_pos (a := t) h
  obtain ⟨n, hn⟩ := gcdI_dvd_left t b
  obtain ⟨d, hd⟩ := gcdI_dvd_right t b
  have gg : ((Nat.gcd t.natAbs b.natAbs : Nat) : Int) = gcdI t b := rfl
  have cop : ∀ n d : Int, t.natAbs = (gcdI t b).natAbs * n.natAbs → b.natAbs = (gcdI t b).natAbs * d.natAbs → Nat.gcd n.natAbs d.natAbs = 1 := by
    intro n d e1 e2
    have k : Nat.gcd t.natAbs b.natAbs = (gcdI t b).natAbs := by omega
    have z : Nat.gcd ((gcdI t b).natAbs * n.natAbs) ((gcdI t b).natAbs * d.natAbs) = (gcdI t b).natAbs := by rw [← e1, ← e2]; exact k
    rw [Nat.gcd_mul_left] at z
    have gp' : 0 < (gcdI t b).natAbs := by omega
    exact Nat.eq_of_mul_eq_mul_left gp' (by omega)
  by_cases hb : b < 0
  · refine ⟨-n, -d, -gcdI t b, ?_, ?_, ?_, ?_, ?_, ?_, ?_⟩
    · unfold num sgn; rw [if_pos hb]; exact fdiv_exact (by omega) (by rw [Int.neg_one_mul, Int.neg_mul_neg]; exact hn)
    · unfold den sgn; rw [if_pos hb]; exact fdiv_exact (by omega) (by rw [Int.neg_one_mul, Int.neg_mul_neg]; exact hd)
    · rw [Int.neg_mul_neg]; exact hn
    · rw [Int.neg_mul_neg]; exact hd
    · rcases (by omega : d < 0 ∨ d = 0 ∨ 0 < d) with z | z | z
      · omega
      · rw [z] at hd; omega
      · have := Int.mul_pos gp z; omega
    · have := cop n d (by rw [← Int.natAbs_mul, ← hn]) (by rw [← Int.natAbs_mul, ← hd])
      simpa using this
    · omega
  · refine ⟨n, d, gcdI t b, ?_, ?_, hn, hd, ?_, ?_, rfl⟩
    · unfold num sgn; rw [if_neg hb]; exact fdiv_exact (by omega) (by rw [Int.one_mul]; exact hn)
    · unfold den sgn; rw [if_neg hb]; exact fdiv_exact (by omega) (by rw [Int.one_mul]; exact hd)
    · rcases (by omega : d < 0 ∨ d = 0 ∨ 0 < d) with z | z | z
      · have := Int.mul_neg_of_pos_of_neg gp z; omega
      · rw [z] at hd; omega
      · exact z
    · exact cop n d (by rw [← Int.natAbs_mul, ← hn]) (by rw [← Int.natAbs_mul, ← hd])
theorem den_pos {t b : Int} (h : b ≠ 0) : 0 < den t b := by
  obtain ⟨n, d, g, e1, e2, _, _, p, _⟩ := num_den (t := t) h
  omega
theorem num_cross {t b : Int} (h : b ≠ 0) : num t b * b = t * den t b := by
  obtain ⟨n, d, g, e1, e2, e3, e4, p, _⟩ := num_den (t := t) h
  rw [e1, e2]
  conv => lhs; rw [e4]
  conv => rhs; rw [e3]
  rw [← Int.mul_assoc, Int.mul_comm n g]
theorem num_gcd {t b : Int} (h : b ≠ 0) : gcdI (num t b) (den t b) = 1 := by
  obtain ⟨n, d, g, e1, e2, e3, e4, p, c, _⟩ := num_den (t := t) h
  unfold gcdI
  rw [e1, e2, c]; rfl
theorem natAbs_le_mul {a g n : Int} (hg : g ≠ 0) (e : a = g * n) : n.natAbs ≤ a.natAbs := by
  rw [e, Int.natAbs_mul]
  exact Nat.le_mul_of_pos_left _ (by omega)
theorem num_le {t b : Int} (h : b ≠ 0) : (num t b).natAbs ≤ t.natAbs := by
  obtain ⟨n, d, g, e1, e2, e3, e4, p, c, e5⟩ := num_den (t := t) h
  have gp := gcdI_pos (a := t) h
  rw [e1]; exact natAbs_le_mul (by omega) e3
theorem den_le {t b : Int} (h : b ≠ 0) : (den t b).natAbs ≤ b.natAbs := by
  obtain ⟨n, d, g, e1, e2, e3, e4, p, c, e5⟩ := num_den (t := t) h
  have gp := gcdI_pos (a := t) h
  rw [e2]; exact natAbs_le_mul (by omega) e4
end Bp
namespace Bp
open PySem PySem.Spec PyProof.Rows L2
def top (i : Nat) : Stmt := PySem.Challenge.pw_boughpress_k42_whole_all_trees_weighed.main.body.getD i (.Pass ⟨0, 0, 0, 0⟩)
abbrev s_is_whole : Stmt := top 7
abbrev s_checked : Stmt := top 8
abbrev s_elders_at : Stmt := top 10
abbrev s_no_counts : Stmt := top 12
abbrev s_greatest_divisor : Stmt := top 15
abbrev s_fraction : Stmt := top 16
abbrev s_plus : Stmt := top 17
abbrev s_times : Stmt := top 18
abbrev s_half : Stmt := top 19
abbrev s_product : Stmt := top 20
abbrev s_share : Stmt := top 22
abbrev s_raised : Stmt := top 27
abbrev s_grown : Stmt := top 29
abbrev s_weight : Stmt := top 31
abbrev s_is_tree_of : Stmt := top 33
abbrev s_is_tree : Stmt := top 34
abbrev s_checked_tree : Stmt := top 35
abbrev s_price_of : Stmt := top 36
abbrev s_price : Stmt := top 37
abbrev s_L_cell_at : Stmt := top 39
abbrev s_L_signs : Stmt := top 40
abbrev s_L_frame : Stmt := top 41
abbrev s_L_text : Stmt := top 42
abbrev s_L_elders : Stmt := top 43
abbrev s_L_whole : Stmt := top 44
abbrev s_L_divisor : Stmt := top 45
abbrev s_L_fraction : Stmt := top 46
abbrev s_L_came : Stmt := top 47
abbrev s_L_worth : Stmt := top 48
abbrev s_L_forms : Stmt := top 49
abbrev s_L_full : Stmt := top 50
abbrev s_L_plus : Stmt := top 51
abbrev s_L_sum : Stmt := top 52
abbrev s_law : Stmt := top 53
abbrev s_Growth_init : Stmt := inClass (top 28) 0
abbrev s_Growth_entry : Stmt := inClass (top 28) 1
abbrev s_Growth_branching : Stmt := inClass (top 28) 2
abbrev s_Growth_changes : Stmt := inClass (top 28) 3
abbrev s_Growth_weight : Stmt := inClass (top 28) 4
abbrev s_Growth_grow : Stmt := inClass (top 28) 6
theorem sc_is_whole : FnScope ["thing"] ["thing"] (defScope s_is_whole) := ⟨rfl, rfl, rfl, by decide +kernel, rfl, by decide +kernel, by decide +kernel⟩
theorem sc_checked : FnScope ["frame", "text", "letters", "sign"] ["frame", "text"] (defScope s_checked) := ⟨rfl, rfl, rfl, by decide +kernel, rfl, by decide +kernel, by decide +kernel⟩
theorem sc_elders_at : FnScope ["frame", "text", "at", "first_letter", "depth", "near"] ["frame", "text", "at"] (defScope s_elders_at) := ⟨rfl, rfl, rfl, by decide +kernel, rfl, by decide +kernel, by decide +kernel⟩
theorem sc_no_counts : FnScope ["frame"] ["frame"] (defScope s_no_counts) := ⟨rfl, rfl, rfl, by decide +kernel, rfl, by decide +kernel, by decide +kernel⟩
theorem sc_greatest_divisor : FnScope ["one", "other", "rest"] ["one", "other"] (defScope s_greatest_divisor) := ⟨rfl, rfl, rfl, by decide +kernel, rfl, by decide +kernel, by decide +kernel⟩
theorem sc_fraction : FnScope ["top", "bottom", "divisor"] ["top", "bottom"] (defScope s_fraction) := ⟨rfl, rfl, rfl, by decide +kernel, rfl, by decide +kernel, by decide +kernel⟩
theorem sc_plus : FnScope ["one", "other"] ["one", "other"] (defScope s_plus) := ⟨rfl, rfl, rfl, by decide +kernel, rfl, by decide +kernel, by decide +kernel⟩
theorem sc_times : FnScope ["one", "other"] ["one", "other"] (defScope s_times) := ⟨rfl, rfl, rfl, by decide +kernel, rfl, by decide +kernel, by decide +kernel⟩
theorem sc_half : FnScope ["one"] ["one"] (defScope s_half) := ⟨rfl, rfl, rfl, by decide +kernel, rfl, by decide +kernel, by decide +kernel⟩
theorem sc_product : FnScope ["many", "told", "one"] ["many"] (defScope s_product) := ⟨rfl, rfl, rfl, by decide +kernel, rfl, by decide +kernel, by decide +kernel⟩
theorem sc_share : FnScope ["counts", "place"] ["counts", "place"] (defScope s_share) := ⟨rfl, rfl, rfl, by decide +kernel, rfl, by decide +kernel, by decide +kernel⟩
theorem sc_raised : FnScope ["counts", "place", "told"] ["counts", "place"] (defScope s_raised) := ⟨rfl, rfl, rfl, by decide +kernel, rfl, by decide +kernel, by decide +kernel⟩
theorem sc_grown : FnScope ["frame", "text", "growth", "sign"] ["frame", "text"] (defScope s_grown) := ⟨rfl, rfl, rfl, by decide +kernel, rfl, by decide +kernel, by decide +kernel⟩
theorem sc_weight : FnScope ["frame", "text"] ["frame", "text"] (defScope s_weight) := ⟨rfl, rfl, rfl, by decide +kernel, rfl, by decide +kernel, by decide +kernel⟩
theorem sc_is_tree_of : FnScope ["letters", "thing", "steps"] ["letters", "thing", "steps"] (defScope s_is_tree_of) := ⟨rfl, rfl, rfl, by decide +kernel, rfl, by decide +kernel, by decide +kernel⟩
theorem sc_is_tree : FnScope ["frame", "thing"] ["frame", "thing"] (defScope s_is_tree) := ⟨rfl, rfl, rfl, by decide +kernel, rfl, by decide +kernel, by decide +kernel⟩
theorem sc_checked_tree : FnScope ["frame", "thing"] ["frame", "thing"] (defScope s_checked_tree) := ⟨rfl, rfl, rfl, by decide +kernel, rfl, by decide +kernel, by decide +kernel⟩
theorem sc_price_of : FnScope ["tree", "steps"] ["tree", "steps"] (defScope s_price_of) := ⟨rfl, rfl, rfl, by decide +kernel, rfl, by decide +kernel, by decide +kernel⟩
theorem sc_price : FnScope ["frame", "tree"] ["frame", "tree"] (defScope s_price) := ⟨rfl, rfl, rfl, by decide +kernel, rfl, by decide +kernel, by decide +kernel⟩
theorem sc_L_cell_at : FnScope ["script", "k"] ["script", "k"] (defScope s_L_cell_at) := ⟨rfl, rfl, rfl, by decide +kernel, rfl, by decide +kernel, by decide +kernel⟩
theorem sc_L_signs : FnScope ["cell", "many", "some", "number", "found", "k", "at"] ["cell", "many"] (defScope s_L_signs) := ⟨rfl, rfl, rfl, by decide +kernel, rfl, by decide +kernel, by decide +kernel⟩
theorem sc_L_frame : FnScope ["cell", "many", "depth"] ["cell"] (defScope s_L_frame) := ⟨rfl, rfl, rfl, by decide +kernel, rfl, by decide +kernel, by decide +kernel⟩
theorem sc_L_text : FnScope ["cells", "letters", "lean", "text", "cell", "pick"] ["cells", "letters", "lean"] (defScope s_L_text) := ⟨rfl, rfl, rfl, by decide +kernel, rfl, by decide +kernel, by decide +kernel⟩
theorem sc_L_elders : FnScope ["frame", "text", "at", "row", "k"] ["frame", "text", "at"] (defScope s_L_elders) := ⟨rfl, rfl, rfl, by decide +kernel, rfl, by decide +kernel, by decide +kernel⟩
theorem sc_L_whole : FnScope ["found"] ["found"] (defScope s_L_whole) := ⟨rfl, rfl, rfl, by decide +kernel, rfl, by decide +kernel, by decide +kernel⟩
theorem sc_L_divisor : FnScope ["one", "other"] ["one", "other"] (defScope s_L_divisor) := ⟨rfl, rfl, rfl, by decide +kernel, rfl, by decide +kernel, by decide +kernel⟩
theorem sc_L_fraction : FnScope ["found", "top", "bottom"] ["found", "top", "bottom"] (defScope s_L_fraction) := ⟨rfl, rfl, rfl, by decide +kernel, rfl, by decide +kernel, by decide +kernel⟩
theorem sc_L_came : FnScope ["frame", "text", "found", "at", "row", "size"] ["frame", "text"] (defScope s_L_came) := ⟨rfl, rfl, rfl, by decide +kernel, rfl, by decide +kernel, by decide +kernel⟩
theorem sc_L_worth : FnScope ["came", "many", "top", "bottom", "at"] ["came", "many"] (defScope s_L_worth) := ⟨rfl, rfl, rfl, by decide +kernel, rfl, by decide +kernel, by decide +kernel⟩
theorem sc_L_forms : FnScope ["letters", "knot", "left", "made", "letter", "more", "told", "one"] ["letters", "knot", "left"] (defScope s_L_forms) := ⟨rfl, rfl, rfl, by decide +kernel, rfl, by decide +kernel, by decide +kernel⟩
theorem sc_L_full : FnScope ["many", "depth", "tree", "k"] ["many", "depth"] (defScope s_L_full) := ⟨rfl, rfl, rfl, by decide +kernel, rfl, by decide +kernel, by decide +kernel⟩
theorem sc_L_plus : FnScope ["one", "top", "bottom", "made", "by"] ["one", "top", "bottom"] (defScope s_L_plus) := ⟨rfl, rfl, rfl, by decide +kernel, rfl, by decide +kernel, by decide +kernel⟩
theorem sc_L_sum : FnScope ["frame", "text", "forms", "came", "worths", "knot", "total", "dear", "some", "top", "bottom"] ["frame", "text", "forms"] (defScope s_L_sum) := ⟨rfl, rfl, rfl, by decide +kernel, rfl, by decide +kernel, by decide +kernel⟩
theorem sc_law : FnScope ["script", "cell", "frame", "many", "depth", "text", "forms", "due", "dearest"] ["script"] (defScope s_law) := ⟨rfl, rfl, rfl, by decide +kernel, rfl, by decide +kernel, by decide +kernel⟩
theorem sc_Growth_init : FnScope ["self", "frame"] ["self", "frame"] (defScope s_Growth_init) := ⟨rfl, rfl, rfl, by decide +kernel, rfl, by decide +kernel, by decide +kernel⟩
theorem sc_Growth_entry : FnScope ["self", "knot"] ["self", "knot"] (defScope s_Growth_entry) := ⟨rfl, rfl, rfl, by decide +kernel, rfl, by decide +kernel, by decide +kernel⟩
theorem sc_Growth_branching : FnScope ["self", "knot", "changed", "weights", "letter"] ["self", "knot", "changed"] (defScope s_Growth_branching) := ⟨rfl, rfl, rfl, by decide +kernel, rfl, by decide +kernel, by decide +kernel⟩
theorem sc_Growth_changes : FnScope ["self", "sign", "place", "path", "told", "size", "knot", "entry", "worth", "weight"] ["self", "sign"] (defScope s_Growth_changes) := ⟨rfl, rfl, rfl, by decide +kernel, rfl, by decide +kernel, by decide +kernel⟩
theorem sc_Growth_weight : FnScope ["self"] ["self"] (defScope s_Growth_weight) := ⟨rfl, rfl, rfl, by decide +kernel, rfl, by decide +kernel, by decide +kernel⟩
theorem sc_Growth_grow : FnScope ["self", "sign", "changed", "knot", "entry"] ["self", "sign"] (defScope s_Growth_grow) := ⟨rfl, rfl, rfl, by decide +kernel, rfl, by decide +kernel, by decide +kernel⟩
theorem bt_abs : bootBuiltins "abs" = some (.builtin "abs") := by decide +kernel
theorem bt_all : bootBuiltins "all" = some (.builtin "all") := by decide +kernel
theorem bt_bool : bootBuiltins "bool" = some (.type "bool") := by decide +kernel
theorem bt_int : bootBuiltins "int" = some (.type "int") := by decide +kernel
theorem bt_isinstance : bootBuiltins "isinstance" = some (.builtin "isinstance") := by decide +kernel
theorem bt_len : bootBuiltins "len" = some (.builtin "len") := by decide +kernel
theorem bt_list : bootBuiltins "list" = some (.type "list") := by decide +kernel
theorem bt_max : bootBuiltins "max" = some (.builtin "max") := by decide +kernel
theorem bt_reversed : bootBuiltins "reversed" = some (.type "reversed") := by decide +kernel
theorem bt_sum : bootBuiltins "sum" = some (.builtin "sum") := by decide +kernel
theorem bt_tuple : bootBuiltins "tuple" = some (.type "tuple") := by decide +kernel
structure Adr where
  a_is_whole : Addr
  fd_is_whole : FuncData
  a_checked : Addr
  fd_checked : FuncData
  a_elders_at : Addr
  fd_elders_at : FuncData
  a_no_counts : Addr
  fd_no_counts : FuncData
  a_greatest_divisor : Addr
  fd_greatest_divisor : FuncData
  a_fraction : Addr
  fd_fraction : FuncData
  a_plus : Addr
  fd_plus : FuncData
  a_times : Addr
  fd_times : FuncData
  a_half : Addr
  fd_half : FuncData
  a_product : Addr
  fd_product : FuncData
  a_share : Addr
  fd_share : FuncData
  a_raised : Addr
  fd_raised : FuncData
  a_grown : Addr
  fd_grown : FuncData
  a_weight : Addr
  fd_weight : FuncData
  a_is_tree_of : Addr
  fd_is_tree_of : FuncData
  a_is_tree : Addr
  fd_is_tree : FuncData
  a_checked_tree : Addr
  fd_checked_tree : FuncData
  a_price_of : Addr
  fd_price_of : FuncData
  a_price : Addr
  fd_price : FuncData
  a_L_cell_at : Addr
  fd_L_cell_at : FuncData
  a_L_signs : Addr
  fd_L_signs : FuncData
  a_L_frame : Addr
  fd_L_frame : FuncData
  a_L_text : Addr
  fd_L_text : FuncData
  a_L_elders : Addr
  fd_L_elders : FuncData
  a_L_whole : Addr
  fd_L_whole : FuncData
  a_L_divisor : Addr
  fd_L_divisor : FuncData
  a_L_fraction : Addr
  fd_L_fraction : FuncData
  a_L_came : Addr
  fd_L_came : FuncData
  a_L_worth : Addr
  fd_L_worth : FuncData
  a_L_forms : Addr
  fd_L_forms : FuncData
  a_L_full : Addr
  fd_L_full : FuncData
  a_L_plus : Addr
  fd_L_plus : FuncData
  a_L_sum : Addr
  fd_L_sum : FuncData
  a_law : Addr
  fd_law : FuncData
  a_Growth_init : Addr
  fd_Growth_init : FuncData
  a_Growth_entry : Addr
  fd_Growth_entry : FuncData
  a_Growth_branching : Addr
  fd_Growth_branching : FuncData
  a_Growth_changes : Addr
  fd_Growth_changes : FuncData
  a_Growth_weight : Addr
  fd_Growth_weight : FuncData
  a_Growth_grow : Addr
  fd_Growth_grow : FuncData
  c_NoFraction : Addr
  c_NoText : Addr
  c_NoTree : Addr
  c_Growth : Addr
  q_ONE : Addr
  k_COUNTS : Tok
  k_WORTH : Tok
  k_WEIGHT : Tok
structure Txt (K : PySem.W.Frag) (mg : Str → Option Value) (t : Adr) : Prop where
  F_is_whole : Fun K "is_whole" "is_whole" s_is_whole t.a_is_whole t.fd_is_whole
  b_is_whole : Binds K t.fd_is_whole ["thing"] []
  m_is_whole : mg "is_whole" = some (.ref t.a_is_whole)
  F_checked : Fun K "checked" "checked" s_checked t.a_checked t.fd_checked
  b_checked : Binds K t.fd_checked ["frame", "text"] []
  m_checked : mg "checked" = some (.ref t.a_checked)
  F_elders_at : Fun K "elders_at" "elders_at" s_elders_at t.a_elders_at t.fd_elders_at
  b_elders_at : Binds K t.fd_elders_at ["frame", "text", "at"] []
  m_elders_at : mg "elders_at" = some (.ref t.a_elders_at)
  F_no_counts : Fun K "no_counts" "no_counts" s_no_counts t.a_no_counts t.fd_no_counts
  b_no_counts : Binds K t.fd_no_counts ["frame"] []
  m_no_counts : mg "no_counts" = some (.ref t.a_no_counts)
  F_greatest_divisor : Fun K "greatest_divisor" "greatest_divisor" s_greatest_divisor t.a_greatest_divisor t.fd_greatest_divisor
  b_greatest_divisor : Binds K t.fd_greatest_divisor ["one", "other"] []
  m_greatest_divisor : mg "greatest_divisor" = some (.ref t.a_greatest_divisor)
  F_fraction : Fun K "fraction" "fraction" s_fraction t.a_fraction t.fd_fraction
  b_fraction : Binds K t.fd_fraction ["top", "bottom"] []
  m_fraction : mg "fraction" = some (.ref t.a_fraction)
  F_plus : Fun K "plus" "plus" s_plus t.a_plus t.fd_plus
  b_plus : Binds K t.fd_plus ["one", "other"] []
  m_plus : mg "plus" = some (.ref t.a_plus)
  F_times : Fun K "times" "times" s_times t.a_times t.fd_times
  b_times : Binds K t.fd_times ["one", "other"] []
  m_times : mg "times" = some (.ref t.a_times)
  F_half : Fun K "half" "half" s_half t.a_half t.fd_half
  b_half : Binds K t.fd_half ["one"] []
  m_half : mg "half" = some (.ref t.a_half)
  F_product : Fun K "product" "product" s_product t.a_product t.fd_product
  b_product : Binds K t.fd_product ["many"] []
  m_product : mg "product" = some (.ref t.a_product)
  F_share : Fun K "share" "share" s_share t.a_share t.fd_share
  b_share : Binds K t.fd_share ["counts", "place"] []
  m_share : mg "share" = some (.ref t.a_share)
  F_raised : Fun K "raised" "raised" s_raised t.a_raised t.fd_raised
  b_raised : Binds K t.fd_raised ["counts", "place"] []
  m_raised : mg "raised" = some (.ref t.a_raised)
  F_grown : Fun K "grown" "grown" s_grown t.a_grown t.fd_grown
  b_grown : Binds K t.fd_grown ["frame", "text"] []
  m_grown : mg "grown" = some (.ref t.a_grown)
  F_weight : Fun K "weight" "weight" s_weight t.a_weight t.fd_weight
  b_weight : Binds K t.fd_weight ["frame", "text"] []
  m_weight : mg "weight" = some (.ref t.a_weight)
  F_is_tree_of : Fun K "is_tree_of" "is_tree_of" s_is_tree_of t.a_is_tree_of t.fd_is_tree_of
  b_is_tree_of : Binds K t.fd_is_tree_of ["letters", "thing", "steps"] []
  m_is_tree_of : mg "is_tree_of" = some (.ref t.a_is_tree_of)
  F_is_tree : Fun K "is_tree" "is_tree" s_is_tree t.a_is_tree t.fd_is_tree
  b_is_tree : Binds K t.fd_is_tree ["frame", "thing"] []
  m_is_tree : mg "is_tree" = some (.ref t.a_is_tree)
  F_checked_tree : Fun K "checked_tree" "checked_tree" s_checked_tree t.a_checked_tree t.fd_checked_tree
  b_checked_tree : Binds K t.fd_checked_tree ["frame", "thing"] []
  m_checked_tree : mg "checked_tree" = some (.ref t.a_checked_tree)
  F_price_of : Fun K "price_of" "price_of" s_price_of t.a_price_of t.fd_price_of
  b_price_of : Binds K t.fd_price_of ["tree", "steps"] []
  m_price_of : mg "price_of" = some (.ref t.a_price_of)
  F_price : Fun K "price" "price" s_price t.a_price t.fd_price
  b_price : Binds K t.fd_price ["frame", "tree"] []
  m_price : mg "price" = some (.ref t.a_price)
  F_L_cell_at : Fun K "_law_cell_at" "_law_cell_at" s_L_cell_at t.a_L_cell_at t.fd_L_cell_at
  b_L_cell_at : Binds K t.fd_L_cell_at ["script", "k"] []
  m_L_cell_at : mg "_law_cell_at" = some (.ref t.a_L_cell_at)
  F_L_signs : Fun K "_law_signs" "_law_signs" s_L_signs t.a_L_signs t.fd_L_signs
  b_L_signs : Binds K t.fd_L_signs ["cell", "many"] []
  m_L_signs : mg "_law_signs" = some (.ref t.a_L_signs)
  F_L_frame : Fun K "_law_frame" "_law_frame" s_L_frame t.a_L_frame t.fd_L_frame
  b_L_frame : Binds K t.fd_L_frame ["cell"] []
  m_L_frame : mg "_law_frame" = some (.ref t.a_L_frame)
  F_L_text : Fun K "_law_text" "_law_text" s_L_text t.a_L_text t.fd_L_text
  b_L_text : Binds K t.fd_L_text ["cells", "letters", "lean"] []
  m_L_text : mg "_law_text" = some (.ref t.a_L_text)
  F_L_elders : Fun K "_law_elders" "_law_elders" s_L_elders t.a_L_elders t.fd_L_elders
  b_L_elders : Binds K t.fd_L_elders ["frame", "text", "at"] []
  m_L_elders : mg "_law_elders" = some (.ref t.a_L_elders)
  F_L_whole : Fun K "_law_whole" "_law_whole" s_L_whole t.a_L_whole t.fd_L_whole
  b_L_whole : Binds K t.fd_L_whole ["found"] []
  m_L_whole : mg "_law_whole" = some (.ref t.a_L_whole)
  F_L_divisor : Fun K "_law_divisor" "_law_divisor" s_L_divisor t.a_L_divisor t.fd_L_divisor
  b_L_divisor : Binds K t.fd_L_divisor ["one", "other"] []
  m_L_divisor : mg "_law_divisor" = some (.ref t.a_L_divisor)
  F_L_fraction : Fun K "_law_fraction" "_law_fraction" s_L_fraction t.a_L_fraction t.fd_L_fraction
  b_L_fraction : Binds K t.fd_L_fraction ["found", "top", "bottom"] []
  m_L_fraction : mg "_law_fraction" = some (.ref t.a_L_fraction)
  F_L_came : Fun K "_law_came" "_law_came" s_L_came t.a_L_came t.fd_L_came
  b_L_came : Binds K t.fd_L_came ["frame", "text"] []
  m_L_came : mg "_law_came" = some (.ref t.a_L_came)
  F_L_worth : Fun K "_law_worth" "_law_worth" s_L_worth t.a_L_worth t.fd_L_worth
  b_L_worth : Binds K t.fd_L_worth ["came", "many"] []
  m_L_worth : mg "_law_worth" = some (.ref t.a_L_worth)
  F_L_forms : Fun K "_law_forms" "_law_forms" s_L_forms t.a_L_forms t.fd_L_forms
  b_L_forms : Binds K t.fd_L_forms ["letters", "knot", "left"] []
  m_L_forms : mg "_law_forms" = some (.ref t.a_L_forms)
  F_L_full : Fun K "_law_full" "_law_full" s_L_full t.a_L_full t.fd_L_full
  b_L_full : Binds K t.fd_L_full ["many", "depth"] []
  m_L_full : mg "_law_full" = some (.ref t.a_L_full)
  F_L_plus : Fun K "_law_plus" "_law_plus" s_L_plus t.a_L_plus t.fd_L_plus
  b_L_plus : Binds K t.fd_L_plus ["one", "top", "bottom"] []
  m_L_plus : mg "_law_plus" = some (.ref t.a_L_plus)
  F_L_sum : Fun K "_law_sum" "_law_sum" s_L_sum t.a_L_sum t.fd_L_sum
  b_L_sum : Binds K t.fd_L_sum ["frame", "text", "forms"] []
  m_L_sum : mg "_law_sum" = some (.ref t.a_L_sum)
  F_law : Fun K "law" "law" s_law t.a_law t.fd_law
  b_law : Binds K t.fd_law ["script"] []
  m_law : mg "law" = some (.ref t.a_law)
  F_Growth_init : Fun K "__init__" "Growth.__init__" s_Growth_init t.a_Growth_init t.fd_Growth_init
  b_Growth_init : Binds K t.fd_Growth_init ["self", "frame"] []
  mk_Growth : Mk K t.c_Growth t.a_Growth_init
  F_Growth_entry : Fun K "entry" "Growth.entry" s_Growth_entry t.a_Growth_entry t.fd_Growth_entry
  b_Growth_entry : Binds K t.fd_Growth_entry ["self", "knot"] []
  me_Growth_entry : Meth K t.c_Growth "entry" t.a_Growth_entry
  F_Growth_branching : Fun K "branching" "Growth.branching" s_Growth_branching t.a_Growth_branching t.fd_Growth_branching
  b_Growth_branching : Binds K t.fd_Growth_branching ["self", "knot", "changed"] []
  me_Growth_branching : Meth K t.c_Growth "branching" t.a_Growth_branching
  F_Growth_changes : Fun K "changes" "Growth.changes" s_Growth_changes t.a_Growth_changes t.fd_Growth_changes
  b_Growth_changes : Binds K t.fd_Growth_changes ["self", "sign"] []
  me_Growth_changes : Meth K t.c_Growth "changes" t.a_Growth_changes
  F_Growth_weight : Fun K "weight" "Growth.weight" s_Growth_weight t.a_Growth_weight t.fd_Growth_weight
  b_Growth_weight : Binds K t.fd_Growth_weight ["self"] []
  me_Growth_weight : Meth K t.c_Growth "weight" t.a_Growth_weight
  F_Growth_grow : Fun K "grow" "Growth.grow" s_Growth_grow t.a_Growth_grow t.fd_Growth_grow
  b_Growth_grow : Binds K t.fd_Growth_grow ["self", "sign"] []
  me_Growth_grow : Meth K t.c_Growth "grow" t.a_Growth_grow
  cl_Growth : Cls K t.c_Growth
  na_Growth_frame : NoAttr K t.c_Growth "frame"
  na_Growth_replaced : NoAttr K t.c_Growth "replaced"
  na_Growth_table : NoAttr K t.c_Growth "table"
  na_Growth_text : NoAttr K t.c_Growth "text"
  m_abs : mg "abs" = none
  m_all : mg "all" = none
  m_bool : mg "bool" = none
  m_int : mg "int" = none
  m_isinstance : mg "isinstance" = none
  m_len : mg "len" = none
  m_list : mg "list" = none
  m_max : mg "max" = none
  m_range : mg "range" = none
  m_reversed : mg "reversed" = none
  m_sum : mg "sum" = none
  m_tuple : mg "tuple" = none
  m_NoFraction : mg "NoFraction" = some (.ref t.c_NoFraction)
  m_NoText : mg "NoText" = some (.ref t.c_NoText)
  m_NoTree : mg "NoTree" = some (.ref t.c_NoTree)
  m_Growth : mg "Growth" = some (.ref t.c_Growth)
  m_COUNTS : mg "COUNTS" = some (.int 0 t.k_COUNTS)
  m_WORTH : mg "WORTH" = some (.int 1 t.k_WORTH)
  m_WEIGHT : mg "WEIGHT" = some (.int 2 t.k_WEIGHT)
  m_ONE : mg "ONE" = some (.ref t.q_ONE)
  tc_ONE : ∃ (o : Obj) (its : Array Value) (n : Nat), K.lookup t.q_ONE = some o ∧ o.cls = .type "tuple" ∧ o.data = .seq its n ∧ its.size ≤ sizeLine ∧ Vals [.int 1, .int 1] its.toList
  x_NoFraction : PySem.W.excIn K t.c_NoFraction [.type "ValueError", .type "Exception", .type "BaseException", .type "object"] "ValueError.__new__" = true
  z_NoFraction : XT.ExcK K t.c_NoFraction
  x_NoText : PySem.W.excIn K t.c_NoText [.type "ValueError", .type "Exception", .type "BaseException", .type "object"] "ValueError.__new__" = true
  z_NoText : XT.ExcK K t.c_NoText
  x_NoTree : PySem.W.excIn K t.c_NoTree [.type "ValueError", .type "Exception", .type "BaseException", .type "object"] "ValueError.__new__" = true
  z_NoTree : XT.ExcK K t.c_NoTree
  bl : ∀ (s : Shared) (v : Value), BindsTo s t.fd_law ⟨[v], []⟩ [("script", v)]
theorem txt_mk {K : PySem.W.Frag} {h : Heap} {mg : Str → Option Value} (X : K.In h) (G : h.Ns mainGlobals mg)
    {a_is_whole : Addr} {oc_is_whole kV_is_whole dc_is_whole pm_is_whole cd_is_whole ct_is_whole : Value} {od_is_whole an_is_whole : Option Addr} {sl_is_whole : Array (Option Value)}
    {a_checked : Addr} {oc_checked kV_checked dc_checked pm_checked cd_checked ct_checked : Value} {od_checked an_checked : Option Addr} {sl_checked : Array (Option Value)}
    {a_elders_at : Addr} {oc_elders_at kV_elders_at dc_elders_at pm_elders_at cd_elders_at ct_elders_at : Value} {od_elders_at an_elders_at : Option Addr} {sl_elders_at : Array (Option Value)}
    {a_no_counts : Addr} {oc_no_counts kV_no_counts dc_no_counts pm_no_counts cd_no_counts ct_no_counts : Value} {od_no_counts an_no_counts : Option Addr} {sl_no_counts : Array (Option Value)}
    {a_greatest_divisor : Addr} {oc_greatest_divisor kV_greatest_divisor dc_greatest_divisor pm_greatest_divisor cd_greatest_divisor ct_greatest_divisor : Value} {od_greatest_divisor an_greatest_divisor : Option Addr} {sl_greatest_divisor : Array (Option Value)}
    {a_fraction : Addr} {oc_fraction kV_fraction dc_fraction pm_fraction cd_fraction ct_fraction : Value} {od_fraction an_fraction : Option Addr} {sl_fraction : Array (Option Value)}
    {a_plus : Addr} {oc_plus kV_plus dc_plus pm_plus cd_plus ct_plus : Value} {od_plus an_plus : Option Addr} {sl_plus : Array (Option Value)}
    {a_times : Addr} {oc_times kV_times dc_times pm_times cd_times ct_times : Value} {od_times an_times : Option Addr} {sl_times : Array (Option Value)}
    {a_half : Addr} {oc_half kV_half dc_half pm_half cd_half ct_half : Value} {od_half an_half : Option Addr} {sl_half : Array (Option Value)}
    {a_product : Addr} {oc_product kV_product dc_product pm_product cd_product ct_product : Value} {od_product an_product : Option Addr} {sl_product : Array (Option Value)}
    {a_share : Addr} {oc_share kV_share dc_share pm_share cd_share ct_share : Value} {od_share an_share : Option Addr} {sl_share : Array (Option Value)}
    {a_raised : Addr} {oc_raised kV_raised dc_raised pm_raised cd_raised ct_raised : Value} {od_raised an_raised : Option Addr} {sl_raised : Array (Option Value)}
    {a_grown : Addr} {oc_grown kV_grown dc_grown pm_grown cd_grown ct_grown : Value} {od_grown an_grown : Option Addr} {sl_grown : Array (Option Value)}
    {a_weight : Addr} {oc_weight kV_weight dc_weight pm_weight cd_weight ct_weight : Value} {od_weight an_weight : Option Addr} {sl_weight : Array (Option Value)}
    {a_is_tree_of : Addr} {oc_is_tree_of kV_is_tree_of dc_is_tree_of pm_is_tree_of cd_is_tree_of ct_is_tree_of : Value} {od_is_tree_of an_is_tree_of : Option Addr} {sl_is_tree_of : Array (Option Value)}
    {a_is_tree : Addr} {oc_is_tree kV_is_tree dc_is_tree pm_is_tree cd_is_tree ct_is_tree : Value} {od_is_tree an_is_tree : Option Addr} {sl_is_tree : Array (Option Value)}
    {a_checked_tree : Addr} {oc_checked_tree kV_checked_tree dc_checked_tree pm_checked_tree cd_checked_tree ct_checked_tree : Value} {od_checked_tree an_checked_tree : Option Addr} {sl_checked_tree : Array (Option Value)}
    {a_price_of : Addr} {oc_price_of kV_price_of dc_price_of pm_price_of cd_price_of ct_price_of : Value} {od_price_of an_price_of : Option Addr} {sl_price_of : Array (Option Value)}
    {a_price : Addr} {oc_price kV_price dc_price pm_price cd_price ct_price : Value} {od_price an_price : Option Addr} {sl_price : Array (Option Value)}
    {a_L_cell_at : Addr} {oc_L_cell_at kV_L_cell_at dc_L_cell_at pm_L_cell_at cd_L_cell_at ct_L_cell_at : Value} {od_L_cell_at an_L_cell_at : Option Addr} {sl_L_cell_at : Array (Option Value)}
    {a_L_signs : Addr} {oc_L_signs kV_L_signs dc_L_signs pm_L_signs cd_L_signs ct_L_signs : Value} {od_L_signs an_L_signs : Option Addr} {sl_L_signs : Array (Option Value)}
    {a_L_frame : Addr} {oc_L_frame kV_L_frame dc_L_frame pm_L_frame cd_L_frame ct_L_frame : Value} {od_L_frame an_L_frame : Option Addr} {sl_L_frame : Array (Option Value)}
    {a_L_text : Addr} {oc_L_text kV_L_text dc_L_text pm_L_text cd_L_text ct_L_text : Value} {od_L_text an_L_text : Option Addr} {sl_L_text : Array (Option Value)}
    {a_L_elders : Addr} {oc_L_elders kV_L_elders dc_L_elders pm_L_elders cd_L_elders ct_L_elders : Value} {od_L_elders an_L_elders : Option Addr} {sl_L_elders : Array (Option Value)}
    {a_L_whole : Addr} {oc_L_whole kV_L_whole dc_L_whole pm_L_whole cd_L_whole ct_L_whole : Value} {od_L_whole an_L_whole : Option Addr} {sl_L_whole : Array (Option Value)}
    {a_L_divisor : Addr} {oc_L_divisor kV_L_divisor dc_L_divisor pm_L_divisor cd_L_divisor ct_L_divisor : Value} {od_L_divisor an_L_divisor : Option Addr} {sl_L_divisor : Array (Option Value)}
    {a_L_fraction : Addr} {oc_L_fraction kV_L_fraction dc_L_fraction pm_L_fraction cd_L_fraction ct_L_fraction : Value} {od_L_fraction an_L_fraction : Option Addr} {sl_L_fraction : Array (Option Value)}
    {a_L_came : Addr} {oc_L_came kV_L_came dc_L_came pm_L_came cd_L_came ct_L_came : Value} {od_L_came an_L_came : Option Addr} {sl_L_came : Array (Option Value)}
    {a_L_worth : Addr} {oc_L_worth kV_L_worth dc_L_worth pm_L_worth cd_L_worth ct_L_worth : Value} {od_L_worth an_L_worth : Option Addr} {sl_L_worth : Array (Option Value)}
    {a_L_forms : Addr} {oc_L_forms kV_L_forms dc_L_forms pm_L_forms cd_L_forms ct_L_forms : Value} {od_L_forms an_L_forms : Option Addr} {sl_L_forms : Array (Option Value)}
    {a_L_full : Addr} {oc_L_full kV_L_full dc_L_full pm_L_full cd_L_full ct_L_full : Value} {od_L_full an_L_full : Option Addr} {sl_L_full : Array (Option Value)}
    {a_L_plus : Addr} {oc_L_plus kV_L_plus dc_L_plus pm_L_plus cd_L_plus ct_L_plus : Value} {od_L_plus an_L_plus : Option Addr} {sl_L_plus : Array (Option Value)}
    {a_L_sum : Addr} {oc_L_sum kV_L_sum dc_L_sum pm_L_sum cd_L_sum ct_L_sum : Value} {od_L_sum an_L_sum : Option Addr} {sl_L_sum : Array (Option Value)}
    {a_law : Addr} {oc_law kV_law dc_law pm_law cd_law ct_law : Value} {od_law an_law : Option Addr} {sl_law : Array (Option Value)}
    {a_Growth_init : Addr} {oc_Growth_init kV_Growth_init dc_Growth_init pm_Growth_init cd_Growth_init ct_Growth_init : Value} {od_Growth_init an_Growth_init : Option Addr} {sl_Growth_init : Array (Option Value)}
    {a_Growth_entry : Addr} {oc_Growth_entry kV_Growth_entry dc_Growth_entry pm_Growth_entry cd_Growth_entry ct_Growth_entry : Value} {od_Growth_entry an_Growth_entry : Option Addr} {sl_Growth_entry : Array (Option Value)}
    {a_Growth_branching : Addr} {oc_Growth_branching kV_Growth_branching dc_Growth_branching pm_Growth_branching cd_Growth_branching ct_Growth_branching : Value} {od_Growth_branching an_Growth_branching : Option Addr} {sl_Growth_branching : Array (Option Value)}
    {a_Growth_changes : Addr} {oc_Growth_changes kV_Growth_changes dc_Growth_changes pm_Growth_changes cd_Growth_changes ct_Growth_changes : Value} {od_Growth_changes an_Growth_changes : Option Addr} {sl_Growth_changes : Array (Option Value)}
    {a_Growth_weight : Addr} {oc_Growth_weight kV_Growth_weight dc_Growth_weight pm_Growth_weight cd_Growth_weight ct_Growth_weight : Value} {od_Growth_weight an_Growth_weight : Option Addr} {sl_Growth_weight : Array (Option Value)}
    {a_Growth_grow : Addr} {oc_Growth_grow kV_Growth_grow dc_Growth_grow pm_Growth_grow cd_Growth_grow ct_Growth_grow : Value} {od_Growth_grow an_Growth_grow : Option Addr} {sl_Growth_grow : Array (Option Value)}
    {c_NoFraction : Addr}
    {c_NoText : Addr}
    {c_NoTree : Addr}
    {c_Growth : Addr}
    {q_ONE : Addr} {od_ONE : Option Addr} {sl_ONE : Array (Option Value)} {nn_ONE : Nat} {i0_ONE i1_ONE : Tok}
    {k_COUNTS : Tok}
    {k_WORTH : Tok}
    {k_WEIGHT : Tok}
    (n_is_whole : PySem.W.nsIn K mainGlobals "is_whole" = some (some (.ref a_is_whole)))
    (l_is_whole : K.lookup a_is_whole = some ⟨oc_is_whole, od_is_whole, .func (PySem.W.fnOf "is_whole" "is_whole" (defArgs s_is_whole) (defBody s_is_whole) (defScope s_is_whole) .none kV_is_whole dc_is_whole pm_is_whole an_is_whole cd_is_whole ct_is_whole), sl_is_whole⟩)
    (o_is_whole : PySem.W.codeIn K cd_is_whole "is_whole" = true)
    (k_is_whole : PySem.W.keepIn K (.ref a_is_whole) = true)
    (n_checked : PySem.W.nsIn K mainGlobals "checked" = some (some (.ref a_checked)))
    (l_checked : K.lookup a_checked = some ⟨oc_checked, od_checked, .func (PySem.W.fnOf "checked" "checked" (defArgs s_checked) (defBody s_checked) (defScope s_checked) .none kV_checked dc_checked pm_checked an_checked cd_checked ct_checked), sl_checked⟩)
    (o_checked : PySem.W.codeIn K cd_checked "checked" = true)
    (k_checked : PySem.W.keepIn K (.ref a_checked) = true)
    (n_elders_at : PySem.W.nsIn K mainGlobals "elders_at" = some (some (.ref a_elders_at)))
    (l_elders_at : K.lookup a_elders_at = some ⟨oc_elders_at, od_elders_at, .func (PySem.W.fnOf "elders_at" "elders_at" (defArgs s_elders_at) (defBody s_elders_at) (defScope s_elders_at) .none kV_elders_at dc_elders_at pm_elders_at an_elders_at cd_elders_at ct_elders_at), sl_elders_at⟩)
    (o_elders_at : PySem.W.codeIn K cd_elders_at "elders_at" = true)
    (k_elders_at : PySem.W.keepIn K (.ref a_elders_at) = true)
    (n_no_counts : PySem.W.nsIn K mainGlobals "no_counts" = some (some (.ref a_no_counts)))
    (l_no_counts : K.lookup a_no_counts = some ⟨oc_no_counts, od_no_counts, .func (PySem.W.fnOf "no_counts" "no_counts" (defArgs s_no_counts) (defBody s_no_counts) (defScope s_no_counts) .none kV_no_counts dc_no_counts pm_no_counts an_no_counts cd_no_counts ct_no_counts), sl_no_counts⟩)
    (o_no_counts : PySem.W.codeIn K cd_no_counts "no_counts" = true)
    (k_no_counts : PySem.W.keepIn K (.ref a_no_counts) = true)
    (n_greatest_divisor : PySem.W.nsIn K mainGlobals "greatest_divisor" = some (some (.ref a_greatest_divisor)))
    (l_greatest_divisor : K.lookup a_greatest_divisor = some ⟨oc_greatest_divisor, od_greatest_divisor, .func (PySem.W.fnOf "greatest_divisor" "greatest_divisor" (defArgs s_greatest_divisor) (defBody s_greatest_divisor) (defScope s_greatest_divisor) .none kV_greatest_divisor dc_greatest_divisor pm_greatest_divisor an_greatest_divisor cd_greatest_divisor ct_greatest_divisor), sl_greatest_divisor⟩)
    (o_greatest_divisor : PySem.W.codeIn K cd_greatest_divisor "greatest_divisor" = true)
    (k_greatest_divisor : PySem.W.keepIn K (.ref a_greatest_divisor) = true)
    (n_fraction : PySem.W.nsIn K mainGlobals "fraction" = some (some (.ref a_fraction)))
    (l_fraction : K.lookup a_fraction = some ⟨oc_fraction, od_fraction, .func (PySem.W.fnOf "fraction" "fraction" (defArgs s_fraction) (defBody s_fraction) (defScope s_fraction) .none kV_fraction dc_fraction pm_fraction an_fraction cd_fraction ct_fraction), sl_fraction⟩)
    (o_fraction : PySem.W.codeIn K cd_fraction "fraction" = true)
    (k_fraction : PySem.W.keepIn K (.ref a_fraction) = true)
    (n_plus : PySem.W.nsIn K mainGlobals "plus" = some (some (.ref a_plus)))
    (l_plus : K.lookup a_plus = some ⟨oc_plus, od_plus, .func (PySem.W.fnOf "plus" "plus" (defArgs s_plus) (defBody s_plus) (defScope s_plus) .none kV_plus dc_plus pm_plus an_plus cd_plus ct_plus), sl_plus⟩)
    (o_plus : PySem.W.codeIn K cd_plus "plus" = true)
    (k_plus : PySem.W.keepIn K (.ref a_plus) = true)
    (n_times : PySem.W.nsIn K mainGlobals "times" = some (some (.ref a_times)))
    (l_times : K.lookup a_times = some ⟨oc_times, od_times, .func (PySem.W.fnOf "times" "times" (defArgs s_times) (defBody s_times) (defScope s_times) .none kV_times dc_times pm_times an_times cd_times ct_times), sl_times⟩)
    (o_times : PySem.W.codeIn K cd_times "times" = true)
    (k_times : PySem.W.keepIn K (.ref a_times) = true)
    (n_half : PySem.W.nsIn K mainGlobals "half" = some (some (.ref a_half)))
    (l_half : K.lookup a_half = some ⟨oc_half, od_half, .func (PySem.W.fnOf "half" "half" (defArgs s_half) (defBody s_half) (defScope s_half) .none kV_half dc_half pm_half an_half cd_half ct_half), sl_half⟩)
    (o_half : PySem.W.codeIn K cd_half "half" = true)
    (k_half : PySem.W.keepIn K (.ref a_half) = true)
    (n_product : PySem.W.nsIn K mainGlobals "product" = some (some (.ref a_product)))
    (l_product : K.lookup a_product = some ⟨oc_product, od_product, .func (PySem.W.fnOf "product" "product" (defArgs s_product) (defBody s_product) (defScope s_product) .none kV_product dc_product pm_product an_product cd_product ct_product), sl_product⟩)
    (o_product : PySem.W.codeIn K cd_product "product" = true)
    (k_product : PySem.W.keepIn K (.ref a_product) = true)
    (n_share : PySem.W.nsIn K mainGlobals "share" = some (some (.ref a_share)))
    (l_share : K.lookup a_share = some ⟨oc_share, od_share, .func (PySem.W.fnOf "share" "share" (defArgs s_share) (defBody s_share) (defScope s_share) .none kV_share dc_share pm_share an_share cd_share ct_share), sl_share⟩)
    (o_share : PySem.W.codeIn K cd_share "share" = true)
    (k_share : PySem.W.keepIn K (.ref a_share) = true)
    (n_raised : PySem.W.nsIn K mainGlobals "raised" = some (some (.ref a_raised)))
    (l_raised : K.lookup a_raised = some ⟨oc_raised, od_raised, .func (PySem.W.fnOf "raised" "raised" (defArgs s_raised) (defBody s_raised) (defScope s_raised) .none kV_raised dc_raised pm_raised an_raised cd_raised ct_raised), sl_raised⟩)
    (o_raised : PySem.W.codeIn K cd_raised "raised" = true)
    (k_raised : PySem.W.keepIn K (.ref a_raised) = true)
    (n_grown : PySem.W.nsIn K mainGlobals "grown" = some (some (.ref a_grown)))
    (l_grown : K.lookup a_grown = some ⟨oc_grown, od_grown, .func (PySem.W.fnOf "grown" "grown" (defArgs s_grown) (defBody s_grown) (defScope s_grown) .none kV_grown dc_grown pm_grown an_grown cd_grown ct_grown), sl_grown⟩)
    (o_grown : PySem.W.codeIn K cd_grown "grown" = true)
    (k_grown : PySem.W.keepIn K (.ref a_grown) = true)
    (n_weight : PySem.W.nsIn K mainGlobals "weight" = some (some (.ref a_weight)))
    (l_weight : K.lookup a_weight = some ⟨oc_weight, od_weight, .func (PySem.W.fnOf "weight" "weight" (defArgs s_weight) (defBody s_weight) (defScope s_weight) .none kV_weight dc_weight pm_weight an_weight cd_weight ct_weight), sl_weight⟩)
    (o_weight : PySem.W.codeIn K cd_weight "weight" = true)
    (k_weight : PySem.W.keepIn K (.ref a_weight) = true)
    (n_is_tree_of : PySem.W.nsIn K mainGlobals "is_tree_of" = some (some (.ref a_is_tree_of)))
    (l_is_tree_of : K.lookup a_is_tree_of = some ⟨oc_is_tree_of, od_is_tree_of, .func (PySem.W.fnOf "is_tree_of" "is_tree_of" (defArgs s_is_tree_of) (defBody s_is_tree_of) (defScope s_is_tree_of) .none kV_is_tree_of dc_is_tree_of pm_is_tree_of an_is_tree_of cd_is_tree_of ct_is_tree_of), sl_is_tree_of⟩)
    (o_is_tree_of : PySem.W.codeIn K cd_is_tree_of "is_tree_of" = true)
    (k_is_tree_of : PySem.W.keepIn K (.ref a_is_tree_of) = true)
    (n_is_tree : PySem.W.nsIn K mainGlobals "is_tree" = some (some (.ref a_is_tree)))
    (l_is_tree : K.lookup a_is_tree = some ⟨oc_is_tree, od_is_tree, .func (PySem.W.fnOf "is_tree" "is_tree" (defArgs s_is_tree) (defBody s_is_tree) (defScope s_is_tree) .none kV_is_tree dc_is_tree pm_is_tree an_is_tree cd_is_tree ct_is_tree), sl_is_tree⟩)
    (o_is_tree : PySem.W.codeIn K cd_is_tree "is_tree" = true)
    (k_is_tree : PySem.W.keepIn K (.ref a_is_tree) = true)
    (n_checked_tree : PySem.W.nsIn K mainGlobals "checked_tree" = some (some (.ref a_checked_tree)))
    (l_checked_tree : K.lookup a_checked_tree = some ⟨oc_checked_tree, od_checked_tree, .func (PySem.W.fnOf "checked_tree" "checked_tree" (defArgs s_checked_tree) (defBody s_checked_tree) (defScope s_checked_tree) .none kV_checked_tree dc_checked_tree pm_checked_tree an_checked_tree cd_checked_tree ct_checked_tree), sl_checked_tree⟩)
    (o_checked_tree : PySem.W.codeIn K cd_checked_tree "checked_tree" = true)
    (k_checked_tree : PySem.W.keepIn K (.ref a_checked_tree) = true)
    (n_price_of : PySem.W.nsIn K mainGlobals "price_of" = some (some (.ref a_price_of)))
    (l_price_of : K.lookup a_price_of = some ⟨oc_price_of, od_price_of, .func (PySem.W.fnOf "price_of" "price_of" (defArgs s_price_of) (defBody s_price_of) (defScope s_price_of) .none kV_price_of dc_price_of pm_price_of an_price_of cd_price_of ct_price_of), sl_price_of⟩)
    (o_price_of : PySem.W.codeIn K cd_price_of "price_of" = true)
    (k_price_of : PySem.W.keepIn K (.ref a_price_of) = true)
    (n_price : PySem.W.nsIn K mainGlobals "price" = some (some (.ref a_price)))
    (l_price : K.lookup a_price = some ⟨oc_price, od_price, .func (PySem.W.fnOf "price" "price" (defArgs s_price) (defBody s_price) (defScope s_price) .none kV_price dc_price pm_price an_price cd_price ct_price), sl_price⟩)
    (o_price : PySem.W.codeIn K cd_price "price" = true)
    (k_price : PySem.W.keepIn K (.ref a_price) = true)
    (n_L_cell_at : PySem.W.nsIn K mainGlobals "_law_cell_at" = some (some (.ref a_L_cell_at)))
    (l_L_cell_at : K.lookup a_L_cell_at = some ⟨oc_L_cell_at, od_L_cell_at, .func (PySem.W.fnOf "_law_cell_at" "_law_cell_at" (defArgs s_L_cell_at) (defBody s_L_cell_at) (defScope s_L_cell_at) .none kV_L_cell_at dc_L_cell_at pm_L_cell_at an_L_cell_at cd_L_cell_at ct_L_cell_at), sl_L_cell_at⟩)
    (o_L_cell_at : PySem.W.codeIn K cd_L_cell_at "_law_cell_at" = true)
    (k_L_cell_at : PySem.W.keepIn K (.ref a_L_cell_at) = true)
    (n_L_signs : PySem.W.nsIn K mainGlobals "_law_signs" = some (some (.ref a_L_signs)))
    (l_L_signs : K.lookup a_L_signs = some ⟨oc_L_signs, od_L_signs, .func (PySem.W.fnOf "_law_signs" "_law_signs" (defArgs s_L_signs) (defBody s_L_signs) (defScope s_L_signs) .none kV_L_signs dc_L_signs pm_L_signs an_L_signs cd_L_signs ct_L_signs), sl_L_signs⟩)
    (o_L_signs : PySem.W.codeIn K cd_L_signs "_law_signs" = true)
    (k_L_signs : PySem.W.keepIn K (.ref a_L_signs) = true)
    (n_L_frame : PySem.W.nsIn K mainGlobals "_law_frame" = some (some (.ref a_L_frame)))
    (l_L_frame : K.lookup a_L_frame = some ⟨oc_L_frame, od_L_frame, .func (PySem.W.fnOf "_law_frame" "_law_frame" (defArgs s_L_frame) (defBody s_L_frame) (defScope s_L_frame) .none kV_L_frame dc_L_frame pm_L_frame an_L_frame cd_L_frame ct_L_frame), sl_L_frame⟩)
    (o_L_frame : PySem.W.codeIn K cd_L_frame "_law_frame" = true)
    (k_L_frame : PySem.W.keepIn K (.ref a_L_frame) = true)
    (n_L_text : PySem.W.nsIn K mainGlobals "_law_text" = some (some (.ref a_L_text)))
    (l_L_text : K.lookup a_L_text = some ⟨oc_L_text, od_L_text, .func (PySem.W.fnOf "_law_text" "_law_text" (defArgs s_L_text) (defBody s_L_text) (defScope s_L_text) .none kV_L_text dc_L_text pm_L_text an_L_text cd_L_text ct_L_text), sl_L_text⟩)
    (o_L_text : PySem.W.codeIn K cd_L_text "_law_text" = true)
    (k_L_text : PySem.W.keepIn K (.ref a_L_text) = true)
    (n_L_elders : PySem.W.nsIn K mainGlobals "_law_elders" = some (some (.ref a_L_elders)))
    (l_L_elders : K.lookup a_L_elders = some ⟨oc_L_elders, od_L_elders, .func (PySem.W.fnOf "_law_elders" "_law_elders" (defArgs s_L_elders) (defBody s_L_elders) (defScope s_L_elders) .none kV_L_elders dc_L_elders pm_L_elders an_L_elders cd_L_elders ct_L_elders), sl_L_elders⟩)
    (o_L_elders : PySem.W.codeIn K cd_L_elders "_law_elders" = true)
    (k_L_elders : PySem.W.keepIn K (.ref a_L_elders) = true)
    (n_L_whole : PySem.W.nsIn K mainGlobals "_law_whole" = some (some (.ref a_L_whole)))
    (l_L_whole : K.lookup a_L_whole = some ⟨oc_L_whole, od_L_whole, .func (PySem.W.fnOf "_law_whole" "_law_whole" (defArgs s_L_whole) (defBody s_L_whole) (defScope s_L_whole) .none kV_L_whole dc_L_whole pm_L_whole an_L_whole cd_L_whole ct_L_whole), sl_L_whole⟩)
    (o_L_whole : PySem.W.codeIn K cd_L_whole "_law_whole" = true)
    (k_L_whole : PySem.W.keepIn K (.ref a_L_whole) = true)
    (n_L_divisor : PySem.W.nsIn K mainGlobals "_law_divisor" = some (some (.ref a_L_divisor)))
    (l_L_divisor : K.lookup a_L_divisor = some ⟨oc_L_divisor, od_L_divisor, .func (PySem.W.fnOf "_law_divisor" "_law_divisor" (defArgs s_L_divisor) (defBody s_L_divisor) (defScope s_L_divisor) .none kV_L_divisor dc_L_divisor pm_L_divisor an_L_divisor cd_L_divisor ct_L_divisor), sl_L_divisor⟩)
    (o_L_divisor : PySem.W.codeIn K cd_L_divisor "_law_divisor" = true)
    (k_L_divisor : PySem.W.keepIn K (.ref a_L_divisor) = true)
    (n_L_fraction : PySem.W.nsIn K mainGlobals "_law_fraction" = some (some (.ref a_L_fraction)))
    (l_L_fraction : K.lookup a_L_fraction = some ⟨oc_L_fraction, od_L_fraction, .func (PySem.W.fnOf "_law_fraction" "_law_fraction" (defArgs s_L_fraction) (defBody s_L_fraction) (defScope s_L_fraction) .none kV_L_fraction dc_L_fraction pm_L_fraction an_L_fraction cd_L_fraction ct_L_fraction), sl_L_fraction⟩)
    (o_L_fraction : PySem.W.codeIn K cd_L_fraction "_law_fraction" = true)
    (k_L_fraction : PySem.W.keepIn K (.ref a_L_fraction) = true)
    (n_L_came : PySem.W.nsIn K mainGlobals "_law_came" = some (some (.ref a_L_came)))
    (l_L_came : K.lookup a_L_came = some ⟨oc_L_came, od_L_came, .func (PySem.W.fnOf "_law_came" "_law_came" (defArgs s_L_came) (defBody s_L_came) (defScope s_L_came) .none kV_L_came dc_L_came pm_L_came an_L_came cd_L_came ct_L_came), sl_L_came⟩)
    (o_L_came : PySem.W.codeIn K cd_L_came "_law_came" = true)
    (k_L_came : PySem.W.keepIn K (.ref a_L_came) = true)
    (n_L_worth : PySem.W.nsIn K mainGlobals "_law_worth" = some (some (.ref a_L_worth)))
    (l_L_worth : K.lookup a_L_worth = some ⟨oc_L_worth, od_L_worth, .func (PySem.W.fnOf "_law_worth" "_law_worth" (defArgs s_L_worth) (defBody s_L_worth) (defScope s_L_worth) .none kV_L_worth dc_L_worth pm_L_worth an_L_worth cd_L_worth ct_L_worth), sl_L_worth⟩)
    (o_L_worth : PySem.W.codeIn K cd_L_worth "_law_worth" = true)
    (k_L_worth : PySem.W.keepIn K (.ref a_L_worth) = true)
    (n_L_forms : PySem.W.nsIn K mainGlobals "_law_forms" = some (some (.ref a_L_forms)))
    (l_L_forms : K.lookup a_L_forms = some ⟨oc_L_forms, od_L_forms, .func (PySem.W.fnOf "_law_forms" "_law_forms" (defArgs s_L_forms) (defBody s_L_forms) (defScope s_L_forms) .none kV_L_forms dc_L_forms pm_L_forms an_L_forms cd_L_forms ct_L_forms), sl_L_forms⟩)
    (o_L_forms : PySem.W.codeIn K cd_L_forms "_law_forms" = true)
    (k_L_forms : PySem.W.keepIn K (.ref a_L_forms) = true)
    (n_L_full : PySem.W.nsIn K mainGlobals "_law_full" = some (some (.ref a_L_full)))
    (l_L_full : K.lookup a_L_full = some ⟨oc_L_full, od_L_full, .func (PySem.W.fnOf "_law_full" "_law_full" (defArgs s_L_full) (defBody s_L_full) (defScope s_L_full) .none kV_L_full dc_L_full pm_L_full an_L_full cd_L_full ct_L_full), sl_L_full⟩)
    (o_L_full : PySem.W.codeIn K cd_L_full "_law_full" = true)
    (k_L_full : PySem.W.keepIn K (.ref a_L_full) = true)
    (n_L_plus : PySem.W.nsIn K mainGlobals "_law_plus" = some (some (.ref a_L_plus)))
    (l_L_plus : K.lookup a_L_plus = some ⟨oc_L_plus, od_L_plus, .func (PySem.W.fnOf "_law_plus" "_law_plus" (defArgs s_L_plus) (defBody s_L_plus) (defScope s_L_plus) .none kV_L_plus dc_L_plus pm_L_plus an_L_plus cd_L_plus ct_L_plus), sl_L_plus⟩)
    (o_L_plus : PySem.W.codeIn K cd_L_plus "_law_plus" = true)
    (k_L_plus : PySem.W.keepIn K (.ref a_L_plus) = true)
    (n_L_sum : PySem.W.nsIn K mainGlobals "_law_sum" = some (some (.ref a_L_sum)))
    (l_L_sum : K.lookup a_L_sum = some ⟨oc_L_sum, od_L_sum, .func (PySem.W.fnOf "_law_sum" "_law_sum" (defArgs s_L_sum) (defBody s_L_sum) (defScope s_L_sum) .none kV_L_sum dc_L_sum pm_L_sum an_L_sum cd_L_sum ct_L_sum), sl_L_sum⟩)
    (o_L_sum : PySem.W.codeIn K cd_L_sum "_law_sum" = true)
    (k_L_sum : PySem.W.keepIn K (.ref a_L_sum) = true)
    (n_law : PySem.W.nsIn K mainGlobals "law" = some (some (.ref a_law)))
    (l_law : K.lookup a_law = some ⟨oc_law, od_law, .func (PySem.W.fnOf "law" "law" (defArgs s_law) (defBody s_law) (defScope s_law) .none kV_law dc_law pm_law an_law cd_law ct_law), sl_law⟩)
    (o_law : PySem.W.codeIn K cd_law "law" = true)
    (k_law : PySem.W.keepIn K (.ref a_law) = true)
    (n_Growth : PySem.W.nsIn K mainGlobals "Growth" = some (some (.ref c_Growth)))
    (n_Growth_init : PySem.W.findIn K (.ref c_Growth) "__init__" = some (some (.ref a_Growth_init)))
    (i_Growth_init : PySem.W.isFn K (.ref a_Growth_init) = true)
    (l_Growth_init : K.lookup a_Growth_init = some ⟨oc_Growth_init, od_Growth_init, .func (PySem.W.fnOf "__init__" "Growth.__init__" (defArgs s_Growth_init) (defBody s_Growth_init) (defScope s_Growth_init) .none kV_Growth_init dc_Growth_init pm_Growth_init an_Growth_init cd_Growth_init ct_Growth_init), sl_Growth_init⟩)
    (o_Growth_init : PySem.W.codeIn K cd_Growth_init "Growth.__init__" = true)
    (k_Growth_init : PySem.W.keepIn K (.ref a_Growth_init) = true)
    (n_Growth_entry : PySem.W.findIn K (.ref c_Growth) "entry" = some (some (.ref a_Growth_entry)))
    (i_Growth_entry : PySem.W.isFn K (.ref a_Growth_entry) = true)
    (l_Growth_entry : K.lookup a_Growth_entry = some ⟨oc_Growth_entry, od_Growth_entry, .func (PySem.W.fnOf "entry" "Growth.entry" (defArgs s_Growth_entry) (defBody s_Growth_entry) (defScope s_Growth_entry) .none kV_Growth_entry dc_Growth_entry pm_Growth_entry an_Growth_entry cd_Growth_entry ct_Growth_entry), sl_Growth_entry⟩)
    (o_Growth_entry : PySem.W.codeIn K cd_Growth_entry "Growth.entry" = true)
    (k_Growth_entry : PySem.W.keepIn K (.ref a_Growth_entry) = true)
    (n_Growth_branching : PySem.W.findIn K (.ref c_Growth) "branching" = some (some (.ref a_Growth_branching)))
    (i_Growth_branching : PySem.W.isFn K (.ref a_Growth_branching) = true)
    (l_Growth_branching : K.lookup a_Growth_branching = some ⟨oc_Growth_branching, od_Growth_branching, .func (PySem.W.fnOf "branching" "Growth.branching" (defArgs s_Growth_branching) (defBody s_Growth_branching) (defScope s_Growth_branching) .none kV_Growth_branching dc_Growth_branching pm_Growth_branching an_Growth_branching cd_Growth_branching ct_Growth_branching), sl_Growth_branching⟩)
    (o_Growth_branching : PySem.W.codeIn K cd_Growth_branching "Growth.branching" = true)
    (k_Growth_branching : PySem.W.keepIn K (.ref a_Growth_branching) = true)
    (n_Growth_changes : PySem.W.findIn K (.ref c_Growth) "changes" = some (some (.ref a_Growth_changes)))
    (i_Growth_changes : PySem.W.isFn K (.ref a_Growth_changes) = true)
    (l_Growth_changes : K.lookup a_Growth_changes = some ⟨oc_Growth_changes, od_Growth_changes, .func (PySem.W.fnOf "changes" "Growth.changes" (defArgs s_Growth_changes) (defBody s_Growth_changes) (defScope s_Growth_changes) .none kV_Growth_changes dc_Growth_changes pm_Growth_changes an_Growth_changes cd_Growth_changes ct_Growth_changes), sl_Growth_changes⟩)
    (o_Growth_changes : PySem.W.codeIn K cd_Growth_changes "Growth.changes" = true)
    (k_Growth_changes : PySem.W.keepIn K (.ref a_Growth_changes) = true)
    (n_Growth_weight : PySem.W.findIn K (.ref c_Growth) "weight" = some (some (.ref a_Growth_weight)))
    (i_Growth_weight : PySem.W.isFn K (.ref a_Growth_weight) = true)
    (l_Growth_weight : K.lookup a_Growth_weight = some ⟨oc_Growth_weight, od_Growth_weight, .func (PySem.W.fnOf "weight" "Growth.weight" (defArgs s_Growth_weight) (defBody s_Growth_weight) (defScope s_Growth_weight) .none kV_Growth_weight dc_Growth_weight pm_Growth_weight an_Growth_weight cd_Growth_weight ct_Growth_weight), sl_Growth_weight⟩)
    (o_Growth_weight : PySem.W.codeIn K cd_Growth_weight "Growth.weight" = true)
    (k_Growth_weight : PySem.W.keepIn K (.ref a_Growth_weight) = true)
    (n_Growth_grow : PySem.W.findIn K (.ref c_Growth) "grow" = some (some (.ref a_Growth_grow)))
    (i_Growth_grow : PySem.W.isFn K (.ref a_Growth_grow) = true)
    (l_Growth_grow : K.lookup a_Growth_grow = some ⟨oc_Growth_grow, od_Growth_grow, .func (PySem.W.fnOf "grow" "Growth.grow" (defArgs s_Growth_grow) (defBody s_Growth_grow) (defScope s_Growth_grow) .none kV_Growth_grow dc_Growth_grow pm_Growth_grow an_Growth_grow cd_Growth_grow ct_Growth_grow), sl_Growth_grow⟩)
    (o_Growth_grow : PySem.W.codeIn K cd_Growth_grow "Growth.grow" = true)
    (k_Growth_grow : PySem.W.keepIn K (.ref a_Growth_grow) = true)
    (pg_Growth : PySem.W.plainGet K c_Growth Str.empty = true)
    (hd_Growth : PySem.W.hasDictIn K c_Growth = true)
    (po_Growth : PySem.W.plainOver K c_Growth = true)
    (sa_Growth : PySem.W.findIn K (.ref c_Growth) "__setattr__" = some (some (.builtin "object.__setattr__")))
    (mk_Growth : PySem.W.makesIn K c_Growth = true)
    (kc_Growth : PySem.W.keepIn K (.ref c_Growth) = true)
    (na_Growth_frame : PySem.W.findIn K (.ref c_Growth) "frame" = some none)
    (na_Growth_replaced : PySem.W.findIn K (.ref c_Growth) "replaced" = some none)
    (na_Growth_table : PySem.W.findIn K (.ref c_Growth) "table" = some none)
    (na_Growth_text : PySem.W.findIn K (.ref c_Growth) "text" = some none)
    (n_abs : PySem.W.nsIn K mainGlobals "abs" = some none)
    (n_all : PySem.W.nsIn K mainGlobals "all" = some none)
    (n_bool : PySem.W.nsIn K mainGlobals "bool" = some none)
    (n_int : PySem.W.nsIn K mainGlobals "int" = some none)
    (n_isinstance : PySem.W.nsIn K mainGlobals "isinstance" = some none)
    (n_len : PySem.W.nsIn K mainGlobals "len" = some none)
    (n_list : PySem.W.nsIn K mainGlobals "list" = some none)
    (n_max : PySem.W.nsIn K mainGlobals "max" = some none)
    (n_range : PySem.W.nsIn K mainGlobals "range" = some none)
    (n_reversed : PySem.W.nsIn K mainGlobals "reversed" = some none)
    (n_sum : PySem.W.nsIn K mainGlobals "sum" = some none)
    (n_tuple : PySem.W.nsIn K mainGlobals "tuple" = some none)
    (n_NoFraction : PySem.W.nsIn K mainGlobals "NoFraction" = some (some (.ref c_NoFraction)))
    (n_NoText : PySem.W.nsIn K mainGlobals "NoText" = some (some (.ref c_NoText)))
    (n_NoTree : PySem.W.nsIn K mainGlobals "NoTree" = some (some (.ref c_NoTree)))
    (n_COUNTS : PySem.W.nsIn K mainGlobals "COUNTS" = some (some (.int 0 k_COUNTS)))
    (n_WORTH : PySem.W.nsIn K mainGlobals "WORTH" = some (some (.int 1 k_WORTH)))
    (n_WEIGHT : PySem.W.nsIn K mainGlobals "WEIGHT" = some (some (.int 2 k_WEIGHT)))
    (n_ONE : PySem.W.nsIn K mainGlobals "ONE" = some (some (.ref q_ONE)))
    (lk_ONE : K.lookup q_ONE = some ⟨.type "tuple", od_ONE, .seq #[.int 1 i0_ONE, .int 1 i1_ONE] nn_ONE, sl_ONE⟩)
    (x_NoFraction : PySem.W.excIn K c_NoFraction [.type "ValueError", .type "Exception", .type "BaseException", .type "object"] "ValueError.__new__" = true)
    (zga_NoFraction : PySem.W.findIn K (.ref c_NoFraction) "__getattribute__" = some (some (.builtin "BaseException.__getattribute__")))
    (zgt_NoFraction : PySem.W.findIn K (.ref c_NoFraction) "__getattr__" = some none)
    (zcl_NoFraction : PySem.W.findIn K (.ref c_NoFraction) "__class__" = some (some (.builtin "object.__class__")))
    (zob_NoFraction : PySem.W.mroIn K c_NoFraction (.type "object") = some true)
    (zbe_NoFraction : PySem.W.mroIn K c_NoFraction (.type "BaseException") = some true)
    (x_NoText : PySem.W.excIn K c_NoText [.type "ValueError", .type "Exception", .type "BaseException", .type "object"] "ValueError.__new__" = true)
    (zga_NoText : PySem.W.findIn K (.ref c_NoText) "__getattribute__" = some (some (.builtin "BaseException.__getattribute__")))
    (zgt_NoText : PySem.W.findIn K (.ref c_NoText) "__getattr__" = some none)
    (zcl_NoText : PySem.W.findIn K (.ref c_NoText) "__class__" = some (some (.builtin "object.__class__")))
    (zob_NoText : PySem.W.mroIn K c_NoText (.type "object") = some true)
    (zbe_NoText : PySem.W.mroIn K c_NoText (.type "BaseException") = some true)
    (x_NoTree : PySem.W.excIn K c_NoTree [.type "ValueError", .type "Exception", .type "BaseException", .type "object"] "ValueError.__new__" = true)
    (zga_NoTree : PySem.W.findIn K (.ref c_NoTree) "__getattribute__" = some (some (.builtin "BaseException.__getattribute__")))
    (zgt_NoTree : PySem.W.findIn K (.ref c_NoTree) "__getattr__" = some none)
    (zcl_NoTree : PySem.W.findIn K (.ref c_NoTree) "__class__" = some (some (.builtin "object.__class__")))
    (zob_NoTree : PySem.W.mroIn K c_NoTree (.type "object") = some true)
    (zbe_NoTree : PySem.W.mroIn K c_NoTree (.type "BaseException") = some true)
    : ∃ t, Txt K mg t := by
  have F_is_whole := fun_mk (x := "is_whole") (qual := "is_whole") (st := s_is_whole) l_is_whole o_is_whole k_is_whole
  have F_checked := fun_mk (x := "checked") (qual := "checked") (st := s_checked) l_checked o_checked k_checked
  have F_elders_at := fun_mk (x := "elders_at") (qual := "elders_at") (st := s_elders_at) l_elders_at o_elders_at k_elders_at
  have F_no_counts := fun_mk (x := "no_counts") (qual := "no_counts") (st := s_no_counts) l_no_counts o_no_counts k_no_counts
  have F_greatest_divisor := fun_mk (x := "greatest_divisor") (qual := "greatest_divisor") (st := s_greatest_divisor) l_greatest_divisor o_greatest_divisor k_greatest_divisor
  have F_fraction := fun_mk (x := "fraction") (qual := "fraction") (st := s_fraction) l_fraction o_fraction k_fraction
  have F_plus := fun_mk (x := "plus") (qual := "plus") (st := s_plus) l_plus o_plus k_plus
  have F_times := fun_mk (x := "times") (qual := "times") (st := s_times) l_times o_times k_times
  have F_half := fun_mk (x := "half") (qual := "half") (st := s_half) l_half o_half k_half
  have F_product := fun_mk (x := "product") (qual := "product") (st := s_product) l_product o_product k_product
  have F_share := fun_mk (x := "share") (qual := "share") (st := s_share) l_share o_share k_share
  have F_raised := fun_mk (x := "raised") (qual := "raised") (st := s_raised) l_raised o_raised k_raised
  have F_grown := fun_mk (x := "grown") (qual := "grown") (st := s_grown) l_grown o_grown k_grown
  have F_weight := fun_mk (x := "weight") (qual := "weight") (st := s_weight) l_weight o_weight k_weight
  have F_is_tree_of := fun_mk (x := "is_tree_of") (qual := "is_tree_of") (st := s_is_tree_of) l_is_tree_of o_is_tree_of k_is_tree_of
  have F_is_tree := fun_mk (x := "is_tree") (qual := "is_tree") (st := s_is_tree) l_is_tree o_is_tree k_is_tree
  have F_checked_tree := fun_mk (x := "checked_tree") (qual := "checked_tree") (st := s_checked_tree) l_checked_tree o_checked_tree k_checked_tree
  have F_price_of := fun_mk (x := "price_of") (qual := "price_of") (st := s_price_of) l_price_of o_price_of k_price_of
  have F_price := fun_mk (x := "price") (qual := "price") (st := s_price) l_price o_price k_price
  have F_L_cell_at := fun_mk (x := "_law_cell_at") (qual := "_law_cell_at") (st := s_L_cell_at) l_L_cell_at o_L_cell_at k_L_cell_at
  have F_L_signs := fun_mk (x := "_law_signs") (qual := "_law_signs") (st := s_L_signs) l_L_signs o_L_signs k_L_signs
  have F_L_frame := fun_mk (x := "_law_frame") (qual := "_law_frame") (st := s_L_frame) l_L_frame o_L_frame k_L_frame
  have F_L_text := fun_mk (x := "_law_text") (qual := "_law_text") (st := s_L_text) l_L_text o_L_text k_L_text
  have F_L_elders := fun_mk (x := "_law_elders") (qual := "_law_elders") (st := s_L_elders) l_L_elders o_L_elders k_L_elders
  have F_L_whole := fun_mk (x := "_law_whole") (qual := "_law_whole") (st := s_L_whole) l_L_whole o_L_whole k_L_whole
  have F_L_divisor := fun_mk (x := "_law_divisor") (qual := "_law_divisor") (st := s_L_divisor) l_L_divisor o_L_divisor k_L_divisor
  have F_L_fraction := fun_mk (x := "_law_fraction") (qual := "_law_fraction") (st := s_L_fraction) l_L_fraction o_L_fraction k_L_fraction
  have F_L_came := fun_mk (x := "_law_came") (qual := "_law_came") (st := s_L_came) l_L_came o_L_came k_L_came
  have F_L_worth := fun_mk (x := "_law_worth") (qual := "_law_worth") (st := s_L_worth) l_L_worth o_L_worth k_L_worth
  have F_L_forms := fun_mk (x := "_law_forms") (qual := "_law_forms") (st := s_L_forms) l_L_forms o_L_forms k_L_forms
  have F_L_full := fun_mk (x := "_law_full") (qual := "_law_full") (st := s_L_full) l_L_full o_L_full k_L_full
  have F_L_plus := fun_mk (x := "_law_plus") (qual := "_law_plus") (st := s_L_plus) l_L_plus o_L_plus k_L_plus
  have F_L_sum := fun_mk (x := "_law_sum") (qual := "_law_sum") (st := s_L_sum) l_L_sum o_L_sum k_L_sum
  have F_law := fun_mk (x := "law") (qual := "law") (st := s_law) l_law o_law k_law
  have F_Growth_init := fun_mk (x := "__init__") (qual := "Growth.__init__") (st := s_Growth_init) l_Growth_init o_Growth_init k_Growth_init
  have F_Growth_entry := fun_mk (x := "entry") (qual := "Growth.entry") (st := s_Growth_entry) l_Growth_entry o_Growth_entry k_Growth_entry
  have F_Growth_branching := fun_mk (x := "branching") (qual := "Growth.branching") (st := s_Growth_branching) l_Growth_branching o_Growth_branching k_Growth_branching
  have F_Growth_changes := fun_mk (x := "changes") (qual := "Growth.changes") (st := s_Growth_changes) l_Growth_changes o_Growth_changes k_Growth_changes
  have F_Growth_weight := fun_mk (x := "weight") (qual := "Growth.weight") (st := s_Growth_weight) l_Growth_weight o_Growth_weight k_Growth_weight
  have F_Growth_grow := fun_mk (x := "grow") (qual := "Growth.grow") (st := s_Growth_grow) l_Growth_grow o_Growth_grow k_Growth_grow
  exact ⟨⟨_, _, _, _, _, _, _, _, _, _, _, _, _, _, _, _, _, _, _, _, _, _, _, _, _, _, _, _, _, _, _, _, _, _, _, _, _, _, _, _, _, _, _, _, _, _, _, _, _, _, _, _, _, _, _, _, _, _, _, _, _, _, _, _, _, _, _, _, _, _, _, _, _, _, _, _, _, _, _, _, _, _, _, _, _, _, _, _⟩, ⟨
    F_is_whole, (F_is_whole.binds fun _ _ _ _ _ _ us hl => match us, hl with | [_], _ => rfl), PySem.W.mg_of X G n_is_whole,
    F_checked, (F_checked.binds fun _ _ _ _ _ _ us hl => match us, hl with | [_, _], _ => rfl), PySem.W.mg_of X G n_checked,
    F_elders_at, (F_elders_at.binds fun _ _ _ _ _ _ us hl => match us, hl with | [_, _, _], _ => rfl), PySem.W.mg_of X G n_elders_at,
    F_no_counts, (F_no_counts.binds fun _ _ _ _ _ _ us hl => match us, hl with | [_], _ => rfl), PySem.W.mg_of X G n_no_counts,
    F_greatest_divisor, (F_greatest_divisor.binds fun _ _ _ _ _ _ us hl => match us, hl with | [_, _], _ => rfl), PySem.W.mg_of X G n_greatest_divisor,
    F_fraction, (F_fraction.binds fun _ _ _ _ _ _ us hl => match us, hl with | [_, _], _ => rfl), PySem.W.mg_of X G n_fraction,
    F_plus, (F_plus.binds fun _ _ _ _ _ _ us hl => match us, hl with | [_, _], _ => rfl), PySem.W.mg_of X G n_plus,
    F_times, (F_times.binds fun _ _ _ _ _ _ us hl => match us, hl with | [_, _], _ => rfl), PySem.W.mg_of X G n_times,
    F_half, (F_half.binds fun _ _ _ _ _ _ us hl => match us, hl with | [_], _ => rfl), PySem.W.mg_of X G n_half,
    F_product, (F_product.binds fun _ _ _ _ _ _ us hl => match us, hl with | [_], _ => rfl), PySem.W.mg_of X G n_product,
    F_share, (F_share.binds fun _ _ _ _ _ _ us hl => match us, hl with | [_, _], _ => rfl), PySem.W.mg_of X G n_share,
    F_raised, (F_raised.binds fun _ _ _ _ _ _ us hl => match us, hl with | [_, _], _ => rfl), PySem.W.mg_of X G n_raised,
    F_grown, (F_grown.binds fun _ _ _ _ _ _ us hl => match us, hl with | [_, _], _ => rfl), PySem.W.mg_of X G n_grown,
    F_weight, (F_weight.binds fun _ _ _ _ _ _ us hl => match us, hl with | [_, _], _ => rfl), PySem.W.mg_of X G n_weight,
    F_is_tree_of, (F_is_tree_of.binds fun _ _ _ _ _ _ us hl => match us, hl with | [_, _, _], _ => rfl), PySem.W.mg_of X G n_is_tree_of,
    F_is_tree, (F_is_tree.binds fun _ _ _ _ _ _ us hl => match us, hl with | [_, _], _ => rfl), PySem.W.mg_of X G n_is_tree,
    F_checked_tree, (F_checked_tree.binds fun _ _ _ _ _ _ us hl => match us, hl with | [_, _], _ => rfl), PySem.W.mg_of X G n_checked_tree,
    F_price_of, (F_price_of.binds fun _ _ _ _ _ _ us hl => match us, hl with | [_, _], _ => rfl), PySem.W.mg_of X G n_price_of,
    F_price, (F_price.binds fun _ _ _ _ _ _ us hl => match us, hl with | [_, _], _ => rfl), PySem.W.mg_of X G n_price,
    F_L_cell_at, (F_L_cell_at.binds fun _ _ _ _ _ _ us hl => match us, hl with | [_, _], _ => rfl), PySem.W.mg_of X G n_L_cell_at,
    F_L_signs, (F_L_signs.binds fun _ _ _ _ _ _ us hl => match us, hl with | [_, _], _ => rfl), PySem.W.mg_of X G n_L_signs,
    F_L_frame, (F_L_frame.binds fun _ _ _ _ _ _ us hl => match us, hl with | [_], _ => rfl), PySem.W.mg_of X G n_L_frame,
    F_L_text, (F_L_text.binds fun _ _ _ _ _ _ us hl => match us, hl with | [_, _, _], _ => rfl), PySem.W.mg_of X G n_L_text,
    F_L_elders, (F_L_elders.binds fun _ _ _ _ _ _ us hl => match us, hl with | [_, _, _], _ => rfl), PySem.W.mg_of X G n_L_elders,
    F_L_whole, (F_L_whole.binds fun _ _ _ _ _ _ us hl => match us, hl with | [_], _ => rfl), PySem.W.mg_of X G n_L_whole,
    F_L_divisor, (F_L_divisor.binds fun _ _ _ _ _ _ us hl => match us, hl with | [_, _], _ => rfl), PySem.W.mg_of X G n_L_divisor,
    F_L_fraction, (F_L_fraction.binds fun _ _ _ _ _ _ us hl => match us, hl with | [_, _, _], _ => rfl), PySem.W.mg_of X G n_L_fraction,
    F_L_came, (F_L_came.binds fun _ _ _ _ _ _ us hl => match us, hl with | [_, _], _ => rfl), PySem.W.mg_of X G n_L_came,
    F_L_worth, (F_L_worth.binds fun _ _ _ _ _ _ us hl => match us, hl with | [_, _], _ => rfl), PySem.W.mg_of X G n_L_worth,
    F_L_forms, (F_L_forms.binds fun _ _ _ _ _ _ us hl => match us, hl with | [_, _, _], _ => rfl), PySem.W.mg_of X G n_L_forms,
    F_L_full, (F_L_full.binds fun _ _ _ _ _ _ us hl => match us, hl with | [_, _], _ => rfl), PySem.W.mg_of X G n_L_full,
    F_L_plus, (F_L_plus.binds fun _ _ _ _ _ _ us hl => match us, hl with | [_, _, _], _ => rfl), PySem.W.mg_of X G n_L_plus,
    F_L_sum, (F_L_sum.binds fun _ _ _ _ _ _ us hl => match us, hl with | [_, _, _], _ => rfl), PySem.W.mg_of X G n_L_sum,
    F_law, (F_law.binds fun _ _ _ _ _ _ us hl => match us, hl with | [_], _ => rfl), PySem.W.mg_of X G n_law,
    F_Growth_init, (F_Growth_init.binds fun _ _ _ _ _ _ us hl => match us, hl with | [_, _], _ => rfl), ⟨mk_Growth, n_Growth_init, i_Growth_init, kc_Growth⟩,
    F_Growth_entry, (F_Growth_entry.binds fun _ _ _ _ _ _ us hl => match us, hl with | [_, _], _ => rfl), ⟨n_Growth_entry, i_Growth_entry, k_Growth_entry⟩,
    F_Growth_branching, (F_Growth_branching.binds fun _ _ _ _ _ _ us hl => match us, hl with | [_, _, _], _ => rfl), ⟨n_Growth_branching, i_Growth_branching, k_Growth_branching⟩,
    F_Growth_changes, (F_Growth_changes.binds fun _ _ _ _ _ _ us hl => match us, hl with | [_, _], _ => rfl), ⟨n_Growth_changes, i_Growth_changes, k_Growth_changes⟩,
    F_Growth_weight, (F_Growth_weight.binds fun _ _ _ _ _ _ us hl => match us, hl with | [_], _ => rfl), ⟨n_Growth_weight, i_Growth_weight, k_Growth_weight⟩,
    F_Growth_grow, (F_Growth_grow.binds fun _ _ _ _ _ _ us hl => match us, hl with | [_, _], _ => rfl), ⟨n_Growth_grow, i_Growth_grow, k_Growth_grow⟩,
    ⟨pg_Growth, hd_Growth, po_Growth, sa_Growth⟩,
    na_Growth_frame,
    na_Growth_replaced,
    na_Growth_table,
    na_Growth_text,
    PySem.W.mg_none_of X G n_abs,
    PySem.W.mg_none_of X G n_all,
    PySem.W.mg_none_of X G n_bool,
    PySem.W.mg_none_of X G n_int,
    PySem.W.mg_none_of X G n_isinstance,
    PySem.W.mg_none_of X G n_len,
    PySem.W.mg_none_of X G n_list,
    PySem.W.mg_none_of X G n_max,
    PySem.W.mg_none_of X G n_range,
    PySem.W.mg_none_of X G n_reversed,
    PySem.W.mg_none_of X G n_sum,
    PySem.W.mg_none_of X G n_tuple,
    PySem.W.mg_of X G n_NoFraction,
    PySem.W.mg_of X G n_NoText,
    PySem.W.mg_of X G n_NoTree,
    PySem.W.mg_of X G n_Growth,
    PySem.W.mg_of X G n_COUNTS,
    PySem.W.mg_of X G n_WORTH,
    PySem.W.mg_of X G n_WEIGHT,
    PySem.W.mg_of X G n_ONE, ⟨_, _, _, lk_ONE, rfl, rfl, (by show 2 ≤ sizeLine; decide), (.cons ⟨_, rfl⟩ (.cons ⟨_, rfl⟩ .nil))⟩,
    x_NoFraction, ⟨zga_NoFraction, zgt_NoFraction, zcl_NoFraction, zob_NoFraction, zbe_NoFraction, cls_of_mro zob_NoFraction⟩,
    x_NoText, ⟨zga_NoText, zgt_NoText, zcl_NoText, zob_NoText, zbe_NoText, cls_of_mro zob_NoText⟩,
    x_NoTree, ⟨zga_NoTree, zgt_NoTree, zcl_NoTree, zob_NoTree, zbe_NoTree, cls_of_mro zob_NoTree⟩,
    fun s v => .of_eq rfl⟩⟩
section
variable {P : Program} {w : World} {K : PySem.W.Frag} {mg : Str → Option Value} {base : Heap} {t : Adr}
seal L2.PE L2.PA L2.PS L2.PSs L2.PT L2.PW L2.PG L2.PGs L2.PI L2.PIfs L2.PF L2.PFs L2.PO
local macro_rules | `(tactic| array_mem_dec) => `(tactic| ((first | show SqL ‹PySem.W.Frag› _ _ _ | show SqT ‹PySem.W.Frag› _ _ _ | skip); first | with_reducible assumption | with_reducible exact upd_same | with_reducible exact SqT.of upd_same | with_reducible exact SqL.of upd_same | with_reducible exact Same.refl _ | (with_reducible apply new_at; (focus with_reducible assumption); (focus array_mem_dec)) | (with_reducible apply new_tup; (focus with_reducible assumption); (focus array_mem_dec)) | (with_reducible apply new_lst; (focus with_reducible assumption); (focus array_mem_dec)) | (with_reducible apply new_same; (focus with_reducible assumption); (focus array_mem_dec)) | (with_reducible apply ne_at; (focus with_reducible assumption); (focus array_mem_dec)) | (with_reducible apply ne_tup; (focus with_reducible assumption); (focus array_mem_dec)) | (with_reducible apply ne_lst; (focus with_reducible assumption); (focus array_mem_dec)) | (with_reducible apply over_same; (focus with_reducible assumption); (focus array_mem_dec)) | (with_reducible apply same_at; (focus with_reducible assumption); (focus array_mem_dec)) | (with_reducible apply same_tup; (focus with_reducible assumption); (focus array_mem_dec)) | (with_reducible apply same_lst; (focus with_reducible assumption); (focus array_mem_dec)) | (with_reducible apply SqT.of; (focus array_mem_dec)) | (with_reducible apply SqL.of; (focus array_mem_dec))))
local macro_rules | `(tactic| array_get_dec) => `(tactic| first
  | refine ⟨_, rfl, ?_⟩
  | refine ⟨_, _, rfl, rfl, cdivK (by decide) (by decide), ?_⟩
  | refine ⟨_, _, rfl, rfl, (by show (0 : Int) < _; decide), ?_⟩
  | refine ⟨_, _, rfl, rfl, ⟨by decide, by decide, by decide⟩, ?_⟩
  | refine Or.inl ⟨_, _, rfl, rfl, mulL (by decide) (by decide), ?_⟩
  | refine Or.inl ⟨_, _, rfl, rfl, mulR (by decide) (by decide), ?_⟩
  | refine ⟨_, _, rfl, rfl, ?_⟩
  | refine Or.inl ⟨_, _, rfl, rfl, ?_⟩
  | refine Or.inl ⟨rfl, ?_⟩
  | refine Or.inr (Or.inl ⟨_, _, _, _, rfl, rfl, (by array_mem_dec), (by rfl), ?_⟩)
  | refine Or.inl ⟨_, _, _, _, rfl, rfl, (by array_mem_dec), (by rfl), ?_⟩
  | refine ⟨_, _, rfl, Or.inr ⟨_, (by array_mem_dec), rfl⟩, ?_⟩
  | refine ⟨_, _, rfl, Or.inl ⟨_, (by array_mem_dec), rfl⟩, ?_⟩
  | refine ⟨_, _, rfl, lenvS (by first | assumption | (rw [sizeLine_eq]; omega)), ?_⟩
  | refine Or.inr (Or.inl ⟨_, _, rfl, rfl, (by simp only [List.length_append, List.length_cons, List.length_nil, List.length_take, List.length_drop, sizeLine_eq]; omega), ?_⟩)
  | refine Or.inr ⟨_, _, rfl, rfl, (by simp only [List.length_append, List.length_cons, List.length_nil, List.length_take, List.length_drop, sizeLine_eq]; omega), ?_⟩
  | refine ⟨_, _, rfl, ?_⟩
  | refine ⟨_, _, _, rfl, ?_⟩)
def spWhole (K : PySem.W.Frag) : Sp := fun vs H Q _ => ∃ x ty b1 b2, vs = [x] ∧ TyOf K H x ty ∧ PySem.W.kitOne K ty (.type "int") = some b1 ∧ PySem.W.kitOne K ty (.type "bool") = some b2 ∧ Q (.bl (b1 && !b2)) H
theorem ok_is_whole (T : Txt K mg t) : FnOk P w K mg base (CX1 P w) 1 t.a_is_whole t.fd_is_whole ["thing"] (spWhole K) := by
  refine T.F_is_whole.okn (k := 0) sc_is_whole (fun vs H Q E h => ?_) (fun cdv A outer s H vs Q E hr h => ?_)
  · obtain ⟨x, ty, b1, b2, rfl, _⟩ := h; rfl
  obtain ⟨x, ty, b1, b2, rfl, hty, e1, e2, q⟩ := h
  refine ⟨_, (pss_one (ps_ret (pe_and (pe_callB isiAny rfl T.m_isinstance bt_isinstance (PAs.h (pas_cons (pv 0) (pas_cons (pe_bltn (v := .ty "int") rfl T.m_int bt_int rfl) pas_nil)))) (pe_one (pe_not (pe_callB isiAny rfl T.m_isinstance bt_isinstance (PAs.h (pas_cons (pv 0) (pas_cons (pe_bltn (v := .ty "bool") rfl T.m_bool bt_bool rfl) pas_nil))))))))), ?_⟩
  refine ⟨_, rfl, .inl ⟨x, ty, _, b1, rfl, hty, e1, b1, rfl, ?_⟩⟩
  cases b1 with
  | false => exact iteF q
  | true => exact iteT ⟨_, rfl, .inl ⟨x, ty, _, b2, rfl, hty, e2, b2, rfl, q⟩⟩
def spGcd : Sp := fun vs H Q _ => ∃ a b : Int, vs = [.int a, .int b] ∧ 0 ≤ a ∧ 0 ≤ b ∧ Q (.int (gcdI a b)) H
theorem neI {b : Int} (h : b ≠ 0) : (!decide (V.int b = V.int 0)) = true := by
  have : ¬ V.int b = V.int 0 := fun z => h (V.int.inj z)
  rw [decide_eq_false this]; rfl
theorem ok_greatest_divisor (T : Txt K mg t) : FnOk P w K mg base (CX1 P w) 1 t.a_greatest_divisor t.fd_greatest_divisor ["one", "other"] spGcd := by
  refine T.F_greatest_divisor.okn (k := 0) sc_greatest_divisor (fun vs H Q E h => ?_) (fun cdv A outer s H vs Q E hr h => ?_)
  · obtain ⟨a, b, rfl, _⟩ := h; rfl
  obtain ⟨a, b, rfl, ha, hb, q⟩ := h
  refine ⟨_, (pss_cons (ps_while PassesOwn.never (pt_cmpR (oNeN (hr.units0)) (pv 1) pe_int (nomark _)) (pss_cons (ps_set (i := 2) sc_greatest_divisor.nd rfl (Or.inl rfl) (pe_op op_mod (pv 0) (pv 1)))
    (pss_cons (ps_set (i := 0) sc_greatest_divisor.nd rfl (Or.inl rfl) (pv 1))
    (pss_one (ps_set (i := 1) sc_greatest_divisor.nd rfl (Or.inl rfl) (pv 2))))))
    (pss_one (ps_ret (pv 0)))), ?_⟩
  refine while_by (fun σ H' => ∃ a' b' r, σ = [some (.int a'), some (.int b'), r] ∧ 0 ≤ a' ∧ 0 ≤ b' ∧ gcdI a' b' = gcdI a b ∧ H' = H) (fun σ _ => match σ with | [_, some (.int b'), _] => b'.natAbs | _ => 0) ⟨a, b, none, rfl, ha, hb, rfl, rfl⟩ ?_ ?_
  · rintro _ _ ⟨a', b', r, rfl, h1, h2, h3, rfl⟩
    refine ⟨_, rfl, .inl ⟨rfl, _, rfl, ?_⟩⟩
    by_cases z : b' = 0
    · subst z
      refine iteF ⟨_, rfl, ?_⟩
      rw [gcdI_zero a' h1] at h3
      rw [h3]; exact q
    · rw [neI z]
      refine iteT ⟨_, rfl, _, rfl, _, _, rfl, rfl, by omega, ?_⟩
      refine ⟨_, rfl, _, rfl, ⟨b', a' % b', _, rfl, h2, Int.emod_nonneg _ z, ?_, rfl⟩, ?_⟩
      · rw [gcdI_step h1 (by omega)]; exact h3
      · show (a' % b').natAbs < b'.natAbs
        have := Int.emod_nonneg a' z
        have := Int.emod_lt_of_pos a' (show 0 < b' by omega)
        omega
  · rintro σ1 H1 Q1 Q2 hq ⟨v, e, z⟩
    refine ⟨v, e, ?_⟩
    rcases z with ⟨s, k, e2, z⟩ | ⟨a1, b1, xs, ys, h1, h2, h3, h4, h5, h6, k, hk, z⟩ | ⟨a1, b1, xs, ys, h1, h2, h3, h4, h5, h6, k, hk, z⟩
    · exact .inl ⟨s, k, e2, hq _ _ z⟩
    · exact .inr (.inl ⟨a1, b1, xs, ys, h1, h2, h3, h4, h5, h6, k, hk, hq _ _ z⟩)
    · exact .inr (.inr ⟨a1, b1, xs, ys, h1, h2, h3, h4, h5, h6, k, hk, hq _ _ z⟩)
def spFr (C : Addr) : Sp := fun vs H Q E => ∃ a b : Int, vs = [.int a, .int b] ∧ (b = 0 → E (.ref C) none H) ∧ (b ≠ 0 → b.natAbs < 2 ^ 8999 ∧ ∀ p, H p = none → Q (.ref p) (upd H p (.tup [.int (num a b), .int (den a b)])))
theorem ok_fraction (T : Txt K mg t) : FnOk P w K mg base (CX1 P w) 2 t.a_fraction t.fd_fraction ["top", "bottom"] (spFr t.c_NoFraction) := by
  refine T.F_fraction.okx (k := 1) sc_fraction (fun vs H Q E h => ?_) (fun cdv A outer s H vs Q E hr h => ?_)
  · obtain ⟨a, b, rfl, _⟩ := h; rfl
  obtain ⟨a, b, rfl, h0, h1⟩ := h
  have G_is_whole := ok_is_whole (P := P) (w := w) (base := base) T
  have G_greatest_divisor := ok_greatest_divisor (P := P) (w := w) (base := base) T
  refine ⟨_, (pss_cons (ps_if (PW.pt (pw_or (pt_not (pt_val (pe_call G_is_whole hr rfl T.m_is_whole T.F_is_whole.kp T.b_is_whole .nil pass1 (pa_cons (pv 0) pa_nil)))) (pw_or1 (pt_not (pt_val (pe_call G_is_whole hr rfl T.m_is_whole T.F_is_whole.kp T.b_is_whole .nil pass1 (pa_cons (pv 1) pa_nil))))))) (pss_one (ps_raise raises1 rfl rfl T.m_NoFraction T.x_NoFraction PySem.F.excBase_ValueError (pa_cons pe_str pa_nil))) pss_nil)
    (pss_cons (ps_if (pt_cmpR (oEqA (hr.units0)) (pv 1) pe_int (nomark _)) (pss_one (ps_raise raises1 rfl rfl T.m_NoFraction T.x_NoFraction PySem.F.excBase_ValueError (pa_cons pe_str pa_nil))) pss_nil)
    (pss_cons (ps_set (i := 2) sc_fraction.nd rfl (Or.inl rfl) (pe_call G_greatest_divisor hr rfl T.m_greatest_divisor T.F_greatest_divisor.kp T.b_greatest_divisor .nil pass1 (PAs.h (pas_cons (pe_callB call_abs rfl T.m_abs bt_abs (pa_cons (pv 0) pa_nil)) (pas_cons (pe_callB call_abs rfl T.m_abs bt_abs (pa_cons (pv 1) pa_nil)) pas_nil)))))
    (pss_cons (ps_if (pt_cmpR oLt (pv 1) pe_int (nomark _)) (pss_one (ps_set (i := 2) sc_fraction.nd rfl (Or.inl rfl) (pe_un un_neg (pv 2)))) pss_nil)
    (pss_one (ps_ret (pe_tup (PAs.h (pas_cons (pe_op op_fdivL (pv 0) (pv 2)) (pas_cons (pe_op op_fdivL (pv 1) (pv 2)) pas_nil)))))))))), ?_⟩
  refine ⟨_, rfl, ⟨_, _, true, false, rfl, .int _, kit_same K _, kit_int_bool K, true, rfl, iteF ⟨_, rfl, ⟨_, _, true, false, rfl, .int _, kit_same K _, kit_int_bool K, true, rfl, iteF ?_⟩⟩⟩⟩
  refine ⟨_, rfl, .inl ⟨rfl, _, rfl, ?_⟩⟩
  by_cases z : b = 0
  · subst z
    exact iteT ⟨by decide, h0 rfl⟩
  obtain ⟨hb, q⟩ := h1 z
  have gp := gcdI_pos (a := a) z
  have gl := gcdI_le (a := a) z
  rw [decide_eq_false (show ¬ V.int b = V.int 0 from fun e => z (V.int.inj e))]
  refine iteF ⟨_, rfl, _, rfl, _, rfl, _, rfl, _, _, rfl, by split <;> omega, by split <;> omega, ?_⟩
  rw [gcdI_abs]
  refine ⟨_, rfl, .inl ⟨_, _, rfl, rfl, _, rfl, ?_⟩⟩
  have last : ∀ d : Int, d = sgn b * gcdI a b → (tRet (tTup (tCons (tOp (rI CDivL fun i j => V.int (i.fdiv j)) (tVar 0) (tVar 2)) (tCons (tOp (rI CDivL fun i j => V.int (i.fdiv j)) (tVar 1) (tVar 2)) tNil)))) { nx := fun _ H' => Q .non H', rt := Q } [some (.int a), some (.int b), some (.int d)] H := by
    intro d hd
    have dn : d ≠ 0 ∧ d.natAbs < 2 ^ 8999 := by
      have : d.natAbs = (gcdI a b).natAbs := by
        rw [hd]; unfold sgn; split <;> omega
      refine ⟨by omega, ?_⟩
      rw [this]; exact Nat.lt_of_le_of_lt gl hb
    refine ⟨_, rfl, _, rfl, _, _, rfl, rfl, dn, _, rfl, _, rfl, _, _, rfl, rfl, dn, (by show 2 ≤ sizeLine; decide), fun p hp => ?_⟩
    rw [hd]; exact q p hp
  by_cases y : b < 0
  · rw [decide_eq_true y]
    refine iteT ⟨_, rfl, _, rfl, ?_⟩
    exact last _ (by unfold sgn; rw [if_pos y]; omega)
  · rw [decide_eq_false y]
    refine iteF ?_
    exact last _ (by unfold sgn; rw [if_neg y]; omega)
theorem ok_L_whole (T : Txt K mg t) : FnOk P w K mg base (CX1 P w) 1 t.a_L_whole t.fd_L_whole ["found"] (spWhole K) := by
  refine T.F_L_whole.okn (k := 0) sc_L_whole (fun vs H Q E h => ?_) (fun cdv A outer s H vs Q E hr h => ?_)
  · obtain ⟨x, ty, b1, b2, rfl, _⟩ := h; rfl
  obtain ⟨x, ty, b1, b2, rfl, hty, e1, e2, q⟩ := h
  refine ⟨_, (pss_one (ps_ret (pe_and (pe_callB isiAny rfl T.m_isinstance bt_isinstance (PAs.h (pas_cons (pv 0) (pas_cons (pe_bltn (v := .ty "int") rfl T.m_int bt_int rfl) pas_nil)))) (pe_one (pe_not (pe_callB isiAny rfl T.m_isinstance bt_isinstance (PAs.h (pas_cons (pv 0) (pas_cons (pe_bltn (v := .ty "bool") rfl T.m_bool bt_bool rfl) pas_nil))))))))), ?_⟩
  refine ⟨_, rfl, .inl ⟨x, ty, _, b1, rfl, hty, e1, b1, rfl, ?_⟩⟩
  cases b1 with
  | false => exact iteF q
  | true => exact iteT ⟨_, rfl, .inl ⟨x, ty, _, b2, rfl, hty, e2, b2, rfl, q⟩⟩
theorem gcdI_emod {a b : Int} (hb : 0 < b) : gcdI b (a % b) = gcdI a b := by
  unfold gcdI
  congr 1
  show Int.gcd b (a % b) = Int.gcd a b
  rw [Int.gcd_comm b]
  have := Int.gcd_add_mul_right_left b (a % b) (a / b)
  rw [← this, Int.add_comm, Int.mul_comm, Int.mul_ediv_add_emod]
def spDiv : Sp := fun vs H Q _ => ∃ a b : Int, vs = [.int a, .int b] ∧ 0 < b ∧ Q (.int (gcdI a b)) H
theorem ok_L_divisor (T : Txt K mg t) : FnOk P w K mg base (CX1 P w) 1 t.a_L_divisor t.fd_L_divisor ["one", "other"] spDiv := by
  refine T.F_L_divisor.okn (k := 0) sc_L_divisor (fun vs H Q E h => ?_) (fun cdv A outer s H vs Q E hr h => ?_)
  · obtain ⟨a, b, rfl, _⟩ := h; rfl
  obtain ⟨a, b, rfl, hb, q⟩ := h
  refine ⟨_, (pss_cons (ps_while PassesOwn.never (pt_cmpR (oNeN (hr.units0)) (pv 1) pe_int (nomark _)) (pss_one (ps_par (i := 0) (j := 1) rfl sc_L_divisor.nd rfl rfl (by decide) rfl rfl (PAs.h (pas_cons (pv 1) (pas_cons (pe_op op_mod (pv 0) (pv 1)) pas_nil))) (by rfl))))
    (pss_one (ps_ret (pv 0)))), ?_⟩
  refine while_by (fun σ H' => ∃ a' b', σ = [some (.int a'), some (.int b')] ∧ 0 ≤ b' ∧ (b' = 0 → 0 ≤ a') ∧ gcdI a' b' = gcdI a b ∧ H' = H) (fun σ _ => match σ with | [_, some (.int b')] => b'.natAbs | _ => 0)
    ⟨a, b, rfl, by omega, fun z => by omega, rfl, rfl⟩ ?_ ?_
  · rintro _ _ ⟨a', b', rfl, h1, h2, h3, rfl⟩
    repeat array_get_dec
    refine ifn2 (fun z => ?_) (fun z => ?_)
    · have z' : b' ≠ 0 := fun e => z (congrArg _ e)
      refine ⟨_, rfl, _, rfl, _, rfl, _, _, rfl, rfl, by omega, _, _, rfl, ⟨b', a' % b', rfl, Int.emod_nonneg _ z', fun _ => h1, ?_, rfl⟩, ?_⟩
      · rw [gcdI_emod (by omega)]; exact h3
      · show (a' % b').natAbs < b'.natAbs
        have := Int.emod_nonneg a' z'
        have := Int.emod_lt_of_pos a' (show 0 < b' by omega)
        omega
    · have z' : b' = 0 := V.int.inj z
      subst z'
      refine ⟨_, rfl, ?_⟩
      rw [gcdI_zero a' (h2 rfl)] at h3
      rw [h3]; exact q
  · rintro σ1 H1 Q1 Q2 hq ⟨v, e, z⟩
    refine ⟨v, e, ?_⟩
    rcases z with ⟨s, k, e2, z⟩ | ⟨a1, b1, xs, ys, h1, h2, h3, h4, h5, h6, k, hk, z⟩ | ⟨a1, b1, xs, ys, h1, h2, h3, h4, h5, h6, k, hk, z⟩
    · exact .inl ⟨s, k, e2, hq _ _ z⟩
    · exact .inr (.inl ⟨a1, b1, xs, ys, h1, h2, h3, h4, h5, h6, k, hk, hq _ _ z⟩)
    · exact .inr (.inr ⟨a1, b1, xs, ys, h1, h2, h3, h4, h5, h6, k, hk, hq _ _ z⟩)
theorem at_ints {ns : List Int} {k : Int} (h0 : 0 ≤ k) (h : k < (ns.length : Int)) : ∃ v : Int, v ∈ ns ∧ atI (ns.map V.int) k = some (.int v) := by
  have hk : k.toNat < ns.length := by omega
  have q : atI (ns.map V.int) ((k.toNat : Nat) : Int) = some (.int ns[k.toNat]) := atI_nat (by rw [List.getElem?_map, List.getElem?_eq_getElem hk] <;> rfl)
  rw [show ((k.toNat : Nat) : Int) = k by omega] at q
  exact ⟨_, List.getElem_mem hk, q⟩
def cellN (ns : List Int) (k : Int) : Int := ns.getD k.toNat 0
theorem cellN_small {ns : List Int} (hb : ∀ n ∈ ns, Small n) (k : Int) : Small (cellN ns k) := by
  unfold cellN
  rw [List.getD_eq_getElem?_getD]
  cases h : ns[k.toNat]? with
  | none => exact small_zero
  | some v => exact hb v (List.mem_of_getElem? h)
def spCell (K : PySem.W.Frag) : Sp := fun vs H Q _ => ∃ (a : Addr) (ns : List Int) (k : Int), vs = [.ref a, .int k] ∧ SqL K H a (ns.map V.int) ∧ 0 ≤ k ∧ Q (.int (cellN ns k)) H
theorem ok_L_cell_at (T : Txt K mg t) : FnOk P w K mg base (CX1 P w) 1 t.a_L_cell_at t.fd_L_cell_at ["script", "k"] (spCell K) := by
  refine T.F_L_cell_at.okn (k := 0) sc_L_cell_at (fun vs H Q E h => ?_) (fun cdv A outer s H vs Q E hr h => ?_)
  · obtain ⟨a, ns, k, rfl, _⟩ := h; rfl
  obtain ⟨a, ns, k, rfl, hS, h0, q⟩ := h
  refine ⟨_, (pss_cons (ps_if (pt_cmpR oLt (pv 1) (pe_callB call_len rfl T.m_len bt_len (pa_cons (pv 0) pa_nil)) (nomark _)) (pss_one (ps_ret (pe_ix ixAny (pv 0) (pv 1) (fun _ _ => rfl)))) pss_nil)
    (pss_one (ps_ret pe_int))), ?_⟩
  repeat array_get_dec
  refine if2 (fun c => ?_) (fun c => ?_)
  · rw [List.length_map] at c
    have hk : k.toNat < ns.length := by omega
    have e : atI (ns.map V.int) ((k.toNat : Nat) : Int) = some (.int ns[k.toNat]) := atI_nat (by rw [List.getElem?_map, List.getElem?_eq_getElem hk] <;> rfl)
    rw [show ((k.toNat : Nat) : Int) = k by omega] at e
    refine ⟨_, rfl, _, rfl, .inl ⟨_, _, _, _, rfl, rfl, hS, e, ?_⟩⟩
    unfold cellN at q
    rw [List.getD_eq_getElem?_getD, List.getElem?_eq_getElem hk] at q; exact q
  · rw [List.length_map] at c
    unfold cellN at q
    rw [List.getD_eq_getElem?_getD, List.getElem?_eq_none (by omega)] at q; exact q
def cutN (ns : List Int) (lo hi : Option Int) : List Int := (ns.drop (HT.sIx ns.length 0 lo)).take (HT.sIx ns.length ns.length hi - HT.sIx ns.length 0 lo)
theorem cut_ints (ns : List Int) (lo hi : Option Int) : cutV (ns.map V.int) lo hi = (cutN ns lo hi).map V.int := by
  unfold cutV cutN
  rw [List.length_map, List.map_take, List.map_drop]
theorem cut_mid (l : List Nat) {a b : Nat} (h1 : a ≤ b) (h2 : b ≤ l.length) : cutL l (some (a : Int)) (some (b : Int)) = (l.drop a).take (b - a) := by
  unfold cutL
  have e : ∀ (k d : Nat), k ≤ l.length → HT.sIx l.length d (some (k : Int)) = k := fun k d hk => by
    unfold HT.sIx
    simp only
    split <;> (try split) <;> omega
  rw [e a 0 (by omega), e b l.length h2]
theorem sign_at {l : List Nat} {i : Nat} {x : V} (h : (l.map fun c => vt [c])[i]? = some x) : ∃ c, l[i]? = some c ∧ x = vt [c] := by
  rw [List.getElem?_map] at h
  cases q : l[i]? with
  | none => rw [q] at h; cases h
  | some c => rw [q] at h; exact ⟨c, rfl, (Option.some.inj h).symm⟩
theorem int_at {ns : List Int} {i : Nat} {x : V} (h : (ns.map V.int)[i]? = some x) : ∃ n, ns[i]? = some n ∧ x = .int n := by
  rw [List.getElem?_map] at h
  cases q : ns[i]? with
  | none => rw [q] at h; cases h
  | some c => rw [q] at h; exact ⟨c, rfl, (Option.some.inj h).symm⟩
theorem at_mod {α : Type} (xs : List α) (hx : 0 < xs.length) (n : Int) : ∃ v, v ∈ xs ∧ atI xs (n % (xs.length : Int)) = some v := by
  have m1 := Int.emod_nonneg n (show (xs.length : Int) ≠ 0 by omega)
  have m2 := Int.emod_lt_of_pos n (show (0 : Int) < xs.length by omega)
  obtain ⟨j, hj⟩ : ∃ j : Nat, n % (xs.length : Int) = (j : Int) := ⟨_, (Int.toNat_of_nonneg m1).symm⟩
  have hl : j < xs.length := by omega
  rw [hj]
  exact ⟨xs[j], List.getElem_mem hl, atI_nat (List.getElem?_eq_getElem hl)⟩
theorem at_back {α : Type} (xs : List α) {k : Int} (h0 : 0 < k) (h : k ≤ xs.length) : ∃ v, v ∈ xs ∧ atI xs (-k) = some v := by
  have hl : xs.length - k.toNat < xs.length := by omega
  refine ⟨xs[xs.length - k.toNat], List.getElem_mem hl, ?_⟩
  unfold atI ixN
  rw [if_neg (by omega), if_pos (by omega)]
  show xs[(-k + (xs.length : Int)).toNat]? = _
  rw [show (-k + (xs.length : Int)).toNat = xs.length - k.toNat by omega, List.getElem?_eq_getElem hl]
theorem ite2' {c A B : Prop} [Decidable c] (h2 : ¬ c → B) (h1 : c → A) : if c then A else B := ite2 h1 h2
theorem with_rest {F G S : Int → Prop} (k : ∀ n0, S n0 → (∀ n, F n) → G n0) (r : ∀ n, F n) : ∀ n0, S n0 → G n0 := fun n0 h => k n0 h r
theorem fdiv_small {c j : Int} (hj : 0 < j) (h : Small c) : Small (c.fdiv j) := by
  refine h.le ?_
  rw [Int.fdiv_eq_ediv_of_nonneg _ (by omega)]
  exact Int.natAbs_ediv_le_natAbs ..
theorem small_bits {c : Int} (h : Small c) : Builtin.Int.intBits c ≤ 4000000 := Nat.le_trans h (by decide)
def signs : List Nat := ((List.range 95).map (· + 32)).filter (· != 37)
theorem signs_len : signs.length = 94 := by decide +kernel
theorem signs_nodup : signs.Nodup := by decide +kernel
theorem signs_lt : ∀ c ∈ signs, 32 ≤ c ∧ c < 127 ∧ c ≠ 37 := by decide +kernel
structure Drawn (k : Nat) (L S : List Nat) : Prop where
  len : L.length = k
  all : (L ++ S).Perm signs
theorem Drawn.start : Drawn 0 [] signs := ⟨rfl, .refl _⟩
theorem Drawn.left {k : Nat} {L S : List Nat} (d : Drawn k L S) : S.length + k = 94 := by
  have := d.all.length_eq
  rw [List.length_append, signs_len, d.len] at this
  omega
theorem Drawn.next {k : Nat} {L S : List Nat} (d : Drawn k L S) {j c : Nat} (h : S[j]? = some c) : Drawn (k + 1) (L ++ [c]) (S.take j ++ S.drop (j + 1)) := by
  obtain ⟨hj, e⟩ := List.getElem?_eq_some_iff.mp h
  refine ⟨by rw [List.length_append, d.len]; rfl, ?_⟩
  have p : (c :: (S.take j ++ S.drop (j + 1))).Perm S := by
    have e2 : S.take j ++ c :: S.drop (j + 1) = S := by rw [← e, ← List.drop_eq_getElem_cons hj, List.take_append_drop]
    conv => rhs; rw [← e2]
    exact List.perm_middle.symm
  rw [List.append_assoc]
  exact (List.Perm.append_left L p).trans d.all
theorem Drawn.nodup {k : Nat} {L S : List Nat} (d : Drawn k L S) : L.Nodup := (List.nodup_append.mp (d.all.nodup_iff.mpr signs_nodup)).1
theorem Drawn.mem {k : Nat} {L S : List Nat} (d : Drawn k L S) : ∀ c ∈ L, c ∈ signs := fun c hc => d.all.mem_iff.mp (List.mem_append_left _ hc)
theorem ofString_nil : Str.ofString "" = tx [] := by decide +kernel
def spSigns : Sp := fun vs H Q _ => ∃ c m : Int, vs = [.int c, .int m] ∧ Small c ∧ 0 ≤ m ∧ m ≤ 6 ∧ ∀ L S, Drawn m.toNat L S → Q (vt L) H
theorem ok_L_signs (T : Txt K mg t) : FnOk P w K mg base (CX1 P w) 1 t.a_L_signs t.fd_L_signs ["cell", "many"] spSigns := by
  refine T.F_L_signs.okn (k := 0) sc_L_signs (fun vs H Q E h => ?_) (fun cdv A outer s H vs Q E hr h => ?_)
  · obtain ⟨c, m, rfl, _⟩ := h; rfl
  obtain ⟨c, m, rfl, hs, hm0, hm6, q⟩ := h
  refine ⟨_, (pss_cons (ps_set (i := 2) sc_L_signs.nd rfl (Or.inl rfl) pe_str)
    (pss_cons (ps_set (i := 2) sc_L_signs.nd rfl (Or.inl rfl) (pe_op oAddN (pv 2) pe_str))
    (pss_cons (ps_set (i := 3) sc_L_signs.nd rfl (Or.inl rfl) (pe_op op_fdivL (pv 0) pe_int))
    (pss_cons (ps_if (pt_cmpR (oEqA (hr.units0)) (pe_op op_mod (pv 0) pe_int) pe_int (nomark _)) (pss_one (ps_set (i := 3) sc_L_signs.nd rfl (Or.inl rfl) (pe_op oAddN (pe_op oMulN (pv 3) (pe_op op_pow pe_int pe_int)) pe_int))) pss_nil)
    (pss_cons (ps_set (i := 4) sc_L_signs.nd rfl (Or.inl rfl) pe_str)
    (pss_cons (ps_for PassesOwn.never rfl (pi_range1 rfl T.m_range (pa_cons (pv 1) pa_nil)) (pg_name (i := 5) sc_L_signs.nd rfl (Or.inl rfl)) (pss_cons (ps_set (i := 6) sc_L_signs.nd rfl (Or.inl rfl) (pe_op op_mod (pv 3) (pe_callB call_len rfl T.m_len bt_len (pa_cons (pv 2) pa_nil))))
    (pss_cons (ps_set (i := 3) sc_L_signs.nd rfl (Or.inl rfl) (pe_op op_fdivL (pv 3) (pe_callB call_len rfl T.m_len bt_len (pa_cons (pv 2) pa_nil))))
    (pss_cons (ps_set (i := 4) sc_L_signs.nd rfl (Or.inl rfl) (pe_op oAddN (pv 4) (pe_ix ixAny (pv 2) (pv 6) (fun _ _ => rfl))))
    (pss_one (ps_set (i := 2) sc_L_signs.nd rfl (Or.inl rfl) (pe_op oAddN (pe_slice slAny (pv 2) po_none (po_some (pv 6))) (pe_slice slAny (pv 2) (po_some (pe_op oAddN (pv 6) pe_int)) po_none))))))))
    (pss_one (ps_ret (pv 4))))))))), ?_⟩
  have e1 : V.str (Str.ofString " !\"#$&'()*+,-./0123456789:;<=>?@ABCDEFGHIJKLMNOPQRSTUVWXYZ[\\]^_`") = vt (signs.take 64) := congrArg V.str (by decide +kernel)
  have e2 : V.str (Str.ofString "abcdefghijklmnopqrstuvwxyz{|}~") = vt (signs.drop 64) := congrArg V.str (by decide +kernel)
  refine ⟨_, rfl, .inr (.inl ⟨_, _, e1, e2, by decide +kernel, ?_⟩)⟩
  rw [List.take_append_drop]
  refine ⟨_, rfl, _, _, rfl, rfl, cdivK (by decide) (by decide), ?_⟩
  show gName 3 (V.int (c.fdiv 2)) _ _ _
  have hs1 := fdiv_small (c := c) (j := 2) (by decide) hs
  generalize c.fdiv 2 = n0 at hs1 ⊢
  revert n0
  refine with_rest (fun n0 hs1 k => ⟨_, rfl, _, _, rfl, rfl, (by show (0 : Int) < 2; decide), .inl ⟨rfl, _, rfl, ite2' (fun _ => k n0) (fun _ => ?_)⟩⟩) (fun n => ?_)
  · exact ⟨_, rfl, _, _, rfl, rfl, ⟨by decide, by decide, by decide⟩, .inl ⟨_, _, rfl, rfl, .inr (.inr ⟨small_bits hs1, by decide +kernel⟩), .inl ⟨_, _, rfl, rfl, k _⟩⟩⟩
  refine ⟨_, rfl, _, rfl, by omega, by omega, ?_⟩
  refine for_range (fun i σ H' => ∃ n L S r1 r2, σ = [some (.int c), some (.int m), some (vt S), some (.int n), some (vt L), r1, r2] ∧ H' = H ∧ Drawn i L S) ⟨n, [], signs, _, _, by rw [ofString_nil]; rfl, rfl, .start⟩ ?_ ?_
  · rintro i _ _ hi ⟨n, L, S, r1', r2', rfl, rfl, d⟩
    have hl := d.left
    have hi' : i < 6 := by omega
    have hLl := d.len
    have hS : S.length ≤ sizeLine := by rw [sizeLine_eq]; omega
    have hp : (0 : Int) < (S.length : Nat) := by omega
    have m1 := Int.emod_nonneg n (show ((S.length : Nat) : Int) ≠ 0 by omega)
    have m2 := Int.emod_lt_of_pos n hp
    obtain ⟨j, hj⟩ : ∃ j : Nat, n % ((S.length : Nat) : Int) = (j : Int) := ⟨_, (Int.toNat_of_nonneg m1).symm⟩
    have hjl : j < S.length := by omega
    have hc := List.getElem?_eq_getElem hjl
    repeat array_get_dec
    refine ⟨hp, ?_⟩
    try dsimp (config := { proj := false, eta := false, zeta := false, iota := false }) only [tNil, tC]
    rw [hj]
    repeat array_get_dec
    refine ⟨⟨by omega, Nat.lt_of_lt_of_le (show ((S.length : Nat) : Int).natAbs < 2 ^ 30 by omega) (Nat.pow_le_pow_right (by decide) (by decide))⟩, ?_⟩
    repeat array_get_dec
    refine ixS hS (atI_nat hc) ?_
    repeat array_get_dec
    refine .inr (cutT hS ?_)
    rw [cut_to]
    repeat array_get_dec
    refine .inr (cutT hS ?_)
    try dsimp (config := { proj := false, eta := false, zeta := false, iota := false }) only [tNil, tC]
    rw [show ((j : Int) + 1) = ((j + 1 : Nat) : Int) by omega, cut_from]
    repeat array_get_dec
    exact ⟨_, _, _, _, _, rfl, rfl, d.next hc⟩
  · rintro _ _ ⟨n, L, S, r1', r2', rfl, rfl, d⟩
    exact ⟨_, rfl, q L S d⟩
def spFrame : Sp := fun vs H Q _ => ∃ c : Int, vs = [.int c] ∧ Small c ∧ ∀ L S (d : Nat) H' p, 2 ≤ L.length → L.length ≤ 6 → Drawn L.length L S → d ≤ 6 → Same H H' → H p = none → H' p = some (.tup [vt L, .int d]) → Q (.ref p) H'
theorem depth_at {i : Int} (h1 : 0 ≤ i) (h2 : i < 10) : ∃ d : Nat, d ≤ 6 ∧ atI [V.int 2, .int 3, .int 1, .int 0, .int 2, .int 3, .int 4, .int 1, .int 5, .int 6] i = some (.int d) := by
  obtain ⟨j, rfl⟩ : ∃ j : Nat, i = (j : Int) := ⟨_, (Int.toNat_of_nonneg h1).symm⟩
  match j, h2 with
  | 0, _ => exact ⟨2, by decide, rfl⟩
  | 1, _ => exact ⟨3, by decide, rfl⟩
  | 2, _ => exact ⟨1, by decide, rfl⟩
  | 3, _ => exact ⟨0, by decide, rfl⟩
  | 4, _ => exact ⟨2, by decide, rfl⟩
  | 5, _ => exact ⟨3, by decide, rfl⟩
  | 6, _ => exact ⟨4, by decide, rfl⟩
  | 7, _ => exact ⟨1, by decide, rfl⟩
  | 8, _ => exact ⟨5, by decide, rfl⟩
  | 9, _ => exact ⟨6, by decide, rfl⟩
  | n + 10, h => exact absurd h (by omega)
theorem ok_L_frame (T : Txt K mg t) : FnOk P w K mg base (CX1 P w) 2 t.a_L_frame t.fd_L_frame ["cell"] spFrame := by
  refine T.F_L_frame.okn (k := 1) sc_L_frame (fun vs H Q E h => ?_) (fun cdv A outer s H vs Q E hr h => ?_)
  · obtain ⟨c, rfl, _⟩ := h; rfl
  obtain ⟨c, rfl, hs, q⟩ := h
  have G_L_signs := ok_L_signs (P := P) (w := w) (base := base) T
  refine ⟨_, (pss_cons (ps_set (i := 1) sc_L_frame.nd rfl (Or.inl rfl) (pe_op oAddN pe_int (pe_op op_mod (pv 0) pe_int)))
    (pss_cons (ps_set (i := 2) sc_L_frame.nd rfl (Or.inl rfl) (pe_ix ixAny (pe_lst (PAs.h (pas_cons pe_int (pas_cons pe_int (pas_cons pe_int (pas_cons pe_int (pas_cons pe_int (pas_cons pe_int (pas_cons pe_int (pas_cons pe_int (pas_cons pe_int (pas_cons pe_int pas_nil)))))))))))) (pe_op op_mod (pe_op op_fdivL (pv 0) pe_int) pe_int) (fun _ _ => rfl)))
    (pss_one (ps_ret (pe_tup (PAs.h (pas_cons (pe_call G_L_signs hr rfl T.m_L_signs T.F_L_signs.kp T.b_L_signs .nil pass1 (PAs.h (pas_cons (pe_op op_fdivL (pv 0) pe_int) (pas_cons (pv 1) pas_nil)))) (pas_cons (pv 2) pas_nil)))))))), ?_⟩
  have r1 := Int.emod_nonneg c (show (5 : Int) ≠ 0 by decide)
  have r2 := Int.emod_lt_of_pos c (show (0 : Int) < 5 by decide)
  have t1 := Int.emod_nonneg (c.fdiv 5) (show (10 : Int) ≠ 0 by decide)
  have t2 := Int.emod_lt_of_pos (c.fdiv 5) (show (0 : Int) < 10 by decide)
  obtain ⟨d, hd, ed⟩ := depth_at t1 t2
  repeat array_get_dec
  try dsimp (config := { proj := false, eta := false, zeta := false, iota := false }) only [tNil, tC]
  refine ⟨by rw [sizeLine_eq]; decide, fun p0 h0 => ?_⟩
  refine ⟨_, rfl, _, _, rfl, rfl, cdivK (by decide) (by decide), _, _, rfl, rfl, (by show (0 : Int) < 10; decide), ?_⟩
  refine ixL (.inl (.inl upd_same)) ed ?_
  repeat array_get_dec
  try dsimp (config := { proj := false, eta := false, zeta := false, iota := false }) only [tNil, tC]
  have hs1 := fdiv_small (c := c) (j := 50) (by decide) hs
  refine ⟨hs1, by omega, by omega, fun L S D => ?_⟩
  have hL := D.len
  refine ⟨_, rfl, by rw [sizeLine_eq]; show 2 ≤ _; decide, fun p hp => ?_⟩
  exact q L S d _ p (by omega) (by omega) (by rw [hL]; exact D) hd (new_same hp (same_new h0 _)) ((same_new h0 _).free hp) upd_same
def spChecked (K : PySem.W.Frag) (C : Addr) : Sp := fun vs H Q E => ∃ p L d l, vs = [.ref p, vt l] ∧ SqT K H p [vt L, d] ∧ (∀ c ∈ l, c < 16 ^ 8) ∧ ((∀ c ∈ l, c ∈ L) → Q (vt l) H) ∧ ((∃ c ∈ l, c ∉ L) → E (.ref C) none H)
theorem ok_checked (T : Txt K mg t) : FnOk P w K mg base (CX1 P w) 1 t.a_checked t.fd_checked ["frame", "text"] (spChecked K t.c_NoText) := by
  refine T.F_checked.okx (k := 0) sc_checked (fun vs H Q E h => ?_) (fun cdv A outer s H vs Q E hr h => ?_)
  · obtain ⟨p, L, d, l, rfl, _⟩ := h; rfl
  obtain ⟨p, L, d, l, rfl, hS, hc, h1, h2⟩ := h
  refine ⟨_, (pss_cons (ps_set (i := 2) sc_checked.nd rfl (Or.inl rfl) (pe_ix ixAny (pv 0) pe_int (fun _ _ => rfl)))
    (pss_cons (ps_for PassesOwn.leaving rfl (piAny (pv 1)) (pg_name (i := 3) sc_checked.nd rfl (Or.inl rfl)) (pss_one (ps_if (pt_cmpR oNotIn (pv 3) (pv 2) (by with_unfolding_all rfl)) (pss_one (ps_raise raises1 rfl rfl T.m_NoText T.x_NoText PySem.F.excBase_ValueError (pa_cons (pe_joined (pfs_cons (pf_repr (pv 3)) (pfs_cons pf_str pfs_nil))) pa_nil))) pss_nil)))
    (pss_one (ps_ret (pv 1))))), ?_⟩
  refine ⟨_, rfl, .inr (.inl ⟨p, _, 0, _, rfl, rfl, hS, rfl, ?_⟩)⟩
  refine ⟨_, rfl, .inr (.inr ⟨_, rfl, ?_⟩)⟩
  refine for_walk (walk_tx l) (fun i σ H' => ∃ r, σ = [some (.ref p), some (vt l), some (vt L), r] ∧ H' = H ∧ ∀ c ∈ l.take i, c ∈ L) ⟨_, rfl, rfl, fun c hc => nomatch hc⟩ (fun _ _ _ _ _ => trivial) ?_ ?_
  · rintro i x _ _ hx ⟨r, rfl, rfl, hL⟩
    rw [List.getElem?_map] at hx
    cases hi : l[i]? with
    | none => rw [hi] at hx; cases hx
    | some c =>
      rw [hi] at hx
      cases (show some (vt [c]) = some x from hx)
      have hm : c ∈ l := List.mem_of_getElem? hi
      refine ⟨_, rfl, _, rfl, .inl ⟨c, L, rfl, rfl, _, rfl, ?_⟩⟩
      by_cases z : c ∈ L
      · rw [if_pos rfl, decide_eq_true z]
        refine iteF ⟨_, rfl, rfl, fun c' hc' => ?_⟩
        rw [List.take_add_one, hi] at hc'
        rcases List.mem_append.mp hc' with q | q
        · exact hL c' q
        · have : c' = c := by simpa using q
          rw [this]; exact z
      · rw [if_pos rfl, decide_eq_false z]
        have ls : (Str.ofString " is no letter of the frame").length = 26 := by decide +kernel
        refine iteT ⟨_, rfl, _, rfl, ⟨by show 1 ≤ 100000; decide, fun c' hc' => ?_⟩, fun y hy => ?_⟩
        · have : c' = c := by simpa using (show c' ∈ [c] from hc')
          rw [this]; exact hc c hm
        have hy' : y.length ≤ 12 := hy
        have e0 : (Str.empty ++ y).length ≤ 12 := by rw [Str.length_append]; show 0 + y.length ≤ 12; omega
        have e1 : (Str.empty ++ y ++ Str.ofString " is no letter of the frame").length ≤ sizeLine := by rw [Str.length_append, ls, sizeLine_eq]; omega
        exact ⟨Nat.le_trans e0 (by decide), e1, e1, (by show 1 ≤ sizeLine; decide), h2 ⟨c, hm, z⟩⟩
  · rintro _ _ ⟨r, rfl, rfl, hL⟩
    rw [List.length_map, List.take_length] at hL
    exact ⟨_, rfl, h1 hL⟩
def eldL (f d : Nat) (l : List Nat) (k : Nat) : List Nat := (List.range d).map fun j => if j < k then l.getD (k - 1 - j) 0 else f
theorem eldL_len (f d : Nat) (l : List Nat) (k : Nat) : (eldL f d l k).length = d := by unfold eldL; rw [List.length_map, List.length_range]
theorem eldL_at (f d : Nat) (l : List Nat) (k : Nat) {j : Nat} (h : j < d) : (eldL f d l k)[j]? = some (if j < k then l.getD (k - 1 - j) 0 else f) := by
  unfold eldL; rw [List.getElem?_map, List.getElem?_range h]; rfl
theorem eldL_eq (f d : Nat) (l : List Nat) {k : Nat} (hk : k ≤ l.length) : ((l.drop (k - d)).take (k - (k - d))).reverse ++ List.replicate (d - (k - (k - d))) f = eldL f d l k := by
  have hlen : ((l.drop (k - d)).take (k - (k - d))).length = k - (k - d) := by rw [List.length_take, List.length_drop]; omega
  refine List.ext_getElem? fun j => ?_
  by_cases hj : j < d
  · rw [eldL_at f d l k hj]
    by_cases hjk : j < k
    · rw [if_pos hjk, List.getElem?_append_left (by rw [List.length_reverse, hlen]; omega), List.getElem?_reverse (by rw [hlen]; omega), hlen, List.getElem?_take_of_lt (by omega), List.getElem?_drop, List.getD_eq_getElem?_getD]
      rw [show k - d + (k - (k - d) - 1 - j) = k - 1 - j by omega, List.getElem?_eq_getElem (by omega)]
      rfl
    · rw [if_neg hjk, List.getElem?_append_right (by rw [List.length_reverse, hlen]; omega), List.length_reverse, hlen, List.getElem?_replicate, if_pos (by omega)]
  · rw [List.getElem?_eq_none (by rw [List.length_append, List.length_reverse, hlen, List.length_replicate]; omega), List.getElem?_eq_none (by rw [eldL_len]; omega)]
theorem at_zero {α : Type} {f : α} {L : List α} : atI (f :: L) 0 = some f := atI_nat (j := 0) rfl
theorem flatten_ones (l : List Nat) : (l.map fun c => [c]).flatten = l := by
  induction l with
  | nil => rfl
  | cons c r ih => rw [List.map_cons, List.flatten_cons, ih]; rfl
theorem rep_ones (n c : Nat) : (List.replicate n [c]).flatten = List.replicate n c := by
  induction n with
  | zero => rfl
  | succ n ih => rw [List.replicate_succ, List.flatten_cons, ih]; rfl
theorem str_nil : V.str (Str.ofString "") = vt [] := congrArg V.str (by decide +kernel)
def spEldAt (K : PySem.W.Frag) : Sp := fun vs H Q _ => ∃ (p : Addr) (f : Nat) (L : List Nat) (d k : Nat) (l : List Nat), vs = [.ref p, vt l, .int k] ∧ SqT K H p [vt (f :: L), .int d] ∧ (f :: L).length ≤ 100 ∧ d ≤ 6 ∧ l.length ≤ 1000 ∧ k ≤ l.length ∧ Q (vt (eldL f d l k)) H
theorem ok_elders_at (T : Txt K mg t) : FnOk P w K mg base (CX1 P w) 1 t.a_elders_at t.fd_elders_at ["frame", "text", "at"] (spEldAt K) := by
  refine T.F_elders_at.okn (k := 0) sc_elders_at (fun vs H Q E h => ?_) (fun cdv A outer s H vs Q E hr h => ?_)
  · obtain ⟨p, f, L, d, k, l, rfl, _⟩ := h; rfl
  obtain ⟨p, f, L, d, k, l, rfl, hF, hL, hd, hl, hk, q⟩ := h
  have zL : (f :: L).length ≤ sizeLine := by rw [sizeLine_eq]; omega
  have zl : l.length ≤ sizeLine := by rw [sizeLine_eq]; omega
  refine ⟨_, (pss_cons (ps_set (i := 3) sc_elders_at.nd rfl (Or.inl rfl) (pe_ix ixAny (pe_ix ixAny (pv 0) pe_int (fun _ _ => rfl)) pe_int (fun _ _ => rfl)))
    (pss_cons (ps_set (i := 4) sc_elders_at.nd rfl (Or.inl rfl) (pe_ix ixAny (pv 0) pe_int (fun _ _ => rfl)))
    (pss_cons (ps_set (i := 5) sc_elders_at.nd rfl (Or.inl rfl) (pe_slice slAny (pv 1) (po_some (pe_callB (call_max2 rfl) rfl T.m_max bt_max (PAs.h (pas_cons pe_int (pas_cons (pe_op op_sub (pv 2) (pv 4)) pas_nil))))) (po_some (pv 2))))
    (pss_one (ps_ret (pe_op oAddN (pe_joinRev rfl rfl T.m_reversed bt_reversed pe_str (pv 5)) (pe_op oMulN (pv 3) (pe_op op_sub (pv 4) (pe_callB call_len rfl T.m_len bt_len (pa_cons (pv 5) pa_nil)))))))))), ?_⟩
  repeat array_get_dec
  refine ixS zL at_zero ?_
  repeat array_get_dec
  refine .inr (cutT zl ?_)
  have e : (if ((k : Int) - d) > 0 then ((k : Int) - d) else 0) = ((k - d : Nat) : Int) := by split <;> omega
  try dsimp (config := { proj := false, eta := false, zeta := false, iota := false }) only [tNil, tC]
  rw [e, cut_mid l (by omega) hk]
  have hlen : ((l.drop (k - d)).take (k - (k - d))).length = k - (k - d) := by rw [List.length_take, List.length_drop]; omega
  generalize hn : (l.drop (k - d)).take (k - (k - d)) = near at hlen ⊢
  refine ⟨[], str_nil, ?_⟩
  refine ⟨_, rfl, near, rfl, ⟨by omega, by decide⟩, ?_⟩
  rw [between_nil, flatten_ones]
  have zn : near.length ≤ sizeLine := by rw [sizeLine_eq]; omega
  repeat array_get_dec
  rw [rep_ones]
  refine .inr (.inl (catX ?_ ?_))
  · rw [List.length_reverse, List.length_replicate, sizeLine_eq]; omega
  · rw [show ((d : Int) - (near.length : Int)).toNat = d - (k - (k - d)) by omega, ← hn, eldL_eq f d l hk]; exact q
def oddP : Nat → Int
  | 0 => 1
  | n + 1 => oddP n * (2 * (n : Int) + 1)
def topW : List Nat → Int
  | [] => 1
  | c :: cs => topW cs * oddP c
def botW (k : Nat) : Nat → Int
  | 0 => 1
  | n + 1 => botW k n * (2 * (n : Int) + k)
def ivs (cs : List Nat) : List V := (cs.map fun (c : Nat) => (c : Int)).map V.int
theorem ivs_len (cs : List Nat) : (ivs cs).length = cs.length := by unfold ivs; rw [List.length_map, List.length_map]
theorem ivs_get (cs : List Nat) (i : Nat) : (ivs cs)[i]? = (cs[i]?).map (fun c : Nat => V.int (c : Int)) := by unfold ivs; rw [List.getElem?_map, List.getElem?_map, Option.map_map]; rfl
theorem ivs_set (cs : List Nat) (j c : Nat) : (ivs cs).set j (.int (c : Int)) = ivs (cs.set j c) := by unfold ivs; rw [List.map_set, List.map_set]
theorem ints_sum (cs : List Nat) : (cs.map fun (c : Nat) => (c : Int)).sum = (cs.sum : Int) := by
  induction cs with
  | nil => rfl
  | cons c cs ih => rw [List.map_cons, List.sum_cons, ih, List.sum_cons]; push_cast; rfl
theorem topW_set : ∀ {cs : List Nat} {j c : Nat}, cs[j]? = some c → topW (cs.set j (c + 1)) = topW cs * (2 * (c : Int) + 1)
  | [], _, _, h => by cases h
  | a :: cs, 0, c, h => by
    cases h
    show topW cs * (oddP a * (2 * (a : Int) + 1)) = topW cs * oddP a * (2 * (a : Int) + 1)
    rw [Int.mul_assoc]
  | a :: cs, j + 1, c, h => by
    show topW (cs.set j (c + 1)) * oddP a = topW cs * oddP a * (2 * (c : Int) + 1)
    rw [topW_set (cs := cs) h, Int.mul_assoc, Int.mul_comm (2 * (c : Int) + 1), ← Int.mul_assoc]
theorem sum_set : ∀ {cs : List Nat} {j c : Nat}, cs[j]? = some c → (cs.set j (c + 1)).sum = cs.sum + 1
  | [], _, _, h => by cases h
  | a :: cs, 0, c, h => by cases h; show (a + 1) + cs.sum = a + cs.sum + 1; omega
  | a :: cs, j + 1, c, h => by
    show a + (cs.set j (c + 1)).sum = a + cs.sum + 1
    rw [sum_set (cs := cs) h]; omega
theorem le_sum : ∀ {cs : List Nat} {j c : Nat}, cs[j]? = some c → c ≤ cs.sum
  | [], _, _, h => by cases h
  | a :: cs, 0, c, h => by cases h; show a ≤ a + cs.sum; omega
  | a :: cs, j + 1, c, h => by have := le_sum (cs := cs) h; show c ≤ a + cs.sum; omega
theorem pow_lt {n a b : Nat} (h : n < 2 ^ a) (hb : a ≤ b) : n < 2 ^ b := Nat.lt_of_lt_of_le h (Nat.pow_le_pow_right (by decide) hb)
theorem mul_lt {x y : Int} {a b : Nat} (hx : x.natAbs < 2 ^ a) (hy : y.natAbs < 2 ^ b) : (x * y).natAbs < 2 ^ (a + b) := by
  rw [Int.natAbs_mul, Nat.pow_add]
  exact Nat.mul_lt_mul'' hx hy
theorem oddP_bd : ∀ n : Nat, n ≤ 500 → 0 < oddP n ∧ (oddP n).natAbs < 2 ^ (1 + 10 * n)
  | 0, _ => by decide
  | n + 1, h => by
    obtain ⟨h0, h1⟩ := oddP_bd n (by omega)
    refine ⟨Int.mul_pos h0 (by omega), ?_⟩
    have := mul_lt h1 (show (2 * (n : Int) + 1).natAbs < 2 ^ 10 by omega)
    rw [show 1 + 10 * (n + 1) = 1 + 10 * n + 10 by omega]; exact this
theorem topW_bd : ∀ cs : List Nat, cs.sum ≤ 500 → 0 < topW cs ∧ (topW cs).natAbs < 2 ^ (1 + cs.length + 10 * cs.sum)
  | [], _ => by decide
  | c :: cs, h => by
    have h' : c + cs.sum ≤ 500 := h
    obtain ⟨h0, h1⟩ := topW_bd cs (by omega)
    obtain ⟨o0, o1⟩ := oddP_bd c (by omega)
    refine ⟨Int.mul_pos h0 o0, ?_⟩
    have := mul_lt h1 o1
    have e : 1 + (c :: cs).length + 10 * (c :: cs).sum = 1 + cs.length + 10 * cs.sum + (1 + 10 * c) := by
      show 1 + (cs.length + 1) + 10 * (c + cs.sum) = _; omega
    rw [e]; exact this
theorem botW_bd {k : Nat} (hk : 1 ≤ k) (hk2 : k ≤ 20) : ∀ n : Nat, n ≤ 500 → 0 < botW k n ∧ (botW k n).natAbs < 2 ^ (1 + 10 * n)
  | 0, _ => by show 0 < (1 : Int) ∧ (1 : Int).natAbs < 2 ^ 1; decide
  | n + 1, h => by
    obtain ⟨h0, h1⟩ := botW_bd hk hk2 n (by omega)
    refine ⟨Int.mul_pos h0 (by omega), ?_⟩
    have := mul_lt h1 (show (2 * (n : Int) + k).natAbs < 2 ^ 10 by omega)
    rw [show 1 + 10 * (n + 1) = 1 + 10 * n + 10 by omega]; exact this
def falls (f d : Nat) (l kn : List Nat) (k : Nat) : Bool := decide ((eldL f d l k).take kn.length = kn)
def cntL (L : List Nat) (f d : Nat) (l kn : List Nat) (n : Nat) : List Nat := L.map fun c => ((List.range n).filter fun k => falls f d l kn k && decide (l[k]? = some c)).length
def seen (f d : Nat) (l kn : List Nat) (n : Nat) : Bool := (List.range n).any (falls f d l kn)
theorem cntL_len (L : List Nat) (f d : Nat) (l kn : List Nat) (n : Nat) : (cntL L f d l kn n).length = L.length := List.length_map ..
theorem filter_range_succ (p : Nat → Bool) (n : Nat) : ((List.range (n + 1)).filter p).length = ((List.range n).filter p).length + if p n = true then 1 else 0 := by
  rw [List.range_succ, List.filter_append, List.length_append]
  cases h : p n <;> simp [h]
theorem cntL_no {L : List Nat} {f d : Nat} {l kn : List Nat} {n : Nat} (h : falls f d l kn n = false) : cntL L f d l kn (n + 1) = cntL L f d l kn n := by
  unfold cntL
  refine List.map_congr_left fun c _ => ?_
  rw [filter_range_succ, h, Bool.false_and, if_neg Bool.false_ne_true]; rfl
theorem seen_no {f d : Nat} {l kn : List Nat} {n : Nat} (h : falls f d l kn n = false) : seen f d l kn (n + 1) = seen f d l kn n := by
  unfold seen; rw [List.range_succ, List.any_append]; simp [h]
theorem seen_yes {f d : Nat} {l kn : List Nat} {n : Nat} (h : falls f d l kn n = true) : seen f d l kn (n + 1) = true := by
  unfold seen; rw [List.range_succ, List.any_append]; simp [h]
theorem cntL_yes {L : List Nat} {f d : Nat} {l kn : List Nat} {n i c : Nat} (hL : L.Nodup) (h : falls f d l kn n = true) (hi : L[i]? = some c) (hc : l[n]? = some c) :
    ∃ v, (cntL L f d l kn n)[i]? = some v ∧ cntL L f d l kn (n + 1) = (cntL L f d l kn n).set i (v + 1) := by
  obtain ⟨hil, hic⟩ := List.getElem?_eq_some_iff.mp hi
  refine ⟨((List.range n).filter fun k => falls f d l kn k && decide (l[k]? = some c)).length, by unfold cntL; rw [List.getElem?_map, hi]; rfl, ?_⟩
  refine List.ext_getElem? fun j => ?_
  by_cases hj : j < L.length
  · rw [List.getElem?_set]
    unfold cntL
    rw [List.getElem?_map, List.getElem?_eq_getElem hj, Option.map_some, filter_range_succ, h, Bool.true_and]
    by_cases hij : i = j
    · subst hij
      rw [hic, decide_eq_true hc, if_pos rfl, if_pos rfl, if_pos (by rw [List.length_map]; exact hj)]
    · rw [if_neg hij, List.getElem?_map, List.getElem?_eq_getElem hj, Option.map_some]
      have : L[j] ≠ c := fun e => hij ((List.getElem_inj hL).mp (hic.trans e.symm))
      rw [hc, decide_eq_false (fun e => this (Option.some.inj e).symm), if_neg Bool.false_ne_true]; rfl
  · rw [List.getElem?_eq_none (by rw [cntL_len]; omega), List.getElem?_eq_none (by rw [List.length_set, cntL_len]; omega)]
theorem cntL_zero {L : List Nat} {f d : Nat} {l kn : List Nat} {n : Nat} (h : seen f d l kn n = false) : cntL L f d l kn n = List.replicate L.length 0 := by
  unfold cntL
  refine List.ext_getElem? fun j => ?_
  rw [List.getElem?_map, List.getElem?_replicate]
  by_cases hj : j < L.length
  · rw [List.getElem?_eq_getElem hj, if_pos hj, Option.map_some]
    congr 1
    rw [List.length_eq_zero_iff, List.filter_eq_nil_iff]
    intro k hk
    have := List.any_eq_false.mp h k hk
    simp [this]
  · rw [List.getElem?_eq_none (by omega), if_neg hj]; rfl
theorem ivs_rep (m : Nat) : (List.replicate m [V.int 0]).flatten = ivs (List.replicate m 0) := by
  unfold ivs
  rw [List.map_replicate, List.map_replicate]
  induction m with
  | zero => rfl
  | succ m ih => rw [List.replicate_succ, List.flatten_cons, ih, List.replicate_succ]; rfl
def spNoC (K : PySem.W.Frag) : Sp := fun vs H Q _ => ∃ (p : Addr) (L : List Nat) (d : V), vs = [.ref p] ∧ SqT K H p [vt L, d] ∧ L.length ≤ 100 ∧ ∀ r H', Same H H' → H r = none → H' r = some (.lst (ivs (List.replicate L.length 0))) → Q (.ref r) H'
theorem ok_no_counts (T : Txt K mg t) : FnOk P w K mg base (CX1 P w) 1 t.a_no_counts t.fd_no_counts ["frame"] (spNoC K) := by
  refine T.F_no_counts.okn (k := 0) sc_no_counts (fun vs H Q E h => ?_) (fun cdv A outer s H vs Q E hr h => ?_)
  · obtain ⟨p, L, d, rfl, _⟩ := h; rfl
  obtain ⟨p, L, d, rfl, hF, hL, q⟩ := h
  have zL : L.length ≤ sizeLine := by rw [sizeLine_eq]; omega
  refine ⟨_, (pss_one (ps_ret (pe_op oMulN (pe_lst (pa_cons pe_int pa_nil)) (pe_callB call_len rfl T.m_len bt_len (pa_cons (pe_ix ixAny (pv 0) pe_int (fun _ _ => rfl)) pa_nil))))), ?_⟩
  refine ⟨by show 1 ≤ sizeLine; decide, fun l1 hl1 => ?_⟩
  repeat array_get_dec
  refine .inr (.inr ⟨l1, _, _, rfl, rfl, upd_same, by omega, by omega, by rw [sizeLine_eq, Int.toNat_natCast]; show 1 * L.length ≤ _; omega, fun l hl => ?_⟩)
  rw [Int.toNat_natCast, ivs_rep]
  exact q l _ (by array_mem_dec) ((same_new hl1 _).free hl) upd_same
def key (kn : List Nat) : Key := Sum.inr (tx kn)
theorem key_inj {a b : List Nat} (h : key a = key b) : a = b := tx_inj (Sum.inr.inj h)
theorem meet {A B : TS} {D : Ends} {σ : L2.St} {H : Hp} (S : L2.St → Hp → Prop) (k : ∀ N : L2.St → Hp → Prop, (∀ σ H, S σ H → N σ H) → A { D with nx := N } σ H) (r : ∀ σ H, S σ H → B D σ H) : tSeq A B D σ H := k (B D) r
theorem if_test {c : TT} {A B : TS} {D : Ends} {σ : L2.St} {H : Hp} (C : Prop) (k : ∀ Q : Bool → Hp → Prop, (C → Q true H) → Q false H → c σ H Q) (a : C → A D σ H) (b : B D σ H) : tIfS c A B D σ H := k _ (fun h => iteT (a h)) (iteF b)
theorem str_nil0 : V.str (Str.ofString "") = vt [] := congrArg V.str (by decide +kernel)
theorem cutN_60 (ns : List Int) : (cutN ns (some 3) (some 63)).length ≤ 60 := by
  unfold cutN
  rw [List.length_take, List.length_drop]
  have e1 : HT.sIx ns.length 0 (some 3) = min 3 ns.length := HT.sIx_nat _ _ 3
  have e2 : HT.sIx ns.length ns.length (some 63) = min 63 ns.length := HT.sIx_nat _ _ 63
  rw [e1, e2]; omega
def spText (K : PySem.W.Frag) : Sp := fun vs H Q _ => ∃ (c : Addr) (cs : List Int) (L : List Nat) (b : Bool), vs = [.ref c, vt L, .bl b] ∧ SqL K H c (cs.map V.int) ∧ 2 ≤ L.length ∧ L.length ≤ 6 ∧ cs.length ≤ 100 ∧ ∀ l : List Nat, (∀ x ∈ l, x ∈ L) → l.length = cs.length → Q (vt l) H
theorem ok_L_text (T : Txt K mg t) : FnOk P w K mg base (CX1 P w) 1 t.a_L_text t.fd_L_text ["cells", "letters", "lean"] (spText K) := by
  refine T.F_L_text.okn (k := 0) sc_L_text (fun vs H Q E h => ?_) (fun cdv A outer s H vs Q E hr h => ?_)
  · obtain ⟨c, cs, L, b, rfl, _⟩ := h; rfl
  obtain ⟨c, cs, L, b, rfl, hc, hL2, hL6, hcl, q⟩ := h
  have zL : L.length ≤ sizeLine := by rw [sizeLine_eq]; omega
  refine ⟨_, (pss_cons (ps_set (i := 3) sc_L_text.nd rfl (Or.inl rfl) pe_str)
    (pss_cons (ps_for PassesOwn.never rfl (piAny (pv 0)) (pg_name (i := 4) sc_L_text.nd rfl (Or.inl rfl)) (pss_cons (ps_set (i := 5) sc_L_text.nd rfl (Or.inl rfl) (pe_op op_fdivL (pv 4) pe_int))
    (pss_one (ps_if (PW.pt (pw_and (pt_val (pv 2)) (pw_and (pt_cmpR op_gt (pe_callB call_len rfl T.m_len bt_len (pa_cons (pv 3) pa_nil)) pe_int (nomark _)) (pw_and1 (pt_cmpR op_gt (pe_op op_mod (pv 5) pe_int) pe_int (nomark _)))))) (pss_one (ps_set (i := 3) sc_L_text.nd rfl (Or.inl rfl) (pe_op oAddN (pv 3) (pe_ix ixAny (pv 3) (pe_op op_sub (pe_un un_neg pe_int) (pe_op op_mod (pe_op op_fdivL (pv 5) pe_int) pe_int)) (fun _ _ => rfl))))) (pss_one (ps_set (i := 3) sc_L_text.nd rfl (Or.inl rfl) (pe_op oAddN (pv 3) (pe_ix ixAny (pv 1) (pe_op op_mod (pe_op op_fdivL (pv 5) pe_int) (pe_callB call_len rfl T.m_len bt_len (pa_cons (pv 1) pa_nil))) (fun _ _ => rfl)))))))))
    (pss_one (ps_ret (pv 3))))), ?_⟩
  show gName 3 (V.str (Str.ofString "")) _ _ _
  rw [str_nil0]
  refine ⟨_, rfl, .inl ⟨c, _, rfl, hc, ?_⟩⟩
  refine for_walk (walk_list (xs := cs.map V.int)) (fun i σ H' => ∃ l r4 r5, σ = [some (.ref c), some (vt L), some (.bl b), some (vt l), r4, r5] ∧ H' = H ∧ (∀ x ∈ l, x ∈ L) ∧ l.length = i) ⟨[], _, _, rfl, rfl, fun x h => (nomatch h), rfl⟩ (fun i σ H' _ ⟨_, _, _, _, e, _⟩ => e ▸ hc) ?_ ?_
  · rintro i x _ _ hx ⟨l, r4, r5, rfl, rfl, hl, hn⟩
    obtain ⟨n, hnn, rfl⟩ := int_at hx
    have hi := (List.getElem?_eq_some_iff.mp hnn).1
    have zl : l.length ≤ sizeLine := by rw [sizeLine_eq]; omega
    refine ⟨_, rfl, _, _, rfl, rfl, cdivK (by decide) (by decide), ?_⟩
    show gName 5 (V.int (n.fdiv 3)) _ _ _
    generalize n.fdiv 3 = pk
    dsimp (config := { eta := false, zeta := false, iota := false }) only [gName]
    refine if_test (2 < l.length) (fun Q' h1 h2 => ?_) (fun z => ?_) ?_
    · refine ⟨_, rfl, b, rfl, ?_⟩
      cases b with
      | false => exact iteF h2
      | true =>
        refine iteT ⟨_, rfl, _, _, rfl, lenvS zl, _, _, rfl, rfl, _, rfl, if2 (fun z => ?_) (fun _ => h2)⟩
        have z' : 2 < l.length := by have : (2 : Int) < ((l.length : Nat) : Int) := z; omega
        refine ⟨_, rfl, _, _, rfl, rfl, (by show (0 : Int) < 4; decide), _, _, rfl, rfl, _, rfl, ?_⟩
        cases decide (pk % 4 > 0) with
        | true => exact h1 z'
        | false => exact h2
    · have m1 := Int.emod_nonneg (pk.fdiv 4) (show (3 : Int) ≠ 0 by decide)
      have m2 := Int.emod_lt_of_pos (pk.fdiv 4) (show (0 : Int) < 3 by decide)
      obtain ⟨s1, hs1, es⟩ := at_back l (k := 1 + pk.fdiv 4 % 3) (by omega) (by omega)
      refine ⟨_, rfl, _, rfl, 1, rfl, _, rfl, _, _, rfl, rfl, cdivK (by decide) (by decide), _, _, rfl, rfl, (by show (0 : Int) < 3; decide), _, _, rfl, rfl, ?_⟩
      try dsimp (config := { proj := false, eta := false, zeta := false, iota := false }) only [tNil, tC]
      rw [show (-1 : Int) - pk.fdiv 4 % 3 = -(1 + pk.fdiv 4 % 3) by omega]
      refine ixS zl es (.inr (.inl (catX (by rw [sizeLine_eq]; show _ + 1 ≤ _; omega) ?_)))
      refine ⟨l ++ [s1], _, _, rfl, rfl, fun x hx => ?_, by rw [List.length_append, hn]; rfl⟩
      rcases List.mem_append.mp hx with z | z
      · exact hl x z
      · cases List.mem_singleton.mp z; exact hl s1 hs1
    · obtain ⟨s1, hs1, es⟩ := at_mod L (by omega) (pk.fdiv 4)
      refine ⟨_, rfl, _, rfl, _, rfl, _, _, rfl, rfl, cdivK (by decide) (by decide), _, rfl, _, _, rfl, lenvS zL, _, _, rfl, rfl, (by show (0 : Int) < (L.length : Nat); omega), ?_⟩
      refine ixS zL es (.inr (.inl (catX (by rw [sizeLine_eq]; show _ + 1 ≤ _; omega) ?_)))
      refine ⟨l ++ [s1], _, _, rfl, rfl, fun x hx => ?_, by rw [List.length_append, hn]; rfl⟩
      rcases List.mem_append.mp hx with z | z
      · exact hl x z
      · cases List.mem_singleton.mp z; exact hs1
  · rintro _ _ ⟨l, r4, r5, rfl, rfl, hl, hn⟩
    rw [List.length_map] at hn
    exact ⟨_, rfl, q l hl hn⟩
def prodI : List Int → Int
  | [] => 1
  | x :: xs => x * prodI xs
theorem prodI_app (a b : List Int) : prodI (a ++ b) = prodI a * prodI b := by
  induction a with
  | nil => simp [prodI]
  | cons x a ih => show x * prodI (a ++ b) = x * prodI a * prodI b; rw [ih, Int.mul_assoc]
theorem prodI_pos : ∀ {a : List Int}, (∀ x ∈ a, 1 ≤ x) → 1 ≤ prodI a
  | [], _ => Int.le_refl _
  | x :: a, h => by
    have h1 := h x List.mem_cons_self
    have h2 := prodI_pos (a := a) fun y hy => h y (List.mem_cons_of_mem _ hy)
    show 1 ≤ x * prodI a
    have := Int.mul_le_mul h1 h2 (by decide) (by omega)
    simpa using this
theorem prodI_le {a b : List Int} (ha : ∀ x ∈ a, 1 ≤ x) (hb : ∀ x ∈ b, 1 ≤ x) : prodI a ≤ prodI (a ++ b) := by
  rw [prodI_app]
  have h1 := prodI_pos ha
  have h2 := prodI_pos hb
  have := Int.mul_le_mul_of_nonneg_left h2 (show 0 ≤ prodI a by omega)
  simpa using this
theorem falls_iff {f d : Nat} {l kn : List Nat} {k : Nat} : falls f d l kn k = true ↔ kn <+: eldL f d l k := by
  unfold falls
  rw [decide_eq_true_iff, List.prefix_iff_eq_take]
  exact ⟨Eq.symm, Eq.symm⟩
theorem falls_no {f d : Nat} {l kn : List Nat} {k : Nat} (h : ¬ kn <+: eldL f d l k) : falls f d l kn k = false := by
  cases z : falls f d l kn k with
  | false => rfl
  | true => exact absurd (falls_iff.mp z) h
def sg (f d : Nat) (l kn : List Nat) (n : Nat) : List Nat := ((List.range n).filter (falls f d l kn)).map fun k => l.getD k 0
theorem sg_yes {f d : Nat} {l kn : List Nat} {n : Nat} (h : falls f d l kn n = true) : sg f d l kn (n + 1) = sg f d l kn n ++ [l.getD n 0] := by
  unfold sg
  rw [List.range_succ, List.filter_append, List.map_append, List.filter_cons, if_pos h]; rfl
theorem sg_no {f d : Nat} {l kn : List Nat} {n : Nat} (h : falls f d l kn n = false) : sg f d l kn (n + 1) = sg f d l kn n := by
  unfold sg
  rw [List.range_succ, List.filter_append, List.filter_cons, if_neg (by rw [h]; decide)]; simp
theorem sg_count {L : List Nat} {f d : Nat} {l kn : List Nat} {j c : Nat} (hj : L[j]? = some c) : ∀ n, n ≤ l.length → (cntL L f d l kn n)[j]? = some ((sg f d l kn n).count c) := by
  intro n
  unfold cntL
  rw [List.getElem?_map, hj]
  induction n with
  | zero => intro _; rfl
  | succ n ih =>
    intro hn
    have ih' := Option.some.inj (ih (by omega))
    refine congrArg some ?_
    show ((List.range (n + 1)).filter fun k => falls f d l kn k && decide (l[k]? = some c)).length = _
    rw [filter_range_succ]
    have hl : l[n]? = some (l.getD n 0) := by rw [List.getD_eq_getElem?_getD, List.getElem?_eq_getElem (show n < l.length by omega)]; rfl
    cases z : falls f d l kn n with
    | false => rw [sg_no z, if_neg (by simp)]; exact ih'
    | true =>
      rw [sg_yes z, List.count_append, hl]
      by_cases e : l.getD n 0 = c
      · rw [if_pos (by rw [e, Bool.true_and]; exact decide_eq_true rfl), e, List.count_cons_self, List.count_nil]
        exact congrArg (· + 1) ih'
      · rw [if_neg (by rw [Bool.true_and, decide_eq_false (fun h => e (Option.some.inj h))]; decide), List.count_cons_of_ne e, List.count_nil]
        exact ih'
theorem sg_len {L : List Nat} (hL : L.Nodup) {f d : Nat} {l kn : List Nat} (hl : ∀ c ∈ l, c ∈ L) : ∀ n, n ≤ l.length → (cntL L f d l kn n).sum = (sg f d l kn n).length := by
  intro n
  induction n with
  | zero =>
    intro _
    rw [cntL_zero (by rfl), sg]
    simp
  | succ n ih =>
    intro hn
    have ih' := ih (by omega)
    cases z : falls f d l kn n with
    | false => rw [cntL_no z, sg_no z]; exact ih'
    | true =>
      have hln : l[n]? = some (l.getD n 0) := by rw [List.getD_eq_getElem?_getD, List.getElem?_eq_getElem (show n < l.length by omega)]; rfl
      obtain ⟨j, hj⟩ := List.getElem?_of_mem (hl _ (List.mem_of_getElem? hln))
      obtain ⟨v, hv, e⟩ := cntL_yes (d := d) (kn := kn) (f := f) hL z hj hln
      rw [e, sum_set hv, sg_yes z, List.length_append, ih']; rfl
theorem sg_le (f d : Nat) (l kn : List Nat) (n : Nat) : (sg f d l kn n).length ≤ n := by
  unfold sg
  rw [List.length_map]
  have := List.length_filter_le (falls f d l kn) (List.range n)
  rw [List.length_range] at this
  exact this
def FrV (K : PySem.W.Frag) (H : Hp) (x : V) (A B : Int) : Prop := ∃ p n d, x = .ref p ∧ SqT K H p [.int n, .int d] ∧ 0 < n ∧ 0 < d ∧ n * B = A * d ∧ gcdI n d = 1 ∧ n ≤ A ∧ d ≤ B
theorem FrV.same {H H' : Hp} {x : V} {A B : Int} (h : FrV K H x A B) (g : Same H H') : FrV K H' x A B := by
  obtain ⟨p, n, d, e, h1, h2⟩ := h
  exact ⟨p, n, d, e, same_tup g h1, h2⟩
theorem num_pos {t b : Int} (ht : 0 < t) (hb : 0 < b) : 0 < num t b := by
  have h := num_cross (t := t) (b := b) (by omega)
  have hd := den_pos (t := t) (b := b) (by omega)
  have : 0 < num t b * b := by rw [h]; exact Int.mul_pos ht hd
  exact Int.pos_of_mul_pos_left this hb
theorem FrV.made {H : Hp} {p : Addr} {t b : Int} (ht : 0 < t) (hb : 0 < b) (e : SqT K H p [.int (num t b), .int (den t b)]) : FrV K H (.ref p) t b := by
  have h0 : b ≠ 0 := by omega
  have l1 := num_le (t := t) h0
  have l2 := den_le (t := t) h0
  have p1 := num_pos ht hb
  have p2 := den_pos (t := t) h0
  exact ⟨p, _, _, rfl, e, p1, p2, num_cross h0, num_gcd h0, by omega, by omega⟩
theorem FrV.times {n d m e A B C D : Int} (hd : 0 < d) (he : 0 < e) (hn : 0 < n) (hm : 0 < m) (h1 : n * B = A * d) (h2 : m * D = C * e) : num (n * m) (d * e) * (B * D) = A * C * den (n * m) (d * e) := by
  have hde : 0 < d * e := Int.mul_pos hd he
  have hx := num_cross (t := n * m) (b := d * e) (by omega)
  refine Int.eq_of_mul_eq_mul_right (a := d * e) (by omega) ?_
  calc num (n * m) (d * e) * (B * D) * (d * e) = (num (n * m) (d * e) * (d * e)) * (B * D) := by simp only [Int.mul_assoc, Int.mul_comm, Int.mul_left_comm]
    _ = (n * m * den (n * m) (d * e)) * (B * D) := by rw [hx]
    _ = (n * B) * (m * D) * den (n * m) (d * e) := by simp only [Int.mul_assoc, Int.mul_comm, Int.mul_left_comm]
    _ = (A * d) * (C * e) * den (n * m) (d * e) := by rw [h1, h2]
    _ = A * C * den (n * m) (d * e) * (d * e) := by simp only [Int.mul_assoc, Int.mul_comm, Int.mul_left_comm]
theorem abs_lt {n A : Int} {k : Nat} (h0 : 0 < n) (h : n ≤ A) (hA : A < 2 ^ k) : n.natAbs < 2 ^ k := by
  have : (n.natAbs : Int) < ((2 ^ k : Nat) : Int) := by
    rw [Int.natCast_pow]
    have : (n.natAbs : Int) = n := by omega
    rw [this]; exact Int.lt_of_le_of_lt h hA
  exact Int.ofNat_lt.mp this
theorem int_lt {n : Int} {k : Nat} (h : n.natAbs < 2 ^ k) : n < 2 ^ k := by
  have h1 : (n.natAbs : Int) < ((2 ^ k : Nat) : Int) := Int.ofNat_lt.mpr h
  rw [Int.natCast_pow] at h1
  have h2 : n ≤ (n.natAbs : Int) := Int.le_natAbs
  exact Int.lt_of_le_of_lt h2 h1
def spTimes (K : PySem.W.Frag) : Sp := fun vs H Q _ => ∃ x y A B C D, vs = [x, y] ∧ FrV K H x A B ∧ FrV K H y C D ∧ A < 2 ^ 9000 ∧ B < 2 ^ 9000 ∧ C < 2 ^ 9000 ∧ D < 2 ^ 9000 ∧ B * D < 2 ^ 8999 ∧ ∀ H' z, Same H H' → FrV K H' z (A * C) (B * D) → Q z H'
theorem ok_times (T : Txt K mg t) : FnOk P w K mg base (CX1 P w) 3 t.a_times t.fd_times ["one", "other"] (spTimes K) := by
  refine T.F_times.okn (k := 2) sc_times (fun vs H Q E h => ?_) (fun cdv A outer s H vs Q E hr h => ?_)
  · obtain ⟨x, y, _, _, _, _, rfl, _⟩ := h; rfl
  obtain ⟨_, _, a, b, c, e, rfl, ⟨p, n, d, rfl, h1, n0, d0, c1, g1, l1, l2⟩, ⟨q', m, f, rfl, h2, m0, f0, c2, g2, l3, l4⟩, ba, bb, bc, be, bbe, q⟩ := h
  have G_fraction := ok_fraction (P := P) (w := w) (base := base) T
  refine ⟨_, (pss_one (ps_ret (pe_call G_fraction hr rfl T.m_fraction T.F_fraction.kp T.b_fraction .nil pass1 (PAs.h (pas_cons (pe_op oMulN (pe_ix ixAny (pv 0) pe_int (fun _ _ => rfl)) (pe_ix ixAny (pv 1) pe_int (fun _ _ => rfl))) (pas_cons (pe_op oMulN (pe_ix ixAny (pv 0) pe_int (fun _ _ => rfl)) (pe_ix ixAny (pv 1) pe_int (fun _ _ => rfl))) pas_nil)))))), ?_⟩
  have an := abs_lt n0 l1 ba
  have ad := abs_lt d0 l2 bb
  have am := abs_lt m0 l3 bc
  have af := abs_lt f0 l4 be
  have mo1 : MulOk n m := mulB (pow_lt an (by decide)) (pow_lt am (by decide))
  have mo2 : MulOk d f := mulB (pow_lt ad (by decide)) (pow_lt af (by decide))
  have hde : 0 < d * f := Int.mul_pos d0 f0
  have hle : d * f ≤ b * e := Int.mul_le_mul l2 l4 (by omega) (by omega)
  refine ⟨_, rfl, ixT h1 rfl ⟨_, rfl, ixT h2 rfl (.inl ⟨_, _, rfl, rfl, mo1, _, rfl, ixT h1 rfl ⟨_, rfl, ixT h2 rfl (.inl ⟨_, _, rfl, rfl, mo2, ?_⟩)⟩⟩)⟩⟩
  refine ⟨n * m, d * f, rfl, fun z => absurd z (by omega), fun _ => ⟨abs_lt hde hle bbe, fun r hr0 => ?_⟩⟩
  refine q _ _ (same_new hr0 _) ⟨r, _, _, rfl, .inl (.inl upd_same), num_pos (Int.mul_pos n0 m0) hde, den_pos (by omega), FrV.times d0 f0 n0 m0 c1 c2, num_gcd (by omega), ?_, ?_⟩
  · have := num_le (t := n * m) (b := d * f) (by omega)
    have h3 := Int.mul_le_mul l1 l3 (by omega) (by omega)
    have := num_pos (Int.mul_pos n0 m0) hde
    have := Int.mul_pos n0 m0
    omega
  · have := den_le (t := n * m) (b := d * f) (by omega)
    have := den_pos (t := n * m) (b := d * f) (by omega)
    omega
theorem prodI_one (a : List Int) (x : Int) : prodI (a ++ [x]) = prodI a * x := by
  rw [prodI_app]; show _ * (x * 1) = _; rw [Int.mul_one]
def spProduct (K : PySem.W.Frag) : Sp := fun vs H Q _ => ∃ (p : Addr) (xs : List V) (ab : List (Int × Int)), vs = [.ref p] ∧ SqL K H p xs ∧ xs.length = ab.length ∧ (∀ (i : Nat) x e, xs[i]? = some x → ab[i]? = some e → FrV K H x e.1 e.2) ∧
  (∀ i, prodI ((ab.take i).map (·.1)) < 2 ^ 8999 ∧ prodI ((ab.take i).map (·.2)) < 2 ^ 8999) ∧ (∀ e ∈ ab, e.1 < 2 ^ 9000 ∧ e.2 < 2 ^ 9000) ∧ ∀ H' z, Same H H' → FrV K H' z (prodI (ab.map (·.1))) (prodI (ab.map (·.2))) → Q z H'
theorem lt9 {a : Int} (h : a < 2 ^ 8999) : a < 2 ^ 9000 := by
  refine Int.lt_of_lt_of_le h ?_
  have h1 : ((2 ^ 8999 : Nat) : Int) ≤ ((2 ^ 9000 : Nat) : Int) := Int.ofNat_le.mpr (Nat.pow_le_pow_right (by decide) (by decide))
  rw [Int.natCast_pow, Int.natCast_pow] at h1
  exact h1
theorem ok_product (T : Txt K mg t) : FnOk P w K mg base (CX1 P w) 4 t.a_product t.fd_product ["many"] (spProduct K) := by
  refine T.F_product.okn (k := 3) sc_product (fun vs H Q E h => ?_) (fun cdv A outer s H vs Q E hr h => ?_)
  · obtain ⟨p, xs, ab, rfl, _⟩ := h; rfl
  obtain ⟨p, xs, ab, rfl, hp, hl, hf, hb, hb1, q⟩ := h
  have G_times := ok_times (P := P) (w := w) (base := base) T
  refine ⟨_, (pss_cons (ps_set (i := 1) sc_product.nd rfl (Or.inl rfl) (pe_glob (v := .ref t.q_ONE) rfl T.m_ONE rfl))
    (pss_cons (ps_for PassesOwn.never rfl (piAny (pv 0)) (pg_name (i := 2) sc_product.nd rfl (Or.inl rfl)) (pss_one (ps_set (i := 1) sc_product.nd rfl (Or.inl rfl) (pe_call G_times hr rfl T.m_times T.F_times.kp T.b_times .nil pass1 (PAs.h (pas_cons (pv 1) (pas_cons (pv 2) pas_nil)))))))
    (pss_one (ps_ret (pv 1))))), ?_⟩
  refine ⟨_, rfl, .inl ⟨p, xs, rfl, hp, ?_⟩⟩
  refine for_walk (walk_list (xs := xs)) (fun i σ H' => ∃ v r2, σ = [some (.ref p), some v, r2] ∧ Same H H' ∧ FrV K H' v (prodI ((ab.take i).map (·.1))) (prodI ((ab.take i).map (·.2)))) ⟨_, _, rfl, Same.refl _, t.q_ONE, 1, 1, rfl, .inr T.tc_ONE, by decide, by decide, rfl, by decide, Int.le_refl _, Int.le_refl _⟩ (fun i σ H' _ ⟨_, _, _, g, _⟩ => same_lst g hp) ?_ ?_
  · rintro i x _ H' hx ⟨v, r2, rfl, g, hv⟩
    have hi := (List.getElem?_eq_some_iff.mp hx).1
    have he := List.getElem?_eq_getElem (show i < ab.length by omega)
    have hm := List.getElem_mem (show i < ab.length by omega)
    have e1 : prodI ((ab.take (i + 1)).map (·.1)) = prodI ((ab.take i).map (·.1)) * ab[i].1 := by
      rw [List.take_add_one, he, List.map_append]; exact prodI_one _ _
    have e2 : prodI ((ab.take (i + 1)).map (·.2)) = prodI ((ab.take i).map (·.2)) * ab[i].2 := by
      rw [List.take_add_one, he, List.map_append]; exact prodI_one _ _
    have hn := hb (i + 1)
    rw [e2] at hn
    refine ⟨_, rfl, _, rfl, v, x, _, _, _, _, rfl, hv, (hf i x _ hx he).same g, lt9 (hb i).1, lt9 (hb i).2, (hb1 _ hm).1, (hb1 _ hm).2, hn.2, fun H2 z s2 hz => ?_⟩
    refine ⟨z, _, rfl, g.trans s2, ?_⟩
    rw [e1, e2]
    exact hz
  · rintro _ H' ⟨v, r2, rfl, g, hv⟩
    rw [hl, List.take_length] at hv
    exact ⟨_, rfl, q H' v g hv⟩
def spHalf (K : PySem.W.Frag) : Sp := fun vs H Q _ => ∃ x A B, vs = [x] ∧ FrV K H x A B ∧ A < 2 ^ 8990 ∧ B < 2 ^ 8990 ∧ ∀ H' z, Same H H' → FrV K H' z A (2 * B) → Q z H'
theorem ok_half (T : Txt K mg t) : FnOk P w K mg base (CX1 P w) 3 t.a_half t.fd_half ["one"] (spHalf K) := by
  refine T.F_half.okn (k := 2) sc_half (fun vs H Q E h => ?_) (fun cdv A outer s H vs Q E hr h => ?_)
  · obtain ⟨x, _, _, rfl, _⟩ := h; rfl
  obtain ⟨_, a, b, rfl, ⟨p, n, d, rfl, h1, n0, d0, c1, g1, l1, l2⟩, ba, bb, q⟩ := h
  have G_fraction := ok_fraction (P := P) (w := w) (base := base) T
  refine ⟨_, (pss_one (ps_ret (pe_call G_fraction hr rfl T.m_fraction T.F_fraction.kp T.b_fraction .nil pass1 (PAs.h (pas_cons (pe_ix ixAny (pv 0) pe_int (fun _ _ => rfl)) (pas_cons (pe_op oMulN pe_int (pe_ix ixAny (pv 0) pe_int (fun _ _ => rfl))) pas_nil)))))), ?_⟩
  have an := abs_lt n0 l1 ba
  have ad := abs_lt d0 l2 bb
  have h2d : (2 * d).natAbs < 2 ^ 8999 := pow_lt (mul_lt (x := 2) (a := 2) (by decide) ad) (by decide)
  refine ⟨_, rfl, ixT h1 rfl ⟨_, rfl, ixT h1 rfl (.inl ⟨_, _, rfl, rfl, mulL (by decide) (by decide), ?_⟩)⟩⟩
  refine ⟨n, 2 * d, rfl, fun z => absurd z (by omega), fun _ => ⟨h2d, fun r hr0 => ?_⟩⟩
  have hx := num_cross (t := n) (b := 2 * d) (by omega)
  refine q _ _ (same_new hr0 _) ⟨r, _, _, rfl, .inl (.inl upd_same), num_pos n0 (by omega), den_pos (by omega), ?_, num_gcd (by omega), ?_, ?_⟩
  · refine Int.eq_of_mul_eq_mul_right (a := d) (by omega) ?_
    calc num n (2 * d) * (2 * b) * d = (num n (2 * d) * (2 * d)) * b := by simp only [Int.mul_assoc, Int.mul_comm, Int.mul_left_comm]
      _ = (n * b) * den n (2 * d) := by rw [hx]; simp only [Int.mul_assoc, Int.mul_comm, Int.mul_left_comm]
      _ = (a * d) * den n (2 * d) := by rw [c1]
      _ = a * den n (2 * d) * d := by simp only [Int.mul_assoc, Int.mul_comm, Int.mul_left_comm]
  · have := num_le (t := n) (b := 2 * d) (by omega)
    have := num_pos n0 (show 0 < 2 * d by omega)
    omega
  · have := den_le (t := n) (b := 2 * d) (by omega)
    have := den_pos (t := n) (b := 2 * d) (by omega)
    omega
def spShare (K : PySem.W.Frag) : Sp := fun vs H Q _ => ∃ (p : Addr) (ns : List Int) (i c : Int), vs = [.ref p, .int i] ∧ SqL K H p (ns.map V.int) ∧ atI (ns.map V.int) i = some (.int c) ∧ 2 * ns.sum + (ns.length : Int) ≠ 0 ∧ (2 * ns.sum + (ns.length : Int)).natAbs < 2 ^ 8999 ∧
  ∀ r, H r = none → Q (.ref r) (upd H r (.tup [.int (num (2 * c + 1) (2 * ns.sum + ns.length)), .int (den (2 * c + 1) (2 * ns.sum + ns.length))]))
theorem ok_share (T : Txt K mg t) : FnOk P w K mg base (CX1 P w) 3 t.a_share t.fd_share ["counts", "place"] (spShare K) := by
  refine T.F_share.okn (k := 2) sc_share (fun vs H Q E h => ?_) (fun cdv A outer s H vs Q E hr h => ?_)
  · obtain ⟨p, ns, i, c, rfl, _⟩ := h; rfl
  obtain ⟨p, ns, i, c, rfl, hS, hi, h0, hb, q⟩ := h
  have G_fraction := ok_fraction (P := P) (w := w) (base := base) T
  refine ⟨_, (pss_one (ps_ret (pe_call G_fraction hr rfl T.m_fraction T.F_fraction.kp T.b_fraction .nil pass1 (PAs.h (pas_cons (pe_op oAddN (pe_op oMulN pe_int (pe_ix ixAny (pv 0) (pv 1) (fun _ _ => rfl))) pe_int) (pas_cons (pe_op oAddN (pe_op oMulN pe_int (pe_callB (callSum rfl) rfl T.m_sum bt_sum (pa_cons (pv 0) pa_nil))) (pe_callB call_len rfl T.m_len bt_len (pa_cons (pv 0) pa_nil))) pas_nil)))))), ?_⟩
  refine ⟨_, rfl, _, rfl, .inl ⟨_, _, _, _, rfl, rfl, hS, hi, ?_⟩⟩
  repeat array_get_dec
  refine ⟨_, ns, rfl, by array_mem_dec, ?_⟩
  repeat array_get_dec
  refine ⟨fun z => absurd ?_ h0, fun _ => ⟨?_, fun r hr' => ?_⟩⟩
  · rw [List.length_map] at z; exact z
  · rw [List.length_map]; exact hb
  · have := q r hr'
    rw [← List.length_map (f := V.int) (as := ns)] at this
    exact this
theorem topW_zeros0 (m : Nat) : topW (List.replicate m 0) = 1 := by
  induction m with
  | zero => rfl
  | succ m ih => show topW (List.replicate m 0) * oddP 0 = 1; rw [ih]; rfl
theorem ipow_le {a b : Nat} (h : a ≤ b) : (2 : Int) ^ a ≤ 2 ^ b := by
  have h2 : ((2 ^ a : Nat) : Int) ≤ ((2 ^ b : Nat) : Int) := Int.ofNat_le.mpr (Nat.pow_le_pow_right (by decide) h)
  rw [Int.natCast_pow, Int.natCast_pow] at h2
  exact h2
theorem ipow_pos (a : Nat) : (1 : Int) ≤ 2 ^ a := ipow_le (Nat.zero_le a)
theorem mul_le_pow {x y : Int} {a b : Nat} (hy0 : 0 ≤ y) (hx : x ≤ 2 ^ a) (hy : y ≤ 2 ^ b) : x * y ≤ 2 ^ (a + b) := by
  rw [Int.pow_add]
  exact Int.mul_le_mul hx hy hy0 (Int.le_trans (by decide) (ipow_pos a))
theorem prodI_two : ∀ {xs : List Int} {es : List Nat}, xs.length = es.length → (∀ (i : Nat) x e, xs[i]? = some x → es[i]? = some e → 1 ≤ x ∧ x ≤ 2 ^ e) → prodI xs ≤ 2 ^ es.sum
  | [], [], _, _ => by decide
  | x :: xs, e :: es, hl, h => by
    have h1 := h 0 x e rfl rfl
    have h2 := prodI_two (xs := xs) (es := es) (by simpa using hl) fun i y g hy hg => h (i + 1) y g hy hg
    have h3 : 1 ≤ prodI xs := prodI_pos fun y hy => by
      obtain ⟨i, hi, e'⟩ := List.getElem_of_mem hy
      have hi2 : i < es.length := by have : xs.length = es.length := by simpa using hl
                                     omega
      exact (h (i + 1) y _ (by rw [List.getElem?_cons_succ, List.getElem?_eq_getElem hi, e']) (by rw [List.getElem?_cons_succ, List.getElem?_eq_getElem hi2])).1
    show x * prodI xs ≤ _
    rw [List.sum_cons]
    exact mul_le_pow (by omega) h1.2 h2
  | [], _ :: _, hl, _ => by cases hl
  | _ :: _, [], hl, _ => by cases hl
def prodW (ab : List (Int × Int)) : Int × Int := (prodI (ab.map (·.1)), prodI (ab.map (·.2)))
def wo (L : List Nat) (f d : Nat) (l : List Nat) (n : Nat) (k : List Nat) : Int × Int := (topW (cntL L f d l k n), botW L.length (cntL L f d l k n).sum)
def mixW (a b : Int × Int) : Int × Int := (a.1 * b.2 + b.1 * a.2, 2 * (a.2 * b.2))
def wv (L : List Nat) (f d : Nat) (l : List Nat) (n : Nat) : Nat → List Nat → Int × Int
  | 0, k => wo L f d l n k
  | r + 1, k => if seen f d l k n = true then mixW (wo L f d l n k) (prodW (L.map fun c => wv L f d l n r (k ++ [c]))) else (1, 1)
theorem wo_unseen {L : List Nat} {f d : Nat} {l : List Nat} {n : Nat} {k : List Nat} (h : seen f d l k n = false) : wo L f d l n k = (1, 1) := by
  unfold wo
  rw [cntL_zero h, topW_zeros0]
  have : (List.replicate L.length 0).sum = 0 := by
    induction L.length with
    | zero => rfl
    | succ m ih => rw [List.replicate_succ, List.sum_cons, ih]
  rw [this]; rfl
theorem wv_unseen {L : List Nat} {f d : Nat} {l : List Nat} {n r : Nat} {k : List Nat} (h : seen f d l k n = false) : wv L f d l n r k = (1, 1) := by
  cases r with
  | zero => exact wo_unseen h
  | succ r => show (if _ then _ else _) = _; rw [if_neg (by rw [h]; decide)]
theorem wv_seen {L : List Nat} {f d : Nat} {l : List Nat} {n r : Nat} {k : List Nat} (h : seen f d l k n = true) : wv L f d l n (r + 1) k = mixW (wo L f d l n k) (prodW (L.map fun c => wv L f d l n r (k ++ [c]))) := by
  show (if _ then _ else _) = _; rw [if_pos h]
theorem seen_len {f d : Nat} {l k : List Nat} {n : Nat} (h : seen f d l k n = true) : 1 ≤ (sg f d l k n).length := by
  unfold seen at h
  obtain ⟨j, hj, hf⟩ := List.any_eq_true.mp h
  unfold sg
  rw [List.length_map]
  exact List.length_pos_of_mem (List.mem_filter.mpr ⟨hj, hf⟩)
theorem sum_bump {g : Nat → Nat} {c0 : Nat} : ∀ {L : List Nat}, L.Nodup → c0 ∈ L → (L.map fun c => g c + if c = c0 then 1 else 0).sum = (L.map g).sum + 1
  | [], _, h => nomatch h
  | c :: L, hn, h => by
    obtain ⟨h1, h2⟩ := List.nodup_cons.mp hn
    rw [List.map_cons, List.sum_cons, List.map_cons, List.sum_cons]
    by_cases z : c = c0
    · subst z
      have e : (L.map fun c' => g c' + if c' = c then 1 else 0) = L.map g := List.map_congr_left fun y hy => by
        have hne : ¬ y = c := fun e => h1 (e ▸ hy)
        rw [if_neg hne]; rfl
      rw [e, if_pos rfl]; omega
    · rcases List.mem_cons.mp h with e | hm
      · exact absurd e.symm z
      · rw [sum_bump h2 hm, if_neg z]; omega
theorem sum_same {g g' : Nat → Nat} {L : List Nat} (h : ∀ c ∈ L, g' c = g c) : (L.map g').sum = (L.map g).sum := by rw [List.map_congr_left h]
theorem eldL_in {L : List Nat} {f d : Nat} {l : List Nat} {n : Nat} (hf : f ∈ L) (hl : ∀ c ∈ l, c ∈ L) (hn : n ≤ l.length) : ∀ c ∈ eldL f d l n, c ∈ L := fun c hc => by
  unfold eldL at hc
  obtain ⟨j, _, e⟩ := List.mem_map.mp hc
  rw [← e]
  split
  · rename_i z
    rw [List.getD_eq_getElem?_getD, List.getElem?_eq_getElem (show n - 1 - j < l.length by omega)]
    exact hl _ (List.getElem_mem _)
  · exact hf
theorem next_of {f d : Nat} {l k : List Nat} {n : Nat} (hk : k.length < d) (h : k <+: eldL f d l n) : ∃ c0, c0 ∈ eldL f d l n ∧ ∀ c, (k ++ [c]) <+: eldL f d l n ↔ c = c0 := by
  have hlen := eldL_len f d l n
  obtain ⟨u, hu⟩ := h
  cases u with
  | nil =>
    have := congrArg List.length hu
    rw [List.append_nil, hlen] at this
    omega
  | cons c0 u => exact ⟨c0, by rw [← hu]; simp, fun c => by rw [← hu, List.prefix_append_right_inj, List.cons_prefix_cons]; simp⟩
theorem sg_part {L : List Nat} (hL : L.Nodup) {f d : Nat} {l k : List Nat} (hf : f ∈ L) (hl : ∀ c ∈ l, c ∈ L) (hk : k.length < d) : ∀ n, n ≤ l.length → (L.map fun c => (sg f d l (k ++ [c]) n).length).sum = (sg f d l k n).length := by
  intro n
  induction n with
  | zero =>
    intro _
    have z : ∀ L' : List Nat, (L'.map fun c => (sg f d l (k ++ [c]) 0).length).sum = 0 := fun L' => by
      induction L' with
      | nil => rfl
      | cons c L' ih => rw [List.map_cons, List.sum_cons, ih]; rfl
    exact z L
  | succ n ih =>
    intro hn
    have ih' := ih (by omega)
    cases z : falls f d l k n with
    | false =>
      rw [sg_no z, ← ih']
      refine sum_same fun c _ => ?_
      rw [sg_no (falls_no fun h => ?_)]
      have : k <+: eldL f d l n := (List.prefix_append k [c]).trans h
      rw [falls_iff.mpr this] at z; cases z
    | true =>
      obtain ⟨c0, hc0, pre⟩ := next_of hk (falls_iff.mp z)
      have e : (L.map fun c => (sg f d l (k ++ [c]) (n + 1)).length) = L.map fun c => (sg f d l (k ++ [c]) n).length + if c = c0 then 1 else 0 := List.map_congr_left fun c _ => by
        by_cases zc : c = c0
        · rw [sg_yes (falls_iff.mpr ((pre c).mpr zc)), List.length_append, if_pos zc]; rfl
        · rw [sg_no (falls_no fun h => zc ((pre c).mp h)), if_neg zc]; rfl
      rw [e, sum_bump hL (eldL_in hf hl (by omega) _ hc0), ih', sg_yes z, List.length_append]; rfl
def wb (r n : Nat) : Nat := (17 + 18 * r) * n
theorem sum_wb (r : Nat) (g : Nat → Nat) : ∀ L : List Nat, (L.map fun c => wb r (g c)).sum = wb r (L.map g).sum
  | [] => by simp [wb]
  | c :: L => by
    rw [List.map_cons, List.sum_cons, List.map_cons, List.sum_cons, sum_wb r g L]
    unfold wb
    rw [Nat.mul_add]
theorem wb_succ (r n : Nat) : wb (r + 1) n = wb r n + 18 * n := by
  unfold wb
  rw [show 17 + 18 * (r + 1) = (17 + 18 * r) + 18 by omega, Nat.add_mul]
structure P2 (x : Int × Int) (e : Nat) : Prop where
  a1 : 1 ≤ x.1
  b1 : 1 ≤ x.2
  ab : x.1 ≤ 2 ^ e
  bb : x.2 ≤ 2 ^ e
theorem P2.mono {x : Int × Int} {e e' : Nat} (h : P2 x e) (z : e ≤ e') : P2 x e' := ⟨h.a1, h.b1, Int.le_trans h.ab (ipow_le z), Int.le_trans h.bb (ipow_le z)⟩
theorem P2.one (e : Nat) : P2 (1, 1) e := ⟨by decide, by decide, ipow_pos e, ipow_pos e⟩
theorem prodW_ok {ab : List (Int × Int)} {es : List Nat} (hl : ab.length = es.length) (h : ∀ (i : Nat) x e, ab[i]? = some x → es[i]? = some e → P2 x e) : P2 (prodW ab) es.sum := by
  have h0 : ∀ x ∈ ab, ∃ e, P2 x e := fun x hx => by
    obtain ⟨i, hi, e'⟩ := List.getElem_of_mem hx
    exact ⟨_, h i x _ (by rw [List.getElem?_eq_getElem hi, e']) (List.getElem?_eq_getElem (show i < es.length by omega))⟩
  refine ⟨prodI_pos fun y hy => ?_, prodI_pos fun y hy => ?_, prodI_two (by simpa using hl) fun i y e hy he => ?_, prodI_two (by simpa using hl) fun i y e hy he => ?_⟩
  · obtain ⟨x, hx, rfl⟩ := List.mem_map.mp hy
    obtain ⟨_, q⟩ := h0 x hx
    exact q.a1
  · obtain ⟨x, hx, rfl⟩ := List.mem_map.mp hy
    obtain ⟨_, q⟩ := h0 x hx
    exact q.b1
  · rw [List.getElem?_map] at hy
    cases z : ab[i]? with
    | none => rw [z] at hy; cases hy
    | some x => rw [z] at hy; cases hy; exact ⟨(h i x e z he).a1, (h i x e z he).ab⟩
  · rw [List.getElem?_map] at hy
    cases z : ab[i]? with
    | none => rw [z] at hy; cases hy
    | some x => rw [z] at hy; cases hy; exact ⟨(h i x e z he).b1, (h i x e z he).bb⟩
structure Sm (L : List Nat) (f d : Nat) (l : List Nat) : Prop where
  nd : L.Nodup
  l6 : L.length ≤ 6
  fm : f ∈ L
  d6 : d ≤ 6
  ll : l.length ≤ 200
  lb : wb d l.length ≤ 8900
  al : ∀ c ∈ l, c ∈ L
theorem wo_ok {L : List Nat} {f d : Nat} {l : List Nat} (S : Sm L f d l) {n : Nat} (hn : n ≤ l.length) (k : List Nat) : 1 ≤ (wo L f d l n k).1 ∧ 1 ≤ (wo L f d l n k).2 ∧ (wo L f d l n k).1 ≤ 2 ^ (7 + 10 * (sg f d l k n).length) ∧ (wo L f d l n k).2 ≤ 2 ^ (1 + 10 * (sg f d l k n).length) := by
  have h1M : 1 ≤ L.length := List.length_pos_of_mem S.fm
  have hsum : (cntL L f d l k n).sum = (sg f d l k n).length := sg_len S.nd S.al _ hn
  have hle : (sg f d l k n).length ≤ n := sg_le ..
  have h6 := S.l6
  have hll := S.ll
  have h := topW_bd (cntL L f d l k n) (by rw [hsum]; omega)
  rw [hsum, cntL_len] at h
  have h' := botW_bd h1M (by omega) (sg f d l k n).length (by omega)
  unfold wo
  rw [hsum]
  refine ⟨by show 1 ≤ topW _; omega, by show 1 ≤ botW _ _; omega, Int.le_of_lt (int_lt (pow_lt h.2 (by omega))), Int.le_of_lt (int_lt h'.2)⟩
theorem wo_P2 {L : List Nat} {f d : Nat} {l : List Nat} (S : Sm L f d l) {n : Nat} (hn : n ≤ l.length) (k : List Nat) : P2 (wo L f d l n k) (17 * (sg f d l k n).length) := by
  cases z : seen f d l k n with
  | false => rw [wo_unseen z]; exact P2.one _
  | true =>
    obtain ⟨a, b, c, e⟩ := wo_ok S hn k
    have := seen_len z
    exact ⟨a, b, Int.le_trans c (ipow_le (by omega)), Int.le_trans e (ipow_le (by omega))⟩
theorem wch_ok {L : List Nat} {f d : Nat} {l : List Nat} (S : Sm L f d l) {n r : Nat} (hn : n ≤ l.length) {k : List Nat} (hk : k.length < d) (ih : ∀ c, P2 (wv L f d l n r (k ++ [c])) (wb r (sg f d l (k ++ [c]) n).length)) :
    P2 (prodW (L.map fun c => wv L f d l n r (k ++ [c]))) (wb r (sg f d l k n).length) := by
  have := prodW_ok (ab := L.map fun c => wv L f d l n r (k ++ [c])) (es := L.map fun c => wb r (sg f d l (k ++ [c]) n).length) (by simp) fun i x e hx he => by
    rw [List.getElem?_map] at hx he
    cases hc : L[i]? with
    | none => rw [hc] at hx; cases hx
    | some c => rw [hc] at hx he; cases hx; cases he; exact ih c
  rw [sum_wb, sg_part S.nd S.fm S.al hk n hn] at this
  exact this
theorem mix_ok {L : List Nat} {f d : Nat} {l : List Nat} (S : Sm L f d l) {n e : Nat} (hn : n ≤ l.length) {k : List Nat} (hs : 1 ≤ (sg f d l k n).length) {b : Int × Int} (h : P2 b e) : P2 (mixW (wo L f d l n k) b) (e + 18 * (sg f d l k n).length) := by
  obtain ⟨a1, b1, ab, bb⟩ := wo_ok S hn k
  have c1 := h.a1
  have d1 := h.b1
  generalize (sg f d l k n).length = s at *
  generalize wo L f d l n k = a at *
  have m1 := mul_le_pow (by omega) ab h.bb
  have m2 := mul_le_pow (by omega) h.ab bb
  have m3 := mul_le_pow (by omega) bb h.bb
  have p1 : 1 ≤ a.1 * b.2 := Int.mul_pos (by omega) (by omega)
  have p2 : 1 ≤ b.1 * a.2 := Int.mul_pos (by omega) (by omega)
  have p3 : 1 ≤ a.2 * b.2 := Int.mul_pos (by omega) (by omega)
  have q1 : a.1 * b.2 ≤ 2 ^ (e + 18 * s - 1) := Int.le_trans m1 (ipow_le (by omega))
  have q2 : b.1 * a.2 ≤ 2 ^ (e + 18 * s - 1) := Int.le_trans m2 (ipow_le (by omega))
  have q3 : a.2 * b.2 ≤ 2 ^ (e + 18 * s - 1) := Int.le_trans m3 (ipow_le (by omega))
  have q4 : (2 : Int) ^ (e + 18 * s) = 2 ^ (e + 18 * s - 1) * 2 := by rw [← Int.pow_succ]; congr 1; omega
  unfold mixW
  refine ⟨?_, ?_, ?_, ?_⟩
  · show 1 ≤ _ + _; omega
  · show 1 ≤ 2 * _; omega
  · rw [q4]; show _ + _ ≤ _; omega
  · rw [q4]; show 2 * _ ≤ _; omega
theorem wv_ok {L : List Nat} {f d : Nat} {l : List Nat} (S : Sm L f d l) {n : Nat} (hn : n ≤ l.length) : ∀ r k, k.length + r = d → P2 (wv L f d l n r k) (wb r (sg f d l k n).length) := by
  intro r
  induction r with
  | zero => intro k _; exact (wo_P2 S hn k).mono (by unfold wb; omega)
  | succ r ih =>
    intro k hk
    cases z : seen f d l k n with
    | false => rw [wv_unseen z]; exact P2.one _
    | true =>
      rw [wv_seen z, wb_succ]
      exact mix_ok S hn (seen_len z) (wch_ok S hn (by omega) fun c => ih _ (by rw [List.length_append]; show _ + 1 + _ = _; omega))
theorem wo_off {L : List Nat} {f d : Nat} {l : List Nat} {n : Nat} {k : List Nat} (h : ¬ k <+: eldL f d l n) : wo L f d l (n + 1) k = wo L f d l n k := by
  unfold wo; rw [cntL_no (falls_no h)]
theorem wv_off {L : List Nat} {f d : Nat} {l : List Nat} {n : Nat} : ∀ (r : Nat) {k : List Nat}, ¬ k <+: eldL f d l n → wv L f d l (n + 1) r k = wv L f d l n r k
  | 0, k, h => wo_off h
  | r + 1, k, h => by
    show (if _ then _ else _) = (if _ then _ else _)
    rw [seen_no (falls_no h), wo_off h, List.map_congr_left fun c _ => wv_off r (k := k ++ [c]) fun z => h ((List.prefix_append k [c]).trans z)]
theorem botW_succ (m n : Nat) : botW m (n + 1) = botW m n * (2 * (n : Int) + m) := rfl
theorem wo_on {L : List Nat} {f d : Nat} {l : List Nat} {n i c : Nat} {k : List Nat} (hL : L.Nodup) (h : k <+: eldL f d l n) (hi : L[i]? = some c) (hc : l[n]? = some c) : ∃ v : Nat, (cntL L f d l k n)[i]? = some v ∧ cntL L f d l k (n + 1) = (cntL L f d l k n).set i (v + 1) ∧
    wo L f d l (n + 1) k = ((wo L f d l n k).1 * (2 * (v : Int) + 1), (wo L f d l n k).2 * (2 * ((cntL L f d l k n).sum : Nat) + (L.length : Nat))) := by
  obtain ⟨v, h1, h2⟩ := cntL_yes hL (falls_iff.mpr h) hi hc
  refine ⟨v, h1, h2, ?_⟩
  unfold wo
  rw [h2, topW_set h1, sum_set h1, botW_succ]
theorem FrV.plus {n d m e A B C D : Int} (hd : 0 < d) (he : 0 < e) (h1 : n * B = A * d) (h2 : m * D = C * e) : num (n * e + m * d) (d * e) * (B * D) = (A * D + C * B) * den (n * e + m * d) (d * e) := by
  have hde : 0 < d * e := Int.mul_pos hd he
  have hx := num_cross (t := n * e + m * d) (b := d * e) (by omega)
  generalize num (n * e + m * d) (d * e) = N at *
  generalize den (n * e + m * d) (d * e) = M at *
  refine Int.eq_of_mul_eq_mul_right (a := d * e) (by omega) ?_
  calc N * (B * D) * (d * e) = (N * (d * e)) * (B * D) := by simp only [Int.mul_assoc, Int.mul_comm, Int.mul_left_comm]
    _ = ((n * e + m * d) * M) * (B * D) := by rw [hx]
    _ = (n * B) * (e * D) * M + (m * D) * (d * B) * M := by simp only [Int.add_mul, Int.mul_add, Int.mul_assoc, Int.mul_comm, Int.mul_left_comm]
    _ = (A * d) * (e * D) * M + (C * e) * (d * B) * M := by rw [h1, h2]
    _ = (A * D + C * B) * M * (d * e) := by simp only [Int.add_mul, Int.mul_add, Int.mul_assoc, Int.mul_comm, Int.mul_left_comm]
def spPlusF (K : PySem.W.Frag) : Sp := fun vs H Q _ => ∃ x y A B C D, vs = [x, y] ∧ FrV K H x A B ∧ FrV K H y C D ∧ A < 2 ^ 9000 ∧ B < 2 ^ 9000 ∧ C < 2 ^ 9000 ∧ D < 2 ^ 9000 ∧ B * D < 2 ^ 8999 ∧ ∀ H' z, Same H H' → FrV K H' z (A * D + C * B) (B * D) → Q z H'
theorem ok_plus (T : Txt K mg t) : FnOk P w K mg base (CX1 P w) 3 t.a_plus t.fd_plus ["one", "other"] (spPlusF K) := by
  refine T.F_plus.okn (k := 2) sc_plus (fun vs H Q E h => ?_) (fun cdv A outer s H vs Q E hr h => ?_)
  · obtain ⟨x, y, _, _, _, _, rfl, _⟩ := h; rfl
  obtain ⟨_, _, a, b, c, e, rfl, ⟨p, n, d, rfl, h1, n0, d0, c1, g1, l1, l2⟩, ⟨q', m, f, rfl, h2, m0, f0, c2, g2, l3, l4⟩, ba, bb, bc, be, bbe, q⟩ := h
  have G_fraction := ok_fraction (P := P) (w := w) (base := base) T
  refine ⟨_, (pss_one (ps_ret (pe_call G_fraction hr rfl T.m_fraction T.F_fraction.kp T.b_fraction .nil pass1 (PAs.h (pas_cons (pe_op oAddN (pe_op oMulN (pe_ix ixAny (pv 0) pe_int (fun _ _ => rfl)) (pe_ix ixAny (pv 1) pe_int (fun _ _ => rfl))) (pe_op oMulN (pe_ix ixAny (pv 1) pe_int (fun _ _ => rfl)) (pe_ix ixAny (pv 0) pe_int (fun _ _ => rfl)))) (pas_cons (pe_op oMulN (pe_ix ixAny (pv 0) pe_int (fun _ _ => rfl)) (pe_ix ixAny (pv 1) pe_int (fun _ _ => rfl))) pas_nil)))))), ?_⟩
  have an := abs_lt n0 l1 ba
  have ad := abs_lt d0 l2 bb
  have am := abs_lt m0 l3 bc
  have af := abs_lt f0 l4 be
  have mo1 : MulOk n f := mulB (pow_lt an (by decide)) (pow_lt af (by decide))
  have mo2 : MulOk m d := mulB (pow_lt am (by decide)) (pow_lt ad (by decide))
  have mo3 : MulOk d f := mulB (pow_lt ad (by decide)) (pow_lt af (by decide))
  have hde : 0 < d * f := Int.mul_pos d0 f0
  have hle : d * f ≤ b * e := Int.mul_le_mul l2 l4 (by omega) (by omega)
  have p1 : 0 < n * f := Int.mul_pos n0 f0
  have p2 : 0 < m * d := Int.mul_pos m0 d0
  have k1 : n * f ≤ a * e := Int.mul_le_mul l1 l4 (by omega) (by omega)
  have k2 : m * d ≤ c * b := Int.mul_le_mul l3 l2 (by omega) (by omega)
  refine ⟨_, rfl, ixT h1 rfl ⟨_, rfl, ixT h2 rfl (.inl ⟨_, _, rfl, rfl, mo1, _, rfl, ixT h2 rfl ⟨_, rfl, ixT h1 rfl (.inl ⟨_, _, rfl, rfl, mo2, .inl ⟨_, _, rfl, rfl, ?_⟩⟩)⟩⟩)⟩⟩
  refine ⟨_, rfl, ixT h1 rfl ⟨_, rfl, ixT h2 rfl (.inl ⟨_, _, rfl, rfl, mo3, ?_⟩)⟩⟩
  refine ⟨n * f + m * d, d * f, rfl, fun z => absurd z (by omega), fun _ => ⟨abs_lt hde hle bbe, fun r hr0 => ?_⟩⟩
  refine q _ _ (same_new hr0 _) ⟨r, _, _, rfl, .inl (.inl upd_same), num_pos (by omega) hde, den_pos (by omega), FrV.plus d0 f0 c1 c2, num_gcd (by omega), ?_, ?_⟩
  · have := num_le (t := n * f + m * d) (b := d * f) (by omega)
    have := num_pos (show 0 < n * f + m * d by omega) hde
    omega
  · have := den_le (t := n * f + m * d) (b := d * f) (by omega)
    have := den_pos (t := n * f + m * d) (b := d * f) (by omega)
    omega
def off (p t r : Addr) (H : Hp) : Hp := fun b => if b = p ∨ b = t ∨ b = r then none else H b
theorem off_sub (p t r : Addr) (H : Hp) : Same (off p t r H) H := fun b o h => by
  unfold off at h
  split at h
  · cases h
  · exact h
theorem off_same {p t r : Addr} {H H' : Hp} (s : Same H H') : Same (off p t r H) (off p t r H') := fun b o h => by
  unfold off at h ⊢
  split at h
  · cases h
  · rename_i z; rw [if_neg z]; exact s _ _ h
theorem off_at {p t r a : Addr} {H : Hp} {o : HO} (h : H a = some o) (h1 : a ≠ p) (h2 : a ≠ t) (h3 : a ≠ r) : off p t r H a = some o := by
  unfold off
  rw [if_neg (by rintro (z | z | z) <;> contradiction)]
  exact h
theorem off_put {p t r a : Addr} {H : Hp} {o : HO} (h : a = p ∨ a = t ∨ a = r) : off p t r (upd H a o) = off p t r H := by
  funext b
  unfold off
  by_cases z : b = p ∨ b = t ∨ b = r
  · rw [if_pos z, if_pos z]
  · rw [if_neg z, if_neg z]
    exact upd_ne fun e => z (e ▸ h)
structure Three (C p t r : Addr) (H : Hp) : Prop where
  ob : ∃ dx fs, H p = some (.ins C dx fs)
  td : ∃ kvs, H t = some (.dK kvs)
  rl : ∃ rs, H r = some (.lst rs)
theorem Three.same {C p t r : Addr} {H H' : Hp} (h : Three C p t r H) (s : Same H H') : Three C p t r H' :=
  ⟨let ⟨a, b, e⟩ := h.ob; ⟨a, b, s _ _ e⟩, let ⟨a, e⟩ := h.td; ⟨a, s _ _ e⟩, let ⟨a, e⟩ := h.rl; ⟨a, s _ _ e⟩⟩
theorem Three.tup {C p t r a : Addr} {H : Hp} {xs : List V} (T3 : Three C p t r H) (h : SqT K H a xs) : SqT K (off p t r H) a xs := by
  obtain ⟨⟨_, _, e1⟩, ⟨_, e2⟩, ⟨_, e3⟩⟩ := T3
  rcases h with (h | ⟨o, h⟩) | h
  · exact .inl (.inl (off_at h (fun z => by rw [z, e1] at h; cases h) (fun z => by rw [z, e2] at h; cases h) (fun z => by rw [z, e3] at h; cases h)))
  · exact .inl (.inr ⟨o, off_at h (fun z => by rw [z, e1] at h; cases h) (fun z => by rw [z, e2] at h; cases h) (fun z => by rw [z, e3] at h; cases h)⟩)
  · exact .inr h
theorem Three.fr {C p t r : Addr} {H : Hp} {x : V} {A B : Int} (T3 : Three C p t r H) (h : FrV K H x A B) : FrV K (off p t r H) x A B := by
  obtain ⟨q, n, d, e, h1, h2⟩ := h
  exact ⟨q, n, d, e, T3.tup h1, h2⟩
def EAt (K : PySem.W.Frag) (F : Hp) (v : V) (L : List Nat) (f d : Nat) (l : List Nat) (n : Nat) (k : List Nat) : Prop :=
  ∃ e q x y, v = .ref e ∧ SqT K F e [.ref q, x, y] ∧ SqL K F q (ivs (cntL L f d l k n)) ∧ FrV K F x (wo L f d l n k).1 (wo L f d l n k).2 ∧ FrV K F y (wv L f d l n (d - k.length) k).1 (wv L f d l n (d - k.length) k).2
theorem EAt.same {F F' : Hp} {v : V} {L : List Nat} {f d : Nat} {l : List Nat} {n : Nat} {k : List Nat} (h : EAt K F v L f d l n k) (s : Same F F') : EAt K F' v L f d l n k := by
  obtain ⟨e, q, x, y, e0, h1, h2, h3, h4⟩ := h
  exact ⟨e, q, x, y, e0, same_tup s h1, same_lst s h2, h3.same s, h4.same s⟩
theorem EAt.congr {F : Hp} {v : V} {L : List Nat} {f d : Nat} {l : List Nat} {n m : Nat} {k : List Nat} (h : EAt K F v L f d l n k) (h1 : cntL L f d l k m = cntL L f d l k n) (h2 : wv L f d l m (d - k.length) k = wv L f d l n (d - k.length) k) : EAt K F v L f d l m k := by
  unfold EAt wo at *
  rw [h1, h2]; exact h
def RPair (K : PySem.W.Frag) (F : Hp) (L : List Nat) (f d : Nat) (l : List Nat) (x : V) (j : Nat) (k : List Nat) : Prop := ∃ ch y, x = .ref ch ∧ SqT K F ch [vt k, y] ∧ ((y = .non ∧ seen f d l k j = false) ∨ (seen f d l k j = true ∧ EAt K F y L f d l j k))
theorem RPair.same {F F' : Hp} {L : List Nat} {f d : Nat} {l : List Nat} {x : V} {j : Nat} {k : List Nat} (h : RPair K F L f d l x j k) (s : Same F F') : RPair K F' L f d l x j k := by
  obtain ⟨ch, y, e, h1, h2⟩ := h
  exact ⟨ch, y, e, same_tup s h1, h2.imp id fun ⟨a, b⟩ => ⟨a, b.same s⟩⟩
def RL (K : PySem.W.Frag) (F : Hp) (L : List Nat) (f d : Nat) (l : List Nat) (v : V) (j : Nat) : Prop := ∃ a xs, v = .ref a ∧ SqL K F a xs ∧ xs.length = d + 1 ∧ ∀ (i : Nat) x, xs[i]? = some x → RPair K F L f d l x j ((eldL f d l j).take (d - i))
theorem RL.same {F F' : Hp} {L : List Nat} {f d : Nat} {l : List Nat} {v : V} {j : Nat} (h : RL K F L f d l v j) (s : Same F F') : RL K F' L f d l v j := by
  obtain ⟨a, xs, e, h1, h2, h3⟩ := h
  exact ⟨a, xs, e, same_lst s h1, h2, fun i x hx => (h3 i x hx).same s⟩
structure GT (K : PySem.W.Frag) (F : Hp) (L : List Nat) (f d : Nat) (l : List Nat) (kvs : List (Key × V)) (m : List Nat → Nat) : Prop where
  non : ∀ kn, valV kvs (key kn) = none → kn.length ≤ d → seen f d l kn (m kn) = false
  som : ∀ kn v, valV kvs (key kn) = some v → kn.length ≤ d → seen f d l kn (m kn) = true ∧ EAt K F v L f d l (m kn) kn
theorem GT.same {F F' : Hp} {L : List Nat} {f d : Nat} {l : List Nat} {kvs : List (Key × V)} {m : List Nat → Nat} (h : GT K F L f d l kvs m) (s : Same F F') : GT K F' L f d l kvs m :=
  ⟨h.non, fun kn v e hk => ⟨(h.som kn v e hk).1, (h.som kn v e hk).2.same s⟩⟩
def gflds (fr : Addr) (x : V) (tb rp : Addr) : List (Str × V) := [("frame", .ref fr), ("text", x), ("table", .ref tb), ("replaced", .ref rp)]
theorem gf_frame (fr : Addr) (x : V) (tb rp : Addr) : (gflds fr x tb rp).lookup ("frame" : Str) = some (.ref fr) := rfl
theorem gf_text (fr : Addr) (x : V) (tb rp : Addr) : (gflds fr x tb rp).lookup ("text" : Str) = some x := by with_unfolding_all rfl
theorem gf_table (fr : Addr) (x : V) (tb rp : Addr) : (gflds fr x tb rp).lookup ("table" : Str) = some (.ref tb) := by with_unfolding_all rfl
theorem gf_rep (fr : Addr) (x : V) (tb rp : Addr) : (gflds fr x tb rp).lookup ("replaced" : Str) = some (.ref rp) := by with_unfolding_all rfl
theorem gf_made (fr : Addr) (x : V) (tb rp : Addr) : putF ("replaced" : Str) (.ref rp) (putF ("table" : Str) (.ref tb) (putF ("text" : Str) x (putF ("frame" : Str) (.ref fr) []))) = gflds fr x tb rp := by with_unfolding_all rfl
theorem gf_put (fr : Addr) (x y : V) (tb rp : Addr) : putF ("text" : Str) y (gflds fr x tb rp) = gflds fr y tb rp := by with_unfolding_all rfl
theorem gf_no (fr : Addr) (x : V) (tb rp : Addr) : (gflds fr x tb rp).lookup ("entry" : Str) = none ∧ (gflds fr x tb rp).lookup ("branching" : Str) = none ∧ (gflds fr x tb rp).lookup ("changes" : Str) = none ∧ (gflds fr x tb rp).lookup ("weight" : Str) = none ∧ (gflds fr x tb rp).lookup ("grow" : Str) = none ∧ (gflds fr x tb rp).lookup ("shrink" : Str) = none ∧ (gflds fr x tb rp).lookup ("weight_with" : Str) = none := by
  refine ⟨?_, ?_, ?_, ?_, ?_, ?_, ?_⟩ <;> with_unfolding_all rfl
structure GO (K : PySem.W.Frag) (C p tb rp fr : Addr) (H : Hp) (f : Nat) (L : List Nat) (d : Nat) (l : List Nat) (n B : Nat) : Prop where
  ob : ∃ dx, H p = some (.ins C dx (gflds fr (vt (l.take n)) tb rp))
  td : ∃ kvs, H tb = some (.dK kvs) ∧ kvs.length ≤ B ∧ GT K (off p tb rp H) (f :: L) f d l kvs (fun _ => n)
  rl : ∃ rs, H rp = some (.lst rs) ∧ rs.length = n ∧ ∀ (j : Nat) v, rs[j]? = some v → RL K (off p tb rp H) (f :: L) f d l v j
  fa : SqT K (off p tb rp H) fr [vt (f :: L), .int d]
theorem GO.three {C p tb rp fr : Addr} {H : Hp} {f : Nat} {L : List Nat} {d : Nat} {l : List Nat} {n B : Nat} (h : GO K C p tb rp fr H f L d l n B) : Three C p tb rp H :=
  ⟨let ⟨a, e⟩ := h.ob; ⟨a, _, e⟩, let ⟨a, e, _⟩ := h.td; ⟨a, e⟩, let ⟨a, e, _⟩ := h.rl; ⟨a, e⟩⟩
theorem GO.same {C p tb rp fr : Addr} {H H' : Hp} {f : Nat} {L : List Nat} {d : Nat} {l : List Nat} {n B : Nat} (h : GO K C p tb rp fr H f L d l n B) (s : Same H H') : GO K C p tb rp fr H' f L d l n B :=
  ⟨let ⟨a, e⟩ := h.ob; ⟨a, s _ _ e⟩, let ⟨a, e, z, g⟩ := h.td; ⟨a, s _ _ e, z, g.same (off_same s)⟩, let ⟨a, e, z, y⟩ := h.rl; ⟨a, s _ _ e, z, fun j v hj => (y j v hj).same (off_same s)⟩, same_tup (off_same s) h.fa⟩
theorem one_fr (T : Txt K mg t) (H : Hp) : FrV K H (.ref t.q_ONE) 1 1 := ⟨t.q_ONE, 1, 1, rfl, .inr T.tc_ONE, by decide, by decide, rfl, by decide, Int.le_refl _, Int.le_refl _⟩
def spGInit (C : Addr) : Sp := fun vs H Q _ => ∃ (p fr dx : Addr), vs = [.ref p, .ref fr] ∧ H p = some (.ins C dx []) ∧ ∀ tb rp H', H tb = none → H rp = none → tb ≠ rp → H' p = some (.ins C dx (gflds fr (vt []) tb rp)) → H' tb = some (.dK []) → H' rp = some (.lst []) →
  (∀ b o, H b = some o → b ≠ p → H' b = some o) → Q .non H'
theorem ok_Growth_init (T : Txt K mg t) : FnOk P w K mg base (CX1 P w) 1 t.a_Growth_init t.fd_Growth_init ["self", "frame"] (spGInit t.c_Growth) := by
  refine T.F_Growth_init.okn (k := 0) sc_Growth_init (fun vs H Q E h => ?_) (fun cdv A outer s H vs Q E hr h => ?_)
  · obtain ⟨p, fr, dx, rfl, _⟩ := h; rfl
  obtain ⟨p, fr, dx, rfl, hp, q⟩ := h
  refine ⟨_, (pss_cons (ps_fld (pv 0) (pv 1) rfl)
    (pss_cons (ps_fld (pv 0) pe_str rfl)
    (pss_cons (ps_fld (pv 0) pe_dnewK rfl)
    (pss_one (ps_fld (pv 0) (pe_lst pa_nil) rfl))))), ?_⟩
  refine ⟨_, rfl, _, rfl, p, _, dx, [], rfl, hp, T.cl_Growth, T.na_Growth_frame, (by show 0 < 1000; decide), ?_⟩
  refine ⟨_, rfl, p, _, dx, _, rfl, upd_same, T.cl_Growth, T.na_Growth_text, (by show 1 < 1000; decide), ?_⟩
  intro tb htb
  have hu : ∀ (F : Hp) o x, upd F p o x = none → p ≠ x := fun F o x z e => by rw [← e, upd_same] at z; cases z
  have n1 : p ≠ tb := hu _ _ _ htb
  rw [upd_ne n1.symm, upd_ne n1.symm] at htb
  refine ⟨_, rfl, p, _, dx, _, rfl, (by rw [upd_ne n1]; exact upd_same), T.cl_Growth, T.na_Growth_table, (by show 2 < 1000; decide), ?_⟩
  refine ⟨by rw [sizeLine_eq]; show 0 ≤ _; decide, fun rp hrp => ?_⟩
  have n2 : p ≠ rp := hu _ _ _ hrp
  rw [upd_ne n2.symm] at hrp
  have n3 : tb ≠ rp := fun e => by rw [← e, upd_same] at hrp; cases hrp
  rw [upd_ne n3.symm, upd_ne n2.symm, upd_ne n2.symm] at hrp
  refine ⟨_, rfl, p, _, dx, _, rfl, (by rw [upd_ne n2]; exact upd_same), T.cl_Growth, T.na_Growth_replaced, (by show 3 < 1000; decide), ?_⟩
  refine q tb rp _ htb hrp n3 ?_ ?_ ?_ fun b o hb hne => ?_
  · rw [upd_same]; exact congrArg (fun z => some (HO.ins t.c_Growth dx z)) ((gf_made fr _ tb rp).trans (by rw [str_nil0]))
  · rw [upd_ne n1.symm, upd_ne n3, upd_ne n1.symm, upd_same]
  · rw [upd_ne n2.symm, upd_same]
  · have b1 : b ≠ tb := fun e => by rw [e, htb] at hb; cases hb
    have b2 : b ≠ rp := fun e => by rw [e, hrp] at hb; cases hb
    rw [upd_ne hne, upd_ne b2, upd_ne hne, upd_ne b1, upd_ne hne, upd_ne hne]; exact hb
def spEntry (K : PySem.W.Frag) (C : Addr) : Sp := fun vs H Q _ => ∃ (p tb rp fr : Addr) (f : Nat) (L : List Nat) (d : Nat) (l : List Nat) (n B : Nat) (k : List Nat), vs = [.ref p, vt k] ∧ GO K C p tb rp fr H f L d l n B ∧ (f :: L).length ≤ 100 ∧ k.length ≤ d ∧
  ∀ z H', Same H H' → EAt K (off p tb rp H') z (f :: L) f d l n k → Q z H'
theorem ok_Growth_entry (T : Txt K mg t) : FnOk P w K mg base (CX1 P w) 2 t.a_Growth_entry t.fd_Growth_entry ["self", "knot"] (spEntry K t.c_Growth) := by
  refine T.F_Growth_entry.okn (k := 1) sc_Growth_entry (fun vs H Q E h => ?_) (fun cdv A outer s H vs Q E hr h => ?_)
  · obtain ⟨p, tb, rp, fr, f, L, d, l, n, B, k, rfl, _⟩ := h; rfl
  obtain ⟨p, tb, rp, fr, f, L, d, l, n, B, k, rfl, G, hL, hk, q⟩ := h
  have G_no_counts := ok_no_counts (P := P) (w := w) (base := base) T
  obtain ⟨dx, ob⟩ := G.ob
  obtain ⟨kvs, td, kl, gt⟩ := G.td
  refine ⟨_, (pss_one (ps_ret (pe_dget2 (hu_of hr) (pe_fld (pv 0) rfl) (pv 1) (pe_tup (PAs.h (pas_cons (pe_call G_no_counts hr rfl T.m_no_counts T.F_no_counts.kp T.b_no_counts .nil pass1 (pa_cons (pe_fld (pv 0) rfl) pa_nil)) (pas_cons (pe_glob (v := .ref t.q_ONE) rfl T.m_ONE rfl) (pas_cons (pe_glob (v := .ref t.q_ONE) rfl T.m_ONE rfl) pas_nil))))) ⟨rfl, rfl, rfl, rfl⟩))), ?_⟩
  refine ⟨_, rfl, p, _, dx, _, _, rfl, ob, T.cl_Growth, T.na_Growth_table, gf_table .., tb, rfl, .inl ⟨kvs, .inl td⟩, _, rfl, ?_⟩
  refine ⟨_, rfl, p, _, dx, _, _, rfl, ob, T.cl_Growth, T.na_Growth_frame, gf_frame .., ?_⟩
  refine ⟨fr, f :: L, _, rfl, same_tup (off_sub _ _ _ _) G.fa, hL, fun r H1 s1 hr0 e1 => ?_⟩
  refine ⟨by rw [sizeLine_eq]; show 3 ≤ _; decide, fun u hu => ?_⟩
  have s2 : Same H (upd H1 u (.tup [.ref r, .ref t.q_ONE, .ref t.q_ONE])) := new_same hu s1
  have e2 : upd H1 u (.tup [.ref r, .ref t.q_ONE, .ref t.q_ONE]) u = some (.tup [.ref r, .ref t.q_ONE, .ref t.q_ONE]) := upd_same
  have e3 := new_at (o := .tup [.ref r, .ref t.q_ONE, .ref t.q_ONE]) hu e1
  try dsimp (config := { proj := false, eta := false, zeta := false, iota := false }) only [tNil, tC]
  generalize upd H1 u (.tup [.ref r, .ref t.q_ONE, .ref t.q_ONE]) = H2 at s2 e2 e3 ⊢
  refine ⟨valV kvs (key k), DGet.k (k := key k) (s2 _ _ td), ?_⟩
  refine q _ _ s2 ?_
  cases z : valV kvs (key k) with
  | some v => exact (gt.som k v z hk).2.same (off_same s2)
  | none =>
    have hs := gt.non k z hk
    have T3 := G.three.same s2
    have nr : r ≠ p ∧ r ≠ tb ∧ r ≠ rp := by
      obtain ⟨⟨_, _, a1⟩, ⟨_, a2⟩, ⟨_, a3⟩⟩ := G.three
      exact ⟨fun y => (by rw [y, a1] at hr0; cases hr0), fun y => (by rw [y, a2] at hr0; cases hr0), fun y => (by rw [y, a3] at hr0; cases hr0)⟩
    refine ⟨u, r, .ref t.q_ONE, .ref t.q_ONE, rfl, T3.tup (.inl (.inl e2)), .inl (.inl (off_at ?_ nr.1 nr.2.1 nr.2.2)), ?_, ?_⟩
    · rw [cntL_zero hs]; exact e3
    · rw [wo_unseen hs]; exact one_fr T _
    · rw [wv_unseen hs]; exact one_fr T _
def mn (H : Hp) (D : Addr) : Hp := fun b => if b = D then none else H b
theorem mn_same (H : Hp) (D : Addr) : Same (mn H D) H := fun b o h => by
  unfold mn at h
  by_cases z : b = D
  · rw [if_pos z] at h; cases h
  · rw [if_neg z] at h; exact h
theorem mn_at {H : Hp} {D a : Addr} {o : HO} (h : H a = some o) (ne : a ≠ D) : mn H D a = some o := by unfold mn; rw [if_neg ne]; exact h
theorem mn_up {H1 H2 : Hp} {D : Addr} (h : ∀ b o, b ≠ D → H1 b = some o → H2 b = some o) : Same (mn H1 D) (mn H2 D) := fun b o e => by
  unfold mn at e ⊢
  by_cases z : b = D
  · rw [if_pos z] at e; cases e
  · rw [if_neg z] at e ⊢; exact h b o z e
theorem ne_lst' {H : Hp} {D a : Addr} {ys vs : List V} (hD : H D = some (.lst ys)) (h : H a = some (.tup vs)) : a ≠ D := fun z => by rw [z, hD] at h; cases h
theorem SqT.minus {H : Hp} {D a : Addr} {ys vs : List V} (hD : H D = some (.lst ys)) (h : SqT K H a vs) : SqT K (mn H D) a vs := by
  rcases h with (h | ⟨o, h⟩) | h
  · exact .inl (.inl (mn_at h (ne_lst' hD h)))
  · exact .inl (.inr ⟨o, mn_at h (fun z => by rw [z, hD] at h; cases h)⟩)
  · exact .inr h
theorem FrV.minus {H : Hp} {D : Addr} {ys : List V} (hD : H D = some (.lst ys)) {x : V} {A B : Int} (h : FrV K H x A B) : FrV K (mn H D) x A B := by
  obtain ⟨p, n, d, e, h1, h2⟩ := h
  exact ⟨p, n, d, e, SqT.minus hD h1, h2⟩
theorem wb_le {L : List Nat} {f d : Nat} {l : List Nat} (S : Sm L f d l) {r m : Nat} (hr : r ≤ d) (hm : m ≤ l.length) : wb r m ≤ 8900 := by
  refine Nat.le_trans ?_ S.lb
  unfold wb
  exact Nat.mul_le_mul (by omega) hm
theorem lt_pow {x : Int} {a b : Nat} (h : x ≤ 2 ^ a) (hab : a < b) : x < 2 ^ b := by
  have h1 : (2 : Int) ^ (a + 1) ≤ 2 ^ b := ipow_le (by omega)
  have h2 : (2 : Int) ^ (a + 1) = 2 ^ a * 2 := Int.pow_succ ..
  have h3 := ipow_pos a
  omega
theorem prod_pre {xs : List Int} (h : ∀ x ∈ xs, 1 ≤ x) {e : Nat} (hp : prodI xs ≤ 2 ^ e) (i : Nat) : prodI (xs.take i) ≤ 2 ^ e := by
  have h1 : prodI (xs.take i) ≤ prodI (xs.take i ++ xs.drop i) := prodI_le (fun x m => h x (List.mem_of_mem_take m)) (fun x m => h x (List.mem_of_mem_drop m))
  rw [List.take_append_drop] at h1
  exact Int.le_trans h1 hp
def wch (L : List Nat) (f d : Nat) (l : List Nat) (n r : Nat) (k : List Nat) : List (Int × Int) := L.map fun c => wv L f d l n r (k ++ [c])
def spBranching (K : PySem.W.Frag) (C : Addr) : Sp := fun vs H Q _ => ∃ (p tb rp fr : Addr) (f : Nat) (L : List Nat) (d : Nat) (l : List Nat) (n B : Nat) (k : List Nat) (r : Nat) (c0 : Nat) (ch : Addr) (v : V), vs = [.ref p, vt k, .ref ch] ∧ GO K C p tb rp fr H f L d l n B ∧ Sm (f :: L) f d l ∧ n < l.length ∧ k.length + (r + 1) = d ∧
  (∀ c, (k ++ [c]) <+: eldL f d l n ↔ c = c0) ∧ SqT K H ch [vt (k ++ [c0]), v] ∧ EAt K H v (f :: L) f d l (n + 1) (k ++ [c0]) ∧ ∀ z H', Same H H' → FrV K H' z (prodW (wch (f :: L) f d l (n + 1) r k)).1 (prodW (wch (f :: L) f d l (n + 1) r k)).2 → Q z H'
theorem ok_Growth_branching (T : Txt K mg t) : FnOk P w K mg base (CX1 P w) 5 t.a_Growth_branching t.fd_Growth_branching ["self", "knot", "changed"] (spBranching K t.c_Growth) := by
  refine T.F_Growth_branching.okn (k := 4) sc_Growth_branching (fun vs H Q E h => ?_) (fun cdv A outer s H vs Q E hr h => ?_)
  · obtain ⟨p, tb, rp, fr, f, L, d, l, n, B, k, r, c0, ch, v, rfl, _⟩ := h; rfl
  obtain ⟨p, tb, rp, fr, f, L, d, l, n, B, k, r, c0, ch, v, rfl, G, S, hn, hk, pre, hch, hv, q⟩ := h
  have G_Growth_entry := (ok_Growth_entry (P := P) (w := w) (base := base) T).mono (show 2 ≤ 4 by decide)
  have G_product := ok_product (P := P) (w := w) (base := base) T
  have l6 := S.l6
  have d6 := S.d6
  have hwv : ∀ c, P2 (wv (f :: L) f d l (n + 1) r (k ++ [c])) (wb r (sg f d l (k ++ [c]) (n + 1)).length) := fun c => wv_ok S (by omega) r (k ++ [c]) (by rw [List.length_append]; show _ + 1 + _ = _; omega)
  have hW : P2 (prodW (wch (f :: L) f d l (n + 1) r k)) 8900 := (wch_ok S (show n + 1 ≤ l.length by omega) (show k.length < d by omega) hwv).mono (wb_le S (by omega) (Nat.le_trans (sg_le ..) (by omega)))
  have hWe : ∀ e ∈ wch (f :: L) f d l (n + 1) r k, P2 e 8900 := fun e he => by
    obtain ⟨c, _, rfl⟩ := List.mem_map.mp he
    exact (hwv c).mono (wb_le S (by omega) (Nat.le_trans (sg_le ..) (by omega)))
  refine ⟨_, (pss_cons (ps_set (i := 3) sc_Growth_branching.nd rfl (Or.inl rfl) (pe_lst pa_nil))
    (pss_cons (ps_for PassesOwn.never rfl (piAny (pe_ix ixAny (pe_fld (pv 0) rfl) pe_int (fun _ _ => rfl))) (pg_name (i := 4) sc_Growth_branching.nd rfl (Or.inl rfl)) (pss_one (ps_if (pt_cmpR (oEqA (hr.units0)) (pe_op oAddN (pv 1) (pv 4)) (pe_ix ixAny (pv 2) pe_int (fun _ _ => rfl)) (nomark _)) (pss_one (ps_expr (pe_bm PySem.F.plainAttrs_list PySem.F.slot_list_append PySem.F.type_list_append mt_app (pv 3) (pa_cons (pe_ix ixAny (pe_ix ixAny (pv 2) pe_int (fun _ _ => rfl)) (pe_glob (v := .int 2) rfl T.m_WEIGHT ⟨_, rfl⟩) (fun _ _ => rfl)) pa_nil)))) (pss_one (ps_expr (pe_bm PySem.F.plainAttrs_list PySem.F.slot_list_append PySem.F.type_list_append mt_app (pv 3) (pa_cons (pe_ix ixAny (pe_meth (pv 0) T.cl_Growth T.me_Growth_entry G_Growth_entry hr T.b_Growth_entry .nil pass1 (pa_cons (pe_op oAddN (pv 1) (pv 4)) pa_nil)) (pe_glob (v := .int 2) rfl T.m_WEIGHT ⟨_, rfl⟩) (fun _ _ => rfl)) pa_nil)))))))
    (pss_one (ps_ret (pe_call G_product hr rfl T.m_product T.F_product.kp T.b_product .nil pass1 (pa_cons (pv 3) pa_nil)))))), ?_⟩
  obtain ⟨dx, ob⟩ := G.ob
  refine ⟨by rw [sizeLine_eq]; show 0 ≤ _; decide, fun D hD => ?_⟩
  have s0 : Same H (upd H D (.lst [])) := same_new hD _
  have e0 : upd H D (.lst []) D = some (.lst []) := upd_same
  try dsimp (config := { proj := false, eta := false, zeta := false, iota := false }) only [tNil, tC]
  generalize upd H D (.lst []) = H0 at s0 e0 ⊢
  refine ⟨_, rfl, p, _, dx, _, _, rfl, s0 _ _ ob, T.cl_Growth, T.na_Growth_frame, gf_frame _ _ _ _, ?_⟩
  refine ixT (same_tup s0 (same_tup (off_sub _ _ _ _) G.fa)) rfl (.inr (.inr ⟨_, rfl, ?_⟩))
  refine for_walk (walk_tx (f :: L)) (fun i σ H' => ∃ ts r4, σ = [some (.ref p), some (vt k), some (.ref ch), some (.ref D), r4] ∧ Same H H' ∧ H' D = some (.lst ts) ∧ ts.length = i ∧
    ∀ (j : Nat) v e, ts[j]? = some v → (wch (f :: L) f d l (n + 1) r k)[j]? = some e → FrV K (mn H' D) v e.1 e.2) ⟨[], _, rfl, s0, e0, rfl, fun j v c h => nomatch h⟩ (fun _ _ _ _ _ => trivial) ?_ ?_
  · rintro i x _ H1 hx ⟨ts, r4, rfl, g, eD, hts, hfr⟩
    obtain ⟨c, hc, rfl⟩ := sign_at hx
    have hi := (List.getElem?_eq_some_iff.mp hx).1
    have hil := (List.getElem?_eq_some_iff.mp hc).1
    have hkc : (k ++ [c]).length = k.length + 1 := by rw [List.length_append]; rfl
    have fin : ∀ (H2 : Hp) (y : V), Same H1 H2 → FrV K H2 y (wv (f :: L) f d l (n + 1) r (k ++ [c])).1 (wv (f :: L) f d l (n + 1) r (k ++ [c])).2 → ∃ ts' r4', ([some (.ref p), some (vt k), some (.ref ch), some (.ref D), some (vt [c])] : L2.St) = [some (.ref p), some (vt k), some (.ref ch), some (.ref D), r4'] ∧ Same H (upd H2 D (.lst (ts ++ [y]))) ∧ upd H2 D (.lst (ts ++ [y])) D = some (.lst ts') ∧ ts'.length = i + 1 ∧
        ∀ (j : Nat) v e, ts'[j]? = some v → (wch (f :: L) f d l (n + 1) r k)[j]? = some e → FrV K (mn (upd H2 D (.lst (ts ++ [y]))) D) v e.1 e.2 := fun H2 y s2 hy => by
      have up : Same (mn H2 D) (mn (upd H2 D (.lst (ts ++ [y]))) D) := mn_up fun b o hb e => by rw [upd_ne hb]; exact e
      refine ⟨ts ++ [y], _, rfl, over_same hD (g.trans s2), upd_same, by rw [List.length_append, hts]; rfl, fun j v e hv he => ?_⟩
      by_cases z : j < ts.length
      · rw [List.getElem?_append_left z] at hv
        exact ((hfr j v e hv he).same (mn_up fun b o _ e => s2 b o e)).same up
      · rw [List.getElem?_append_right (by omega)] at hv
        have : j - ts.length = 0 := by
          have := (List.getElem?_eq_some_iff.mp hv).1
          simp at this; omega
        rw [this] at hv
        cases hv
        have ej : j = i := by omega
        subst ej
        unfold wch at he
        rw [List.getElem?_map, hc] at he
        cases he
        exact (hy.minus (s2 _ _ eD)).same up
    refine ⟨_, rfl, _, rfl, .inr (.inl (catX (by rw [sizeLine_eq]; show _ + 1 ≤ _; omega) ?_))⟩
    refine ⟨_, rfl, ixT (same_tup g hch) rfl (.inl ⟨rfl, _, rfl, if2 (fun z => ?_) (fun z => ?_)⟩)⟩
    · have hcc : c = c0 := by
        have := tx_inj (V.str.inj z)
        simpa using this
      subst hcc
      obtain ⟨e, qq, xw, yw, rfl, h1, h2, h3, h4⟩ := hv.same g
      have hr : d - (k ++ [c]).length = r := by omega
      rw [hr] at h4
      refine ⟨_, rfl, tyL (.inl (.inl eD)), _, rfl, ixT (same_tup g hch) rfl (ixT h1 rfl ?_)⟩
      try dsimp (config := { proj := false, eta := false, zeta := false, iota := false }) only [tNil, tC]
      exact appL eD (by rw [sizeLine_eq]; simp at hi; omega) (fin H1 yw (Same.refl _) h4)
    · have hcc : ¬ c = c0 := fun e => z (by rw [e])
      refine ⟨_, rfl, tyL (.inl (.inl eD)), _, rfl, p, dx, _, rfl, g _ _ ob, (gf_no _ _ _ _).1, _, rfl, _, rfl, .inr (.inl (catX (by rw [sizeLine_eq]; show _ + 1 ≤ _; omega) ?_))⟩
      refine ⟨p, tb, rp, fr, f, L, d, l, n, B, k ++ [c], rfl, G.same g, by omega, by omega, fun u H2 s2 hu => ?_⟩
      obtain ⟨e, qq, xw, yw, rfl, h1, h2, h3, h4⟩ := hu.same (off_sub _ _ _ _)
      have hr : d - (k ++ [c]).length = r := by omega
      rw [hr, ← wv_off r (fun y => hcc ((pre c).mp y))] at h4
      refine ixT h1 rfl ?_
      try dsimp (config := { proj := false, eta := false, zeta := false, iota := false }) only [tNil, tC]
      exact appL (s2 _ _ eD) (by rw [sizeLine_eq]; simp at hi; omega) (fin H2 yw s2 h4)
  · rintro _ H1 ⟨ts, r4, rfl, g, eD, hts, hfr⟩
    rw [List.length_map] at hts
    have hl : ts.length = (wch (f :: L) f d l (n + 1) r k).length := by unfold wch; rw [List.length_map]; exact hts
    refine ⟨_, rfl, D, ts, wch (f :: L) f d l (n + 1) r k, rfl, .inl (.inl eD), hl, fun j v e hv he => (hfr j v e hv he).same (mn_same _ _), fun i => ?_, fun e he => ?_, fun H2 z s2 hz => q z H2 (g.trans s2) hz⟩
    · have p1 := prod_pre (xs := (wch (f :: L) f d l (n + 1) r k).map (·.1)) (fun x hx => by obtain ⟨e, he, rfl⟩ := List.mem_map.mp hx; exact (hWe e he).a1) hW.ab i
      have p2 := prod_pre (xs := (wch (f :: L) f d l (n + 1) r k).map (·.2)) (fun x hx => by obtain ⟨e, he, rfl⟩ := List.mem_map.mp hx; exact (hWe e he).b1) hW.bb i
      rw [List.map_take, List.map_take]
      exact ⟨lt_pow p1 (by decide), lt_pow p2 (by decide)⟩
    · exact ⟨lt_pow (hWe e he).ab (by decide), lt_pow (hWe e he).bb (by decide)⟩
def spRaised (K : PySem.W.Frag) : Sp := fun vs H Q _ => ∃ (a : Addr) (cs : List Nat) (i v : Nat), vs = [.ref a, .int (i : Int)] ∧ SqL K H a (ivs cs) ∧ cs[i]? = some v ∧ cs.length ≤ 100 ∧ ∀ r H', Same H H' → H r = none → H' r = some (.lst (ivs (cs.set i (v + 1)))) → Q (.ref r) H'
theorem ok_raised (T : Txt K mg t) : FnOk P w K mg base (CX1 P w) 1 t.a_raised t.fd_raised ["counts", "place"] (spRaised K) := by
  refine T.F_raised.okn (k := 0) sc_raised (fun vs H Q E h => ?_) (fun cdv A outer s H vs Q E hr h => ?_)
  · obtain ⟨a, cs, i, v, rfl, _⟩ := h; rfl
  obtain ⟨a, cs, i, v, rfl, ha, hi, hl, q⟩ := h
  have hil := (List.getElem?_eq_some_iff.mp hi).1
  refine ⟨_, (pss_cons (ps_set (i := 2) sc_raised.nd rfl (Or.inl rfl) (pe_callTy (callList rfl) rfl T.m_list bt_list (pa_cons (pv 0) pa_nil)))
    (pss_cons (ps_augS (pv 2) (pv 1) get_list pe_int ipAdd set_list)
    (pss_one (ps_ret (pv 2))))), ?_⟩
  refine ⟨_, rfl, .inl ⟨a, _, rfl, .inl ha, fun r hr0 => ?_⟩⟩
  have e1 : upd H r (.lst (ivs cs)) r = some (.lst (ivs cs)) := upd_same
  refine ⟨_, rfl, _, rfl, r, _, _, _, rfl, rfl, SqL.of e1, by omega, atI_nat (by rw [ivs_get, hi]; rfl), ?_⟩
  refine .inl ⟨_, _, rfl, rfl, ?_⟩
  refine ⟨r, _, _, i, rfl, rfl, e1, ?_, ?_⟩
  · unfold ixN; rw [if_pos (by omega), if_pos (by rw [ivs_len]; omega), Int.toNat_natCast]
  · have e2 : (ivs cs).set i (V.int ((v : Int) + 1)) = ivs (cs.set i (v + 1)) := by rw [show ((v : Int) + 1) = ((v + 1 : Nat) : Int) by omega, ivs_set]
    exact ⟨_, rfl, q r _ (over_same hr0 (same_new hr0 _)) hr0 (Eq.trans upd_same (congrArg (fun z => some (HO.lst z)) e2))⟩
theorem at_last {α : Type} (xs : List α) (x : α) : atI (xs ++ [x]) (-1) = some x := by
  have h : ixN (xs ++ [x]).length (-1) = some ((xs ++ [x]).length - 1) := by
    unfold ixN
    rw [if_neg (by omega), if_pos (by simp; omega)]
    congr 1; omega
  unfold atI
  rw [h]
  show (xs ++ [x])[(xs ++ [x]).length - 1]? = _
  simp
theorem eldL_take (f d : Nat) (l : List Nat) {n : Nat} (hn : n ≤ l.length) : eldL f d (l.take n) n = eldL f d l n := by
  unfold eldL
  refine List.map_congr_left fun j _ => ?_
  split
  · rename_i z
    rw [List.getD_eq_getElem?_getD, List.getD_eq_getElem?_getD, List.getElem?_take_of_lt (by omega)]
  · rfl
theorem off_up {p t r D b : Addr} {H : Hp} {o o' : HO} (hb : b ≠ D) (h : off p t r H b = some o) : off p t r (upd H D o') b = some o := by
  unfold off at h ⊢
  split at h
  · cases h
  · rename_i z; rw [if_neg z, upd_ne hb]; exact h
def TD (K : PySem.W.Frag) (F : Hp) (L : List Nat) (f d : Nat) (l : List Nat) (n : Nat) (v : V) (k : List Nat) : Prop := ∃ ch e, v = .ref ch ∧ SqT K F ch [vt k, e] ∧ EAt K F e L f d l n k
theorem TD.same {F F' : Hp} {L : List Nat} {f d : Nat} {l : List Nat} {n : Nat} {v : V} {k : List Nat} (h : TD K F L f d l n v k) (s : Same F F') : TD K F' L f d l n v k := by
  obtain ⟨ch, e, e0, h1, h2⟩ := h
  exact ⟨ch, e, e0, same_tup s h1, h2.same s⟩
def spChanges (K : PySem.W.Frag) (C : Addr) : Sp := fun vs H Q _ => ∃ (p tb rp fr : Addr) (f : Nat) (L : List Nat) (d : Nat) (l : List Nat) (n B c : Nat), vs = [.ref p, vt [c]] ∧ GO K C p tb rp fr H f L d l n B ∧ Sm (f :: L) f d l ∧ l[n]? = some c ∧
  ∀ D H' ts, Same H H' → H D = none → H' D = some (.lst ts) → ts.length = d + 1 → (∀ (j : Nat) v, ts[j]? = some v → TD K (mn (off p tb rp H') D) (f :: L) f d l (n + 1) v ((eldL f d l n).take (d - j))) → Q (.ref D) H'
theorem ok_Growth_changes (T : Txt K mg t) : FnOk P w K mg base (CX1 P w) 6 t.a_Growth_changes t.fd_Growth_changes ["self", "sign"] (spChanges K t.c_Growth) := by
  refine T.F_Growth_changes.okn (k := 5) sc_Growth_changes (fun vs H Q E h => ?_) (fun cdv A outer s H vs Q E hr h => ?_)
  · obtain ⟨p, tb, rp, fr, f, L, d, l, n, B, c, rfl, _⟩ := h; rfl
  obtain ⟨p, tb, rp, fr, f, L, d, l, n, B, c, rfl, G, S, hc, q⟩ := h
  have G_elders_at := (ok_elders_at (P := P) (w := w) (base := base) T).mono (show 1 ≤ 5 by decide)
  have G_Growth_entry := (ok_Growth_entry (P := P) (w := w) (base := base) T).mono (show 2 ≤ 5 by decide)
  have G_Growth_branching := (ok_Growth_branching (P := P) (w := w) (base := base) T)
  have G_times := (ok_times (P := P) (w := w) (base := base) T).mono (show 3 ≤ 5 by decide)
  have G_share := (ok_share (P := P) (w := w) (base := base) T).mono (show 3 ≤ 5 by decide)
  have G_plus := (ok_plus (P := P) (w := w) (base := base) T).mono (show 3 ≤ 5 by decide)
  have G_half := (ok_half (P := P) (w := w) (base := base) T).mono (show 3 ≤ 5 by decide)
  have G_raised := (ok_raised (P := P) (w := w) (base := base) T).mono (show 1 ≤ 5 by decide)
  have l6 := S.l6
  have d6 := S.d6
  have hnl := (List.getElem?_eq_some_iff.mp hc).1
  have hcL := S.al c (List.mem_of_getElem? hc)
  have ll := S.ll
  obtain ⟨dx, ob⟩ := G.ob
  have fa := same_tup (off_sub p tb rp H) G.fa
  have ht : (l.take n).length = n := by rw [List.length_take]; omega
  have zt : (l.take n).length ≤ sizeLine := by rw [sizeLine_eq]; omega
  refine ⟨_, (pss_cons (ps_set (i := 2) sc_Growth_changes.nd rfl (Or.inl rfl) (pe_bm PySem.F.plainAttrs_str PySem.F.slot_str_index PySem.F.type_str_index mt_index (pe_ix ixAny (pe_fld (pv 0) rfl) pe_int (fun _ _ => rfl)) (pa_cons (pv 1) pa_nil)))
    (pss_cons (ps_set (i := 3) sc_Growth_changes.nd rfl (Or.inl rfl) (pe_call G_elders_at hr rfl T.m_elders_at T.F_elders_at.kp T.b_elders_at .nil pass1 (PAs.h (pas_cons (pe_fld (pv 0) rfl) (pas_cons (pe_fld (pv 0) rfl) (pas_cons (pe_callB call_len rfl T.m_len bt_len (pa_cons (pe_fld (pv 0) rfl) pa_nil)) pas_nil))))))
    (pss_cons (ps_set (i := 4) sc_Growth_changes.nd rfl (Or.inl rfl) (pe_lst pa_nil))
    (pss_cons (ps_for PassesOwn.never rfl (pi_rangeD rfl T.m_range (PAs.h (pas_cons (pe_callB call_len rfl T.m_len bt_len (pa_cons (pv 3) pa_nil)) (pas_cons (pe_un un_neg pe_int) (pas_cons (pe_un un_neg pe_int) pas_nil))))) (pg_name (i := 5) sc_Growth_changes.nd rfl (Or.inl rfl)) (pss_cons (ps_set (i := 6) sc_Growth_changes.nd rfl (Or.inl rfl) (pe_slice slAny (pv 3) po_none (po_some (pv 5))))
    (pss_cons (ps_set (i := 7) sc_Growth_changes.nd rfl (Or.inl rfl) (pe_meth (pv 0) T.cl_Growth T.me_Growth_entry G_Growth_entry hr T.b_Growth_entry .nil pass1 (pa_cons (pv 6) pa_nil)))
    (pss_cons (ps_set (i := 8) sc_Growth_changes.nd rfl (Or.inl rfl) (pe_call G_times hr rfl T.m_times T.F_times.kp T.b_times .nil pass1 (PAs.h (pas_cons (pe_ix ixAny (pv 7) (pe_glob (v := .int 1) rfl T.m_WORTH ⟨_, rfl⟩) (fun _ _ => rfl)) (pas_cons (pe_call G_share hr rfl T.m_share T.F_share.kp T.b_share .nil pass1 (PAs.h (pas_cons (pe_ix ixAny (pv 7) (pe_glob (v := .int 0) rfl T.m_COUNTS ⟨_, rfl⟩) (fun _ _ => rfl)) (pas_cons (pv 2) pas_nil)))) pas_nil)))))
    (pss_cons (ps_set (i := 9) sc_Growth_changes.nd rfl (Or.inl rfl) (pv 8))
    (pss_cons (ps_if (pt_cmpR oLt (pv 5) (pe_callB call_len rfl T.m_len bt_len (pa_cons (pv 3) pa_nil)) (nomark _)) (pss_one (ps_set (i := 9) sc_Growth_changes.nd rfl (Or.inl rfl) (pe_call G_half hr rfl T.m_half T.F_half.kp T.b_half .nil pass1 (pa_cons (pe_call G_plus hr rfl T.m_plus T.F_plus.kp T.b_plus .nil pass1 (PAs.h (pas_cons (pv 8) (pas_cons (pe_meth (pv 0) T.cl_Growth T.me_Growth_branching G_Growth_branching hr T.b_Growth_branching .nil pass1 (PAs.h (pas_cons (pv 6) (pas_cons (pe_ix ixAny (pv 4) (pe_un un_neg pe_int) (fun _ _ => rfl)) pas_nil)))) pas_nil)))) pa_nil)))) pss_nil)
    (pss_one (ps_expr (pe_bm PySem.F.plainAttrs_list PySem.F.slot_list_append PySem.F.type_list_append mt_app (pv 4) (pa_cons (pe_tup (PAs.h (pas_cons (pv 6) (pas_cons (pe_tup (PAs.h (pas_cons (pe_call G_raised hr rfl T.m_raised T.F_raised.kp T.b_raised .nil pass1 (PAs.h (pas_cons (pe_ix ixAny (pv 7) (pe_glob (v := .int 0) rfl T.m_COUNTS ⟨_, rfl⟩) (fun _ _ => rfl)) (pas_cons (pv 2) pas_nil)))) (pas_cons (pv 8) (pas_cons (pv 9) pas_nil))))) pas_nil)))) pa_nil))))))))))
    (pss_one (ps_ret (pv 4))))))), ?_⟩
  refine ⟨_, rfl, p, _, dx, _, _, rfl, ob, T.cl_Growth, T.na_Growth_frame, gf_frame _ _ _ _, ?_⟩
  refine ixT fa rfl ⟨rfl, _, rfl, f :: L, c, rfl, rfl, hcL, fun j0 hj0 => ?_⟩
  refine ⟨_, rfl, p, _, dx, _, _, rfl, ob, T.cl_Growth, T.na_Growth_frame, gf_frame _ _ _ _, ?_⟩
  refine ⟨_, rfl, p, _, dx, _, _, rfl, ob, T.cl_Growth, T.na_Growth_text, gf_text _ _ _ _, ?_⟩
  refine ⟨_, rfl, p, _, dx, _, _, rfl, ob, T.cl_Growth, T.na_Growth_text, gf_text _ _ _ _, ?_⟩
  refine ⟨_, _, rfl, lenvS zt, fr, f, L, d, n, l.take n, congrArg (fun z => [V.ref fr, vt (l.take n), V.int z]) (congrArg Int.ofNat ht), fa, by omega, d6, by omega, by omega, ?_⟩
  rw [eldL_take f d l (Nat.le_of_lt hnl)]
  have hz := eldL_len f d l n
  generalize hpath : eldL f d l n = path at *
  have zp : path.length ≤ sizeLine := by rw [sizeLine_eq]; omega
  refine ⟨by rw [sizeLine_eq]; show 0 ≤ _; decide, fun D hD => ?_⟩
  have s0 : Same H (upd H D (.lst [])) := same_new hD _
  have e0 : upd H D (.lst []) D = some (.lst []) := upd_same
  try dsimp (config := { proj := false, eta := false, zeta := false, iota := false }) only [tNil, tC]
  generalize upd H D (.lst []) = H0 at s0 e0 ⊢
  refine ⟨_, rfl, _, _, rfl, lenvS zp, _, rfl, _, rfl, d, congrArg (fun z : Nat => [V.int (z : Int), V.int (-1), V.int (-1)]) hz, ⟨by omega, by omega⟩, ?_⟩
  refine for_ranges (fun i σ H' => ∃ ts r5 r6 r7 r8 r9, σ = [some (.ref p), some (vt [c]), some (.int (j0 : Int)), some (vt path), some (.ref D), r5, r6, r7, r8, r9] ∧ Same H H' ∧ H' D = some (.lst ts) ∧ ts.length = i ∧
    ∀ (j : Nat) v, ts[j]? = some v → TD K (mn (off p tb rp H') D) (f :: L) f d l (n + 1) v (path.take (d - j))) ?_ ?_ ?_
  · exact ⟨[], _, _, _, _, _, rfl, s0, e0, rfl, fun j v h => nomatch h⟩
  · rintro i _ H1 hi ⟨ts, r5, r6, r7, r8, r9, rfl, g, eD, hts, hTD⟩
    have hid : i ≤ d := by omega
    rw [show (d : Int) + (i : Int) * -1 = ((d - i : Nat) : Int) by omega]
    show tSeq _ _ _ [some (.ref p), some (vt [c]), some (.int (j0 : Int)), some (vt path), some (.ref D), some (.int ((d - i : Nat) : Int)), r6, r7, r8, r9] H1
    refine ⟨_, rfl, _, rfl, _, rfl, .inr (cutT zp ?_)⟩
    rw [cut_to]
    have hkl : (path.take (d - i)).length = d - i := by rw [List.length_take]; omega
    have hkp : path.take (d - i) <+: eldL f d l n := hpath ▸ List.take_prefix _ _
    have hkn : d - (path.take (d - i)).length = i := by omega
    have hT1 := hTD (i - 1)
    generalize hK : path.take (d - i) = kn at hkl hkp hkn ⊢
    obtain ⟨v, hv, hset, hwo⟩ := wo_on S.nd hkp hj0 hc
    have hsum : (cntL (f :: L) f d l kn n).sum = (sg f d l kn n).length := sg_len S.nd S.al _ (Nat.le_of_lt hnl)
    have hsl := sg_le f d l kn n
    have hvs := le_sum hv
    have w0 := (wo_P2 S (Nat.le_of_lt hnl) kn).mono (show 17 * (sg f d l kn n).length ≤ 8900 by have := wb_le S (r := 0) (Nat.zero_le d) (Nat.le_trans hsl (Nat.le_of_lt hnl)); unfold wb at this; omega)
    have hsl1 := sg_le f d l kn (n + 1)
    have w1 := (wo_P2 S (show n + 1 ≤ l.length by omega) kn).mono (show 17 * (sg f d l kn (n + 1)).length ≤ 8900 by have := wb_le S (r := 0) (Nat.zero_le d) (Nat.le_trans hsl1 hnl); unfold wb at this; omega)
    refine ⟨_, rfl, p, dx, _, rfl, g _ _ ob, (gf_no _ _ _ _).1, _, rfl, p, tb, rp, fr, f, L, d, l, n, B, kn, rfl, G.same g, by omega, by omega, fun z H2 s2 hz2 => ?_⟩
    obtain ⟨e, q0, xw, yw, rfl, h1, h2, h3, h4⟩ := hz2.same (off_sub _ _ _ _)
    clear h4
    have eD2 := s2 _ _ eD
    have g2 := g.trans s2
    refine ⟨_, rfl, ixT h1 rfl ⟨_, rfl, ixT h1 rfl ⟨_, rfl, q0, (cntL (f :: L) f d l kn n).map (fun c : Nat => (c : Int)), j0, v, rfl, h2, atI_nat (by rw [show ((cntL (f :: L) f d l kn n).map (fun c : Nat => (c : Int))).map V.int = ivs (cntL (f :: L) f d l kn n) from rfl, ivs_get, hv]; rfl), ?_⟩⟩⟩
    rw [ints_sum, List.length_map, cntL_len, hsum]
    have hM : 1 ≤ (f :: L).length := by simp
    have hbb : (2 * ((sg f d l kn n).length : Int) + ((f :: L).length : Int)).natAbs < 2 ^ 10 := by omega
    have hb0 : 0 < 2 * ((sg f d l kn n).length : Int) + ((f :: L).length : Int) := by omega
    refine ⟨by omega, pow_lt hbb (by decide), fun r hr0 => ?_⟩
    have hsh : FrV K (upd H2 r (.tup [.int (num (2 * (v : Int) + 1) (2 * ((sg f d l kn n).length : Int) + ((f :: L).length : Int))), .int (den (2 * (v : Int) + 1) (2 * ((sg f d l kn n).length : Int) + ((f :: L).length : Int)))])) (.ref r) (2 * (v : Int) + 1) (2 * ((sg f d l kn n).length : Int) + ((f :: L).length : Int)) := FrV.made (by omega) hb0 (.inl (.inl upd_same))
    have s3 := same_new hr0 (.tup [.int (num (2 * (v : Int) + 1) (2 * ((sg f d l kn n).length : Int) + ((f :: L).length : Int))), .int (den (2 * (v : Int) + 1) (2 * ((sg f d l kn n).length : Int) + ((f :: L).length : Int)))])
    generalize upd H2 r (.tup [.int (num (2 * (v : Int) + 1) (2 * ((sg f d l kn n).length : Int) + ((f :: L).length : Int))), .int (den (2 * (v : Int) + 1) (2 * ((sg f d l kn n).length : Int) + ((f :: L).length : Int)))]) = H3 at hsh s3 ⊢
    rw [hsum] at hwo
    have hw1 : (wo (f :: L) f d l (n + 1) kn).1 = (wo (f :: L) f d l n kn).1 * (2 * (v : Int) + 1) := congrArg Prod.fst hwo
    have hw2 : (wo (f :: L) f d l (n + 1) kn).2 = (wo (f :: L) f d l n kn).2 * (2 * ((sg f d l kn n).length : Int) + ((f :: L).length : Int)) := congrArg Prod.snd hwo
    refine ⟨xw, .ref r, _, _, _, _, rfl, h3.same s3, hsh, lt_pow w0.ab (by decide), lt_pow w0.bb (by decide), lt_pow (show (2 * (v : Int) + 1) ≤ 2 ^ 10 by omega) (by decide), lt_pow (show _ ≤ (2 : Int) ^ 10 by omega) (by decide), by rw [← hw2]; exact lt_pow w1.bb (by decide), fun H4 wt s4 hwt => ?_⟩
    rw [← hw1, ← hw2] at hwt
    have s24 := s3.trans s4
    have g4 := g2.trans s24
    have eD4 := s24 _ _ eD2
    have h14 := same_tup s24 h1
    have h24 := same_lst s24 h2
    clear hw1 hw2 hsh h3 hwo
    refine ⟨_, rfl, ?_⟩
    dsimp (config := { eta := false, zeta := false, iota := false }) only [gName]
    refine meet (fun σ H5 => ∃ z, σ = [some (.ref p), some (vt [c]), some (.int (j0 : Int)), some (vt path), some (.ref D), some (.int ((d - i : Nat) : Int)), some (vt kn), some (.ref e), some wt, some z] ∧ Same H4 H5 ∧ FrV K H5 z (wv (f :: L) f d l (n + 1) i kn).1 (wv (f :: L) f d l (n + 1) i kn).2) (fun N hN => ?_) ?_
    · refine ⟨_, rfl, _, rfl, _, _, rfl, lenvS zp, .inl ⟨_, _, rfl, rfl, _, rfl, if2 (fun z => ?_) (fun z => ?_)⟩⟩
      · obtain ⟨r, rfl⟩ : ∃ r, i = r + 1 := ⟨i - 1, by omega⟩
        obtain ⟨c0, hc0, pre⟩ := next_of (show kn.length < d by omega) hkp
        have hse : seen f d l kn (n + 1) = true := seen_yes (falls_iff.mpr hkp)
        have hmix := wv_seen (L := f :: L) (r := r) hse
        have hwk := (wv_ok S (show n + 1 ≤ l.length by omega) (r + 1) kn (by omega)).mono (wb_le S (show r + 1 ≤ d by omega) (Nat.le_trans hsl1 hnl))
        have hch := (wch_ok S (show n + 1 ≤ l.length by omega) (show kn.length < d by omega) (fun c => wv_ok S (show n + 1 ≤ l.length by omega) r (kn ++ [c]) (by rw [List.length_append]; show _ + 1 + _ = _; omega))).mono (wb_le S (show r ≤ d by omega) (Nat.le_trans hsl1 hnl))
        rcases List.eq_nil_or_concat ts with rfl | ⟨ts', u, rfl⟩
        · simp at hts
        rw [List.concat_eq_append] at *
        have hu := hT1 u (by rw [List.getElem?_append_right (by simp at hts; omega)]; simp at hts; simp [hts])
        have hk1 : path.take (d - (r + 1 - 1)) = kn ++ [c0] := by
          have e1 : d - (r + 1 - 1) = d - (r + 1) + 1 := by omega
          have e2 : d - (r + 1) < path.length := by omega
          have e3 : path.take (d - (r + 1 - 1)) = kn ++ [path[d - (r + 1)]] := by rw [e1, List.take_add_one, hK, List.getElem?_eq_getElem e2]; rfl
          have e4 := (pre path[d - (r + 1)]).mp (by rw [hpath, ← e3]; exact List.take_prefix _ _)
          rw [e3, e4]
        rw [hk1] at hu
        obtain ⟨ch, ev, rfl, hch1, hev⟩ := hu
        have sub : Same (mn (off p tb rp H1) D) H4 := ((mn_same _ _).trans (off_sub _ _ _ _)).trans (s2.trans s24)
        refine ⟨_, rfl, _, rfl, p, dx, _, rfl, g4 _ _ ob, (gf_no _ _ _ _).2.1, _, rfl, _, rfl, _, rfl, ixL (.inl (.inl eD4)) (at_last ts' _) ?_⟩
        refine ⟨p, tb, rp, fr, f, L, d, l, n, B, kn, r, c0, ch, ev, rfl, G.same g4, S, hnl, by omega, pre, same_tup sub hch1, hev.same sub, fun y H5 s5 hy => ?_⟩
        have b1 := hwk.ab
        have b2 := hwk.bb
        rw [hmix] at b1 b2
        have bBD : (wo (f :: L) f d l (n + 1) kn).2 * (prodW (wch (f :: L) f d l (n + 1) r kn)).2 ≤ 2 ^ 8900 := by
          have : 2 * ((wo (f :: L) f d l (n + 1) kn).2 * (prodW (wch (f :: L) f d l (n + 1) r kn)).2) ≤ 2 ^ 8900 := b2
          have p1 := Int.mul_pos (show 0 < (wo (f :: L) f d l (n + 1) kn).2 by have := w1.b1; omega) (show 0 < (prodW (wch (f :: L) f d l (n + 1) r kn)).2 by have : 1 ≤ (prodW (wch (f :: L) f d l (n + 1) r kn)).2 := hch.b1; omega)
          omega
        refine ⟨wt, y, _, _, _, _, rfl, hwt.same s5, hy, lt_pow w1.ab (by decide), lt_pow w1.bb (by decide), lt_pow hch.ab (by decide), lt_pow hch.bb (by decide), lt_pow bBD (by decide), fun H6 y6 s6 hy6 => ?_⟩
        refine ⟨y6, _, _, rfl, hy6, lt_pow b1 (by decide), lt_pow bBD (by decide), fun H7 y7 s7 hy7 => ?_⟩
        exact hN _ _ ⟨y7, rfl, (s5.trans s6).trans s7, by rw [hmix]; exact hy7⟩
      · have hi0 : i = 0 := by omega
        subst hi0
        exact hN _ _ ⟨wt, rfl, Same.refl _, hwt⟩
    rintro _ H5 ⟨z, rfl, s5, hz5⟩
    refine ⟨_, rfl, tyL (.inl (.inl (s5 _ _ eD4))), _, rfl, _, rfl, ixT (same_tup s5 h14) rfl ⟨_, rfl, q0, cntL (f :: L) f d l kn n, j0, v, rfl, same_lst s5 h24, hv, by rw [cntL_len]; omega, fun r6 H6 s6 hr6 e6 => ?_⟩⟩
    refine ⟨_, rfl, _, rfl, by rw [sizeLine_eq]; show 3 ≤ _; decide, fun u hu => ⟨by rw [sizeLine_eq]; show 2 ≤ _; decide, fun ch hch => ?_⟩⟩
    try dsimp (config := { proj := false, eta := false, zeta := false, iota := false }) only [tNil, tC]
    have s7 : Same H6 (upd (upd H6 u (.tup [.ref r6, wt, z])) ch (.tup [vt kn, .ref u])) := (same_new hu _).trans (same_new hch _)
    have e7u : upd (upd H6 u (.tup [.ref r6, wt, z])) ch (.tup [vt kn, .ref u]) u = some (.tup [.ref r6, wt, z]) := new_at hch upd_same
    have e7c : upd (upd H6 u (.tup [.ref r6, wt, z])) ch (.tup [vt kn, .ref u]) ch = some (.tup [vt kn, .ref u]) := upd_same
    generalize upd (upd H6 u (.tup [.ref r6, wt, z])) ch (.tup [vt kn, .ref u]) = H7 at s7 e7u e7c ⊢
    have s47 := (s5.trans s6).trans s7
    have eD7 := s47 _ _ eD4
    have g7 := g4.trans s47
    have T3 := G.three.same g7
    have nD : D ≠ p ∧ D ≠ tb ∧ D ≠ rp := by
      obtain ⟨⟨_, _, a1⟩, ⟨_, a2⟩, ⟨_, a3⟩⟩ := G.three
      exact ⟨fun y => (by rw [y, a1] at hD; cases hD), fun y => (by rw [y, a2] at hD; cases hD), fun y => (by rw [y, a3] at hD; cases hD)⟩
    have n6 : r6 ≠ p ∧ r6 ≠ tb ∧ r6 ≠ rp ∧ r6 ≠ D := by
      obtain ⟨⟨_, _, a1⟩, ⟨_, a2⟩, ⟨_, a3⟩⟩ := G.three.same (g4.trans s5)
      have a4 := s5 _ _ eD4
      exact ⟨fun y => (by rw [y, a1] at hr6; cases hr6), fun y => (by rw [y, a2] at hr6; cases hr6), fun y => (by rw [y, a3] at hr6; cases hr6), fun y => (by rw [y, a4] at hr6; cases hr6)⟩
    have oD7 : off p tb rp H7 D = some (.lst ts) := off_at eD7 nD.1 nD.2.1 nD.2.2
    have tdn : TD K (mn (off p tb rp H7) D) (f :: L) f d l (n + 1) (.ref ch) kn := by
      refine ⟨ch, .ref u, rfl, SqT.minus oD7 (T3.tup (.inl (.inl e7c))), u, r6, wt, z, rfl, SqT.minus oD7 (T3.tup (.inl (.inl e7u))), ?_, (T3.fr (hwt.same s47)).minus oD7, ?_⟩
      · rw [hset]
        exact .inl (.inl (mn_at (off_at (s7 _ _ e6) n6.1 n6.2.1 n6.2.2.1) n6.2.2.2))
      · rw [hkn]
        exact (T3.fr (hz5.same (s6.trans s7))).minus oD7
    refine appL eD7 (by rw [sizeLine_eq]; omega) ?_
    have up : Same (mn (off p tb rp H7) D) (mn (off p tb rp (upd H7 D (.lst (ts ++ [.ref ch])))) D) := mn_up fun b o hb e => off_up hb e
    refine ⟨ts ++ [.ref ch], _, _, _, _, _, rfl, over_same hD g7, upd_same, by rw [List.length_append, hts]; rfl, fun j v hj => ?_⟩
    by_cases y : j < ts.length
    · rw [List.getElem?_append_left y] at hj
      exact ((hTD j v hj).same (mn_up fun b o _ e => off_same (s2.trans (s24.trans s47)) b o e)).same up
    · rw [List.getElem?_append_right (by omega)] at hj
      have : j - ts.length = 0 := by
        have := (List.getElem?_eq_some_iff.mp hj).1
        simp at this; omega
      rw [this] at hj
      cases hj
      have ej : j = i := by omega
      rw [ej, hK]
      exact tdn.same up
  · rintro _ H1 ⟨ts, r5, r6, r7, r8, r9, rfl, g, eD, hts, hTD⟩
    exact ⟨_, rfl, q D H1 ts g hD eD (by omega) hTD⟩
theorem putK_len {κ : Type} [DecidableEq κ] (kvs : List (κ × V)) (k : κ) (v : V) : (putK kvs k v).length ≤ kvs.length + 1 := by
  unfold putK
  split
  · rw [List.length_map]; omega
  · rw [List.length_append]; exact Nat.le_refl _
theorem off_eq {p t r : Addr} {H H' : Hp} (h : ∀ b, b ≠ p → b ≠ t → b ≠ r → H' b = H b) : off p t r H' = off p t r H := by
  funext b
  unfold off
  by_cases z : b = p ∨ b = t ∨ b = r
  · rw [if_pos z, if_pos z]
  · rw [if_neg z, if_neg z]
    exact h b (fun e => z (.inl e)) (fun e => z (.inr (.inl e))) (fun e => z (.inr (.inr e)))
theorem GT.put {F : Hp} {L : List Nat} {f d : Nat} {l : List Nat} {kvs : List (Key × V)} {m m' : List Nat → Nat} {kn : List Nat} {e : V} (h : GT K F L f d l kvs m) (hs : seen f d l kn (m' kn) = true) (he : EAt K F e L f d l (m' kn) kn) (hm : ∀ k, k ≠ kn → m' k = m k) : GT K F L f d l (putK kvs (key kn) e) m' := by
  refine ⟨fun k hk hl => ?_, fun k v hk hl => ?_⟩
  · rw [valV_put] at hk
    by_cases z : key k = key kn
    · rw [if_pos z] at hk; cases hk
    · rw [if_neg z] at hk
      rw [hm k fun y => z (by rw [y])]
      exact h.non k hk hl
  · rw [valV_put] at hk
    by_cases z : key k = key kn
    · rw [if_pos z] at hk
      cases hk
      have := key_inj z
      subst this
      exact ⟨hs, he⟩
    · rw [if_neg z] at hk
      rw [hm k fun y => z (by rw [y])]
      exact h.som k v hk hl
theorem GT.next {F : Hp} {L : List Nat} {f d : Nat} {l : List Nat} {kvs : List (Key × V)} {n : Nat} {m : List Nat → Nat} (h : GT K F L f d l kvs m) (h1 : ∀ k, k.length ≤ d → k <+: eldL f d l n → m k = n + 1) (h2 : ∀ k, ¬ k <+: eldL f d l n → m k = n) : GT K F L f d l kvs (fun _ => n + 1) := by
  refine ⟨fun k hk hl => ?_, fun k v hk hl => ?_⟩
  · by_cases z : k <+: eldL f d l n
    · have := h.non k hk hl
      rw [h1 k hl z] at this; exact this
    · have := h.non k hk hl
      rw [h2 k z] at this
      show seen f d l k (n + 1) = false
      rw [seen_no (falls_no z)]; exact this
  · by_cases z : k <+: eldL f d l n
    · have := h.som k v hk hl
      rw [h1 k hl z] at this; exact this
    · have := h.som k v hk hl
      rw [h2 k z] at this
      refine ⟨?_, this.2.congr (cntL_no (falls_no z)) (wv_off _ z)⟩
      show seen f d l k (n + 1) = true
      rw [seen_no (falls_no z)]; exact this.1
theorem GT.congr {F : Hp} {L : List Nat} {f d : Nat} {l : List Nat} {kvs : List (Key × V)} {m m' : List Nat → Nat} (h : GT K F L f d l kvs m) (e : ∀ k, k.length ≤ d → m' k = m k) : GT K F L f d l kvs m' :=
  ⟨fun k hk hl => by rw [e k hl]; exact h.non k hk hl, fun k v hk hl => by rw [e k hl]; exact h.som k v hk hl⟩
theorem off_mn {p t r R : Addr} {H H' : Hp} (s : Same H H') (hR : H R = none) : Same (off p t r H) (mn (off p t r H') R) := fun b o h =>
  mn_at (off_same s b o h) fun e => by
    have := off_sub _ _ _ _ b o h
    rw [e, hR] at this; cases this
theorem pre_len {a b c : List Nat} (h1 : a <+: c) (h2 : b <+: c) (h : a.length = b.length) : a = b := by
  rw [List.prefix_iff_eq_take] at h1 h2
  rw [h1, h2, h]
def spGrow (K : PySem.W.Frag) (C : Addr) : Sp := fun vs H Q _ => ∃ (p tb rp fr : Addr) (f : Nat) (L : List Nat) (d : Nat) (l : List Nat) (n B c : Nat), vs = [.ref p, vt [c]] ∧ GO K C p tb rp fr H f L d l n B ∧ Sm (f :: L) f d l ∧ l[n]? = some c ∧ B ≤ 10000 ∧
  ∀ H', GO K C p tb rp fr H' f L d l (n + 1) (B + (d + 1)) → (∀ b o, H b = some o → b ≠ p → b ≠ tb → b ≠ rp → H' b = some o) → Q .non H'
theorem ok_Growth_grow (T : Txt K mg t) : FnOk P w K mg base (CX1 P w) 7 t.a_Growth_grow t.fd_Growth_grow ["self", "sign"] (spGrow K t.c_Growth) := by
  refine T.F_Growth_grow.okn (k := 6) sc_Growth_grow (fun vs H Q E h => ?_) (fun cdv A outer s H vs Q E hr h => ?_)
  · obtain ⟨p, tb, rp, fr, f, L, d, l, n, B, c, rfl, _⟩ := h; rfl
  obtain ⟨p, tb, rp, fr, f, L, d, l, n, B, c, rfl, G, S, hc, hB, q⟩ := h
  have G_Growth_changes := ok_Growth_changes (P := P) (w := w) (base := base) T
  have d6 := S.d6
  have ll := S.ll
  have hnl := (List.getElem?_eq_some_iff.mp hc).1
  obtain ⟨dx, ob⟩ := G.ob
  refine ⟨_, (pss_cons (ps_set (i := 2) sc_Growth_grow.nd rfl (Or.inl rfl) (pe_meth (pv 0) T.cl_Growth T.me_Growth_changes G_Growth_changes hr T.b_Growth_changes .nil pass1 (pa_cons (pv 1) pa_nil)))
    (pss_cons (ps_expr (pe_bm PySem.F.plainAttrs_list PySem.F.slot_list_append PySem.F.type_list_append mt_app (pe_fld (pv 0) rfl) (pa_cons (pe_lc (compSc_of (N := ["knot", "entry", "self"]) (cap := [none, none, some 0]) (by kernel_rfl)) rfl (pi_list (pv 2)) ⟨fun _ => (pg_tup rfl (pgs_cons (pg_name (i := 0) (show List.Nodup (["knot", "entry", "self"] : List Str) by decide +kernel) rfl (Or.inl rfl)) (pgs_cons (pg_name (i := 1) (show List.Nodup (["knot", "entry", "self"] : List Str) by decide +kernel) rfl (Or.inl rfl)) pgs_nil))), fun _ => pf_nil, fun _ => (pe_tup (PAs.h (pas_cons (pv 0) (pas_cons (pe_dget1 (hu_of hr) (pe_fld (pv 2) rfl) (pv 0) ⟨rfl, rfl, rfl, rfl⟩) pas_nil))))⟩) pa_nil)))
    (pss_cons (ps_for PassesOwn.never rfl (pi_list (pv 2)) (pg_tup rfl (pgs_cons (pg_name (i := 3) sc_Growth_grow.nd rfl (Or.inl rfl)) (pgs_cons (pg_name (i := 4) sc_Growth_grow.nd rfl (Or.inl rfl)) pgs_nil))) (pss_one (ps_dput (hu_of hr) (pe_fld (pv 0) rfl) (pv 3) (pv 4) rfl)))
    (pss_one (ps_fldaug (pv 0) (pv 1) ipAdd))))), ?_⟩
  refine ⟨_, rfl, p, dx, _, rfl, ob, (gf_no _ _ _ _).2.2.1, _, rfl, p, tb, rp, fr, f, L, d, l, n, B, c, rfl, G, S, hc, fun D H1 ts s1 hD e1 hts hTD => ?_⟩
  have G1 := G.same s1
  have T1 := G1.three
  obtain ⟨kvs, td, kl, gt⟩ := G1.td
  obtain ⟨rs, rl, rn, rh⟩ := G1.rl
  have ob1 := s1 _ _ ob
  have hlen := eldL_len f d l n
  have nD : D ≠ p ∧ D ≠ tb ∧ D ≠ rp := by
    obtain ⟨⟨_, _, a1⟩, ⟨_, a2⟩, ⟨_, a3⟩⟩ := G.three
    exact ⟨fun y => (by rw [y, a1] at hD; cases hD), fun y => (by rw [y, a2] at hD; cases hD), fun y => (by rw [y, a3] at hD; cases hD)⟩
  have npt : p ≠ tb := fun y => by rw [y, td] at ob1; cases ob1
  have npr : p ≠ rp := fun y => by rw [y, rl] at ob1; cases ob1
  have ntr : tb ≠ rp := fun y => by rw [y, rl] at td; cases td
  refine ⟨_, rfl, p, _, dx, _, _, rfl, ob1, T.cl_Growth, T.na_Growth_replaced, gf_rep _ _ _ _, tyL (.inl (.inl rl)), ?_⟩
  refine ⟨_, rfl, D, rfl, ⟨_, .inl (.inl e1)⟩, fun R hR cp => ?_⟩
  have nR : R ≠ p ∧ R ≠ tb ∧ R ≠ rp := ⟨fun y => (by rw [y, ob1] at hR; cases hR), fun y => (by rw [y, td] at hR; cases hR), fun y => (by rw [y, rl] at hR; cases hR)⟩
  refine lc_walk (walk_list (xs := ts)) (fun i σ H' => ∃ r0 r1 ys, σ = [r0, r1, some (.ref p)] ∧ Same H1 H' ∧ H' R = some (.lst ys) ∧ ys.length = i ∧ ∀ (j : Nat) x, ys[j]? = some x → RPair K (mn (off p tb rp H') R) (f :: L) f d l x n ((eldL f d l n).take (d - j)))
    ⟨none, none, [], rfl, same_new hR _, upd_same, rfl, fun j x h => nomatch h⟩ (fun i σ H' _ ⟨_, _, _, _, g, _⟩ => .inl (.inl (g _ _ e1))) ?_ ?_
  · rintro i x _ H2 hx ⟨r0, r1, ys, rfl, g, eR, hy, hP⟩
    have hi := (List.getElem?_eq_some_iff.mp hx).1
    obtain ⟨ch, e, rfl, h1, h2⟩ := hTD i x hx
    have sub : Same (mn (off p tb rp H1) D) H2 := ((mn_same _ _).trans (off_sub _ _ _ _)).trans g
    refine ⟨ch, _, rfl, same_tup sub h1, rfl, _, _, rfl, _, _, rfl, rfl, ?_⟩
    simp only [tTrue, if_true]
    generalize hkn : (eldL f d l n).take (d - i) = kn at h1 h2
    have hkl : kn.length ≤ d := by rw [← hkn, List.length_take]; omega
    refine ⟨_, rfl, _, rfl, p, _, dx, _, _, rfl, g _ _ ob1, T.cl_Growth, T.na_Growth_table, gf_table _ _ _ _, tb, rfl, .inl ⟨kvs, .inl (g _ _ td)⟩, _, rfl, valV kvs (key kn), DGet.k (k := key kn) (g _ _ td), ?_⟩
    refine ⟨by rw [sizeLine_eq]; show 2 ≤ _; decide, fun u hu => ?_⟩
    have s3 := same_new hu (.tup [vt kn, (valV kvs (key kn)).getD .non])
    have e3 : upd H2 u (.tup [vt kn, (valV kvs (key kn)).getD .non]) u = some (.tup [vt kn, (valV kvs (key kn)).getD .non]) := upd_same
    try dsimp (config := { proj := false, eta := false, zeta := false, iota := false }) only [tNil, tC]
    generalize upd H2 u (.tup [vt kn, (valV kvs (key kn)).getD .non]) = H3 at s3 e3 ⊢
    have g3 := g.trans s3
    have T3 := T1.same g3
    have oR : off p tb rp H3 R = some (.lst ys) := off_at (s3 _ _ eR) nR.1 nR.2.1 nR.2.2
    have rp3 : RPair K (mn (off p tb rp H3) R) (f :: L) f d l (.ref u) n kn := by
      refine ⟨u, _, rfl, SqT.minus oR (T3.tup (.inl (.inl e3))), ?_⟩
      cases z : valV kvs (key kn) with
      | none => exact .inl ⟨rfl, gt.non kn z hkl⟩
      | some v => exact .inr ⟨(gt.som kn v z hkl).1, (gt.som kn v z hkl).2.same (off_mn g3 hR)⟩
    have up : Same (mn (off p tb rp H3) R) (mn (off p tb rp (upd H3 R (.lst (ys ++ [.ref u])))) R) := mn_up fun b o hb e => off_up hb e
    refine ⟨ys, s3 _ _ eR, by rw [sizeLine_eq]; omega, _, _, ys ++ [.ref u], rfl, over_same hR g3, upd_same, by rw [List.length_append, hy]; rfl, fun j x hj => ?_⟩
    by_cases y : j < ys.length
    · rw [List.getElem?_append_left y] at hj
      exact ((hP j x hj).same (mn_up fun b o _ e => off_same s3 b o e)).same up
    · rw [List.getElem?_append_right (by omega)] at hj
      have : j - ys.length = 0 := by
        have := (List.getElem?_eq_some_iff.mp hj).1
        simp at this; omega
      rw [this] at hj
      cases hj
      have ej : j = i := by omega
      rw [ej, hkn]
      exact rp3.same up
  rintro _ H2 ⟨r0, r1, ys, rfl, g, eR, hy, hP⟩
  try dsimp (config := { proj := false, eta := false, zeta := false, iota := false }) only [tNil, tC]
  refine appL (g _ _ rl) (by rw [sizeLine_eq]; omega) ?_
  have RLn : RL K (off p tb rp H2) (f :: L) f d l (.ref R) n := ⟨R, ys, rfl, .inl (.inl (off_at eR nR.1 nR.2.1 nR.2.2)), by omega, fun i x hx => (hP i x hx).same (mn_same _ _)⟩
  have sF : Same (mn (off p tb rp H1) D) (off p tb rp H2) := (mn_same _ _).trans (off_same g)
  have hoff : ∀ H', (∀ b, b ≠ tb → H' b = upd H2 rp (.lst (rs ++ [.ref R])) b) → off p tb rp H' = off p tb rp H2 := fun H' h => off_eq fun b h1 h2 h3 => (h b h2).trans (upd_ne h3)
  have gt0 := gt.same (off_same (p := p) (t := tb) (r := rp) g)
  have fa2 := same_tup (off_same (p := p) (t := tb) (r := rp) g) G1.fa
  have rh2 : ∀ (j : Nat) v, rs[j]? = some v → RL K (off p tb rp H2) (f :: L) f d l v j := fun j v hj => (rh j v hj).same (off_same g)
  have ob2 := g _ _ ob1
  have td2 := g _ _ td
  have rl2 := g _ _ rl
  have eD2 := g _ _ e1
  refine ⟨_, rfl, D, rfl, ⟨_, .inl (.inl ((upd_ne nD.2.2).trans eD2))⟩, ?_⟩
  refine for_walk (walk_list (xs := ts)) (fun i σ H' => ∃ r3 r4 kvs', σ = [some (.ref p), some (vt [c]), some (.ref D), r3, r4] ∧ (∀ b, b ≠ tb → H' b = upd H2 rp (.lst (rs ++ [.ref R])) b) ∧ H' tb = some (.dK kvs') ∧ kvs'.length ≤ B + i ∧
    GT K (off p tb rp H2) (f :: L) f d l kvs' (fun k => if falls f d l k n = true ∧ d < k.length + i then n + 1 else n)) ⟨_, _, kvs, rfl, fun _ _ => rfl, (upd_ne ntr).trans td2, kl, gt0.congr fun k hk => if_neg (by omega)⟩ (fun i σ H' _ ⟨_, _, _, _, h, _⟩ => .inl (.inl ((h D nD.2.1).trans ((upd_ne nD.2.2).trans eD2)))) ?_ ?_
  · rintro i x _ H3 hx ⟨r3, r4, kvs', rfl, h3, t3, k3, gt3⟩
    have hi := (List.getElem?_eq_some_iff.mp hx).1
    have hTx := (hTD i x hx).same sF
    have hkp : (eldL f d l n).take (d - i) <+: eldL f d l n := List.take_prefix _ _
    have hkl : ((eldL f d l n).take (d - i)).length = d - i := by rw [List.length_take]; omega
    generalize (eldL f d l n).take (d - i) = kn at hTx hkp hkl
    obtain ⟨ch, e, rfl, h1, h2⟩ := hTx
    have s3 : Same (off p tb rp H2) H3 := (hoff H3 h3) ▸ off_sub p tb rp H3
    have ob3 : H3 p = _ := (h3 p npt).trans ((upd_ne npr).trans ob2)
    refine ⟨ch, _, rfl, same_tup s3 h1, rfl, _, _, rfl, _, _, rfl, rfl, ?_⟩
    refine ⟨_, rfl, _, rfl, p, _, dx, _, _, rfl, ob3, T.cl_Growth, T.na_Growth_table, gf_table _ _ _ _, _, rfl, tb, _, rfl, DPut.k (k := key kn) t3 (by rw [sizeLine_eq]; omega), ?_⟩
    refine ⟨_, _, putK kvs' (key kn) e, rfl, fun b hb => by rw [upd_ne hb]; exact h3 b hb, upd_same, by have := putK_len kvs' (key kn) e; omega, ?_⟩
    have hfk := falls_iff.mpr hkp
    have hmk : (if falls f d l kn n = true ∧ d < kn.length + (i + 1) then n + 1 else n) = n + 1 := if_pos ⟨hfk, by omega⟩
    refine gt3.put (m' := fun k => if falls f d l k n = true ∧ d < k.length + (i + 1) then n + 1 else n) (kn := kn) ?_ ?_ ?_
    · show seen f d l kn (if falls f d l kn n = true ∧ d < kn.length + (i + 1) then n + 1 else n) = true
      rw [hmk]; exact seen_yes hfk
    · show EAt K _ e (f :: L) f d l (if falls f d l kn n = true ∧ d < kn.length + (i + 1) then n + 1 else n) kn
      rw [hmk]; exact h2
    · intro k hk
      show (if _ then n + 1 else n) = (if _ then n + 1 else n)
      by_cases y : falls f d l k n = true ∧ d < k.length + i
      · rw [if_pos y, if_pos ⟨y.1, by omega⟩]
      · rw [if_neg y]
        refine if_neg fun ⟨a, b⟩ => ?_
        by_cases y2 : d < k.length + i
        · exact y ⟨a, y2⟩
        · exact hk (pre_len (falls_iff.mp a) hkp (by omega))
  · rintro _ H3 ⟨r3, r4, kvs', rfl, h3, t3, k3, gt3⟩
    have ob3 : H3 p = _ := (h3 p npt).trans ((upd_ne npr).trans ob2)
    have ht : (l.take n).length = n := by rw [List.length_take]; omega
    have h4 := hoff H3 h3
    refine ⟨_, rfl, p, _, dx, _, _, rfl, ob3, T.cl_Growth, T.na_Growth_text, gf_text _ _ _ _, _, rfl, .inr (catX (by rw [sizeLine_eq, ht]; show _ + 1 ≤ _; omega) ?_)⟩
    refine ⟨dx, _, ob3, by show 4 < 1000; decide, ?_⟩
    rw [gf_put, show l.take n ++ [c] = l.take (n + 1) by rw [List.take_add_one, hc]; rfl]
    have h5 : off p tb rp (upd H3 p (.ins t.c_Growth dx (gflds fr (vt (l.take (n + 1))) tb rp))) = off p tb rp H2 := (off_put (.inl rfl)).trans h4
    refine q _ ⟨⟨dx, upd_same⟩, ⟨kvs', (upd_ne npt.symm).trans t3, ?_, ?_⟩, ⟨rs ++ [.ref R], (upd_ne npr.symm).trans ((h3 rp ntr.symm).trans upd_same), by rw [List.length_append, rn]; rfl, fun j v hj => ?_⟩, ?_⟩ fun b o hb h1 h2 h3' => ?_
    · rw [hts] at k3; exact k3
    · rw [h5]
      refine gt3.next (n := n) (fun k hk hp => if_pos ⟨falls_iff.mpr hp, by omega⟩) (fun k hp => if_neg fun ⟨a, _⟩ => hp (falls_iff.mp a))
    · rw [h5]
      by_cases y : j < rs.length
      · rw [List.getElem?_append_left y] at hj
        exact rh2 j v hj
      · rw [List.getElem?_append_right (by omega)] at hj
        have : j - rs.length = 0 := by
          have := (List.getElem?_eq_some_iff.mp hj).1
          simp at this; omega
        rw [this] at hj
        cases hj
        have ej : j = n := by omega
        rw [ej]; exact RLn
    · rw [h5]; exact fa2
    · rw [upd_ne h1, h3 b h2, upd_ne h3']
      exact g _ _ (s1 _ _ hb)
def spGWeight (K : PySem.W.Frag) (C : Addr) : Sp := fun vs H Q _ => ∃ (p tb rp fr : Addr) (f : Nat) (L : List Nat) (d : Nat) (l : List Nat) (n B : Nat), vs = [.ref p] ∧ GO K C p tb rp fr H f L d l n B ∧ (f :: L).length ≤ 100 ∧ ∀ z H', Same H H' → FrV K H' z (wv (f :: L) f d l n d []).1 (wv (f :: L) f d l n d []).2 → Q z H'
theorem ok_Growth_weight (T : Txt K mg t) : FnOk P w K mg base (CX1 P w) 3 t.a_Growth_weight t.fd_Growth_weight ["self"] (spGWeight K t.c_Growth) := by
  refine T.F_Growth_weight.okn (k := 2) sc_Growth_weight (fun vs H Q E h => ?_) (fun cdv A outer s H vs Q E hr h => ?_)
  · obtain ⟨p, tb, rp, fr, f, L, d, l, n, B, rfl, _⟩ := h; rfl
  obtain ⟨p, tb, rp, fr, f, L, d, l, n, B, rfl, G, hL, q⟩ := h
  have G_Growth_entry := ok_Growth_entry (P := P) (w := w) (base := base) T
  obtain ⟨dx, ob⟩ := G.ob
  refine ⟨_, (pss_one (ps_ret (pe_ix ixAny (pe_meth (pv 0) T.cl_Growth T.me_Growth_entry G_Growth_entry hr T.b_Growth_entry .nil pass1 (pa_cons pe_str pa_nil)) (pe_glob (v := .int 2) rfl T.m_WEIGHT ⟨_, rfl⟩) (fun _ _ => rfl)))), ?_⟩
  refine ⟨_, rfl, p, dx, _, rfl, ob, (gf_no _ _ _ _).1, p, tb, rp, fr, f, L, d, l, n, B, [], by rw [str_nil0]; rfl, G, hL, Nat.zero_le _, fun z H1 s1 hz => ?_⟩
  obtain ⟨e, q0, xw, yw, rfl, h1, h2, h3, h4⟩ := hz.same (off_sub _ _ _ _)
  exact ixT h1 rfl (q yw H1 s1 h4)
theorem same_off {p t r : Addr} {H H' : Hp} (s : Same H H') (h1 : H p = none) (h2 : H t = none) (h3 : H r = none) : Same H (off p t r H') := fun b o e =>
  off_at (s b o e) (fun z => by rw [z, h1] at e; cases e) (fun z => by rw [z, h2] at e; cases e) (fun z => by rw [z, h3] at e; cases e)
theorem GT.empty {F : Hp} {L : List Nat} {f d : Nat} {l : List Nat} : GT K F L f d l [] (fun _ => 0) := ⟨fun _ _ _ => rfl, fun _ _ h => nomatch h⟩
def spGrown (K : PySem.W.Frag) (C : Addr) : Sp := fun vs H Q _ => ∃ (fr : Addr) (f : Nat) (L : List Nat) (d : Nat) (l : List Nat), vs = [.ref fr, vt l] ∧ SqT K H fr [vt (f :: L), .int d] ∧ Sm (f :: L) f d l ∧ ∀ p tb rp H', Same H H' → H p = none → H tb = none → H rp = none → GO K C p tb rp fr H' f L d l l.length (l.length * (d + 1)) → Q (.ref p) H'
theorem ok_grown (T : Txt K mg t) : FnOk P w K mg base (CX1 P w) 8 t.a_grown t.fd_grown ["frame", "text"] (spGrown K t.c_Growth) := by
  refine T.F_grown.okn (k := 7) sc_grown (fun vs H Q E h => ?_) (fun cdv A outer s H vs Q E hr h => ?_)
  · obtain ⟨fr, f, L, d, l, rfl, _⟩ := h; rfl
  obtain ⟨fr, f, L, d, l, rfl, hf, S, q⟩ := h
  have G_Growth_init := (ok_Growth_init (P := P) (w := w) (base := base) T).mono (show 1 ≤ 6 by decide)
  have G_Growth_grow := ok_Growth_grow (P := P) (w := w) (base := base) T
  refine ⟨_, (pss_cons (ps_set (i := 2) sc_grown.nd rfl (Or.inl rfl) (pe_make T.mk_Growth G_Growth_init hr rfl T.m_Growth T.b_Growth_init .nil pass1 (pa_cons (pv 0) pa_nil)))
    (pss_cons (ps_for PassesOwn.never rfl (piAny (pv 1)) (pg_name (i := 3) sc_grown.nd rfl (Or.inl rfl)) (pss_one (ps_expr (pe_meth (pv 2) T.cl_Growth T.me_Growth_grow G_Growth_grow hr T.b_Growth_grow .nil pass1 (pa_cons (pv 3) pa_nil)))))
    (pss_one (ps_ret (pv 2))))), ?_⟩
  refine ⟨_, rfl, fun p dx np ndx nex => ?_⟩
  have s0 : Same H (upd (upd H dx (.own p)) p (.ins t.c_Growth dx [])) := fun b o e => by
    rw [upd_ne (ne_of_none e np), upd_ne (ne_of_none e ndx)]
    exact e
  refine ⟨p, fr, dx, rfl, upd_same, fun tb rp H1 htb hrp hne e1 e2 e3 k1 => ⟨rfl, ?_⟩⟩
  have s1 : Same H H1 := fun b o e => k1 b o (s0 b o e) (ne_of_none e np)
  have ntb := s0.free htb
  have nrp := s0.free hrp
  have G0 : GO K t.c_Growth p tb rp fr H1 f L d l 0 (0 * (d + 1)) := ⟨⟨dx, e1⟩, ⟨[], e2, Nat.zero_le _, GT.empty⟩, ⟨[], e3, rfl, fun j v h => nomatch h⟩, same_tup (same_off s1 np ntb nrp) hf⟩
  refine ⟨_, rfl, .inr (.inr ⟨_, rfl, ?_⟩)⟩
  refine for_walk (walk_tx l) (fun i σ H' => ∃ r3, σ = [some (.ref fr), some (vt l), some (.ref p), r3] ∧ Same H H' ∧ GO K t.c_Growth p tb rp fr H' f L d l i (i * (d + 1))) ⟨_, rfl, s1, G0⟩ (fun _ _ _ _ _ => trivial) ?_ ?_
  · rintro i x _ H2 hx ⟨r3, rfl, s2, G2⟩
    obtain ⟨c, hc, rfl⟩ := sign_at hx
    obtain ⟨dy, ob⟩ := G2.ob
    refine ⟨_, rfl, p, dy, _, rfl, ob, (gf_no _ _ _ _).2.2.2.2.1, _, rfl, p, tb, rp, fr, f, L, d, l, i, _, c, rfl, G2, S, hc, by have := (List.getElem?_eq_some_iff.mp hc).1; have h1 := S.ll; have h2 := S.d6; exact Nat.le_trans (Nat.mul_le_mul (show i ≤ 200 by omega) (show d + 1 ≤ 7 by omega)) (by decide), fun H3 G3 k3 => ?_⟩
    rw [show i * (d + 1) + (d + 1) = (i + 1) * (d + 1) by rw [Nat.add_mul, Nat.one_mul]] at G3
    exact ⟨_, rfl, fun b o e => k3 b o (s2 b o e) (ne_of_none e np) (ne_of_none e ntb) (ne_of_none e nrp), G3⟩
  · rintro _ H2 ⟨r3, rfl, s2, G2⟩
    rw [List.length_map] at G2
    exact ⟨_, rfl, q p tb rp H2 s2 np ntb nrp G2⟩
def spWeight (K : PySem.W.Frag) (C : Addr) : Sp := fun vs H Q E => ∃ (p : Addr) (f : Nat) (L l : List Nat) (d : Nat), vs = [.ref p, vt l] ∧ SqT K H p [vt (f :: L), .int d] ∧ (f :: L).length ≤ 6 ∧ d ≤ 6 ∧ l.length ≤ 200 ∧ (∀ c ∈ l, c < 16 ^ 8) ∧
  ((∃ c ∈ l, c ∉ f :: L) → E (.ref C) none H) ∧ ((∀ c ∈ l, c ∈ f :: L) → Sm (f :: L) f d l ∧ ∀ H' z, Same H H' → FrV K H' z (wv (f :: L) f d l l.length d []).1 (wv (f :: L) f d l l.length d []).2 → Q z H')
theorem ok_weight (T : Txt K mg t) : FnOk P w K mg base (CX1 P w) 9 t.a_weight t.fd_weight ["frame", "text"] (spWeight K t.c_NoText) := by
  refine T.F_weight.okx (k := 8) sc_weight (fun vs H Q E h => ?_) (fun cdv A outer s H vs Q E hr h => ?_)
  · obtain ⟨p, f, L, l, d, rfl, _⟩ := h; rfl
  obtain ⟨p, f, L, l, d, rfl, hp, hL6, hd, hll, h16, q1, q2⟩ := h
  have G_checked := (ok_checked (P := P) (w := w) (base := base) T).mono (show 1 ≤ 8 by decide)
  have G_grown := ok_grown (P := P) (w := w) (base := base) T
  have G_Growth_weight := (ok_Growth_weight (P := P) (w := w) (base := base) T).mono (show 3 ≤ 8 by decide)
  refine ⟨_, (pss_one (ps_ret (pe_meth0 (pe_call G_grown hr rfl T.m_grown T.F_grown.kp T.b_grown .nil pass1 (PAs.h (pas_cons (pv 0) (pas_cons (pe_call G_checked hr rfl T.m_checked T.F_checked.kp T.b_checked .nil passes1 (PAs.h (pas_cons (pv 0) (pas_cons (pv 1) pas_nil)))) pas_nil)))) T.cl_Growth T.me_Growth_weight G_Growth_weight hr T.b_Growth_weight .nil pass1))), ?_⟩
  refine ⟨_, rfl, _, rfl, _, rfl, p, f :: L, _, l, rfl, hp, h16, fun hall => ?_, fun hbad => q1 hbad⟩
  obtain ⟨S, q⟩ := q2 hall
  refine ⟨p, f, L, d, l, rfl, hp, S, fun g tb rp H1 s1 _ _ _ G => ?_⟩
  obtain ⟨dx, ob⟩ := G.ob
  exact ⟨g, dx, _, rfl, ob, (gf_no _ _ _ _).2.2.2.1, g, tb, rp, p, f, L, d, l, l.length, _, rfl, G, by omega, fun z H2 s2 hz => q H2 z (s1.trans s2) hz⟩
def EqW (x y : Int × Int) : Prop := 0 < x.2 ∧ 0 < y.2 ∧ x.1 * y.2 = y.1 * x.2
theorem EqW.refl {x : Int × Int} (h : 0 < x.2) : EqW x x := ⟨h, h, rfl⟩
theorem EqW.trans {x y z : Int × Int} (h1 : EqW x y) (h2 : EqW y z) : EqW x z := by
  obtain ⟨a, b, c⟩ := h1
  obtain ⟨_, e, f⟩ := h2
  refine ⟨a, e, Int.eq_of_mul_eq_mul_right (a := y.2) (by omega) ?_⟩
  grind
theorem eldL_loc (f d : Nat) (l x : List Nat) {n : Nat} (hn : n ≤ l.length) : eldL f d (l ++ x) n = eldL f d l n := by
  unfold eldL
  refine List.map_congr_left fun j _ => ?_
  split
  · rename_i z
    rw [List.getD_eq_getElem?_getD, List.getD_eq_getElem?_getD, List.getElem?_append_left (by omega)]
  · rfl
theorem falls_loc (f d : Nat) (l x k : List Nat) {n : Nat} (hn : n ≤ l.length) : falls f d (l ++ x) k n = falls f d l k n := by
  unfold falls; rw [eldL_loc f d l x hn]
theorem cntL_loc (L : List Nat) (f d : Nat) (l x k : List Nat) {n : Nat} (hn : n ≤ l.length) : cntL L f d (l ++ x) k n = cntL L f d l k n := by
  unfold cntL
  refine List.map_congr_left fun c _ => ?_
  congr 1
  refine List.filter_congr fun j hj => ?_
  have hj' := List.mem_range.mp hj
  rw [falls_loc f d l x k (by omega), List.getElem?_append_left (by omega)]
theorem seen_loc (f d : Nat) (l x k : List Nat) {n : Nat} (hn : n ≤ l.length) : seen f d (l ++ x) k n = seen f d l k n := by
  unfold seen
  rw [Bool.eq_iff_iff, List.any_eq_true, List.any_eq_true]
  constructor
  · rintro ⟨j, hj, h⟩
    exact ⟨j, hj, by rw [← falls_loc f d l x k (by have := List.mem_range.mp hj; omega)]; exact h⟩
  · rintro ⟨j, hj, h⟩
    exact ⟨j, hj, by rw [falls_loc f d l x k (by have := List.mem_range.mp hj; omega)]; exact h⟩
theorem wv_loc (L : List Nat) (f d : Nat) (l x : List Nat) {n : Nat} (hn : n ≤ l.length) : ∀ (r : Nat) (k : List Nat), wv L f d (l ++ x) n r k = wv L f d l n r k
  | 0, k => by unfold wv wo; rw [cntL_loc L f d l x k hn]
  | r + 1, k => by
    show (if _ then _ else _) = (if _ then _ else _)
    rw [seen_loc f d l x k hn, List.map_congr_left fun c _ => wv_loc L f d l x hn r (k ++ [c])]
    unfold wo
    rw [cntL_loc L f d l x k hn]
theorem sum_odd : ∀ cs : List Nat, (cs.map fun v : Nat => (2 * (v : Int) + 1)).sum = 2 * (cs.sum : Int) + cs.length
  | [] => rfl
  | c :: cs => by
    rw [List.map_cons, List.sum_cons, sum_odd cs, List.sum_cons, List.length_cons]; omega
theorem sum_mul (a : Int) {α : Type} (g : α → Int) : ∀ cs : List α, (cs.map fun c => a * g c).sum = a * (cs.map g).sum
  | [] => by simp
  | c :: cs => by rw [List.map_cons, List.sum_cons, List.map_cons, List.sum_cons, sum_mul a g cs]; grind
theorem sum_lin (a b : Int) {α : Type} (g h : α → Int) : ∀ cs : List α, (cs.map fun c => g c * a + h c * b).sum = (cs.map g).sum * a + (cs.map h).sum * b
  | [] => by simp
  | c :: cs => by rw [List.map_cons, List.sum_cons, List.map_cons, List.sum_cons, List.map_cons, List.sum_cons, sum_lin a b g h cs]; grind
theorem prodI_split {g : Nat → Int} {c0 : Nat} : ∀ {L : List Nat}, L.Nodup → c0 ∈ L → prodI (L.map g) = g c0 * prodI ((L.filter fun c => decide (c ≠ c0)).map g)
  | [], _, h => nomatch h
  | c :: L, hn, h => by
    obtain ⟨h1, h2⟩ := List.nodup_cons.mp hn
    show g c * prodI (L.map g) = _
    by_cases z : c = c0
    · subst z
      rw [List.filter_cons, if_neg (by simp)]
      rw [List.filter_eq_self.mpr fun y hy => by simp; exact fun e => h1 (e ▸ hy)]
    · rcases List.mem_cons.mp h with e | hm
      · exact absurd e.symm z
      · rw [List.filter_cons, if_pos (by simp [z])]
        show _ = g c0 * (g c * _)
        rw [prodI_split h2 hm]; grind
theorem prodI_ones {g : Nat → Int} : ∀ {L : List Nat}, (∀ c ∈ L, g c = 1) → prodI (L.map g) = 1
  | [], _ => rfl
  | c :: L, h => by
    show g c * prodI (L.map g) = 1
    rw [h c List.mem_cons_self, prodI_ones fun c' h' => h c' (List.mem_cons_of_mem _ h')]; rfl
theorem seen_up {f d : Nat} {l k : List Nat} {c n : Nat} (h : seen f d l k n = false) : seen f d l (k ++ [c]) n = false := by
  unfold seen at *
  rw [List.any_eq_false] at *
  intro j hj z
  exact h j hj (falls_iff.mpr ((List.prefix_append k [c]).trans (falls_iff.mp z)))
def spLFr (K : PySem.W.Frag) : Sp := fun vs H Q _ => ∃ x A B, vs = [x, .int A, .int B] ∧ FrV K H x A B ∧ A < 2 ^ 8990 ∧ B < 2 ^ 8990 ∧ Q (.bl true) H
theorem ok_L_fraction (T : Txt K mg t) : FnOk P w K mg base (CX1 P w) 2 t.a_L_fraction t.fd_L_fraction ["found", "top", "bottom"] (spLFr K) := by
  refine T.F_L_fraction.okn (k := 1) sc_L_fraction (fun vs H Q E h => ?_) (fun cdv A outer s H vs Q E hr h => ?_)
  · obtain ⟨x, a, b, rfl, _⟩ := h; rfl
  obtain ⟨_, a, b, rfl, ⟨p, n, d, rfl, hq, n0, d0, cr, gc, l1, l2⟩, ba, bb, q⟩ := h
  have G_L_whole := ok_L_whole (P := P) (w := w) (base := base) T
  have G_L_divisor := ok_L_divisor (P := P) (w := w) (base := base) T
  have an := abs_lt n0 l1 ba
  have ad := abs_lt d0 l2 bb
  have aa := abs_lt (show 0 < a by omega) (Int.le_refl a) ba
  have ab := abs_lt (show 0 < b by omega) (Int.le_refl b) bb
  refine ⟨_, (pss_cons (ps_if (PW.pt (pw_or (pt_not (pt_val (pe_callB isiAnyT rfl T.m_isinstance bt_isinstance (PAs.h (pas_cons (pv 0) (pas_cons (pe_bltn (v := .ty "tuple") rfl T.m_tuple bt_tuple rfl) pas_nil)))))) (pw_or (pt_cmpR (oNeN (hr.units0)) (pe_callB call_len rfl T.m_len bt_len (pa_cons (pv 0) pa_nil)) pe_int (nomark _)) (pw_or (pt_not (pt_val (pe_call G_L_whole hr rfl T.m_L_whole T.F_L_whole.kp T.b_L_whole .nil pass1 (pa_cons (pe_ix ixAny (pv 0) pe_int (fun _ _ => rfl)) pa_nil)))) (pw_or1 (pt_not (pt_val (pe_call G_L_whole hr rfl T.m_L_whole T.F_L_whole.kp T.b_L_whole .nil pass1 (pa_cons (pe_ix ixAny (pv 0) pe_int (fun _ _ => rfl)) pa_nil))))))))) (pss_one (ps_ret pe_bl)) pss_nil)
    (pss_cons (ps_if (PW.pt (pw_or (pt_cmpR oLt (pe_ix ixAny (pv 0) pe_int (fun _ _ => rfl)) pe_int (nomark _)) (pw_or (pt_cmpR oLt (pe_ix ixAny (pv 0) pe_int (fun _ _ => rfl)) pe_int (nomark _)) (pw_or1 (pt_cmpR (oNeN (hr.units0)) (pe_op oMulN (pe_ix ixAny (pv 0) pe_int (fun _ _ => rfl)) (pv 2)) (pe_op oMulN (pv 1) (pe_ix ixAny (pv 0) pe_int (fun _ _ => rfl))) (nomark _)))))) (pss_one (ps_ret pe_bl)) pss_nil)
    (pss_one (ps_ret (pe_cmpR (oEqA (hr.units0)) (pe_call G_L_divisor hr rfl T.m_L_divisor T.F_L_divisor.kp T.b_L_divisor .nil pass1 (PAs.h (pas_cons (pe_ix ixAny (pv 0) pe_int (fun _ _ => rfl)) (pas_cons (pe_ix ixAny (pv 0) pe_int (fun _ _ => rfl)) pas_nil)))) pe_int (nomark _)))))), ?_⟩
  refine ⟨_, rfl, .inr ⟨p, _, rfl, hq, true, rfl, iteF ?_⟩⟩
  refine ⟨_, rfl, _, _, rfl, .inr ⟨_, hq, rfl⟩, .inl ⟨rfl, _, rfl, ifnF rfl ?_⟩⟩
  refine ⟨_, rfl, ixT hq rfl ⟨_, _, true, false, rfl, .int _, kit_same K _, kit_int_bool K, true, rfl, iteF ?_⟩⟩
  refine ⟨_, rfl, ixT hq rfl ⟨_, _, true, false, rfl, .int _, kit_same K _, kit_int_bool K, true, rfl, iteF ?_⟩⟩
  refine ⟨_, rfl, ixT hq rfl (.inl ⟨_, _, rfl, rfl, _, rfl, ifF (by omega) ?_⟩)⟩
  refine ⟨_, rfl, ixT hq rfl (.inl ⟨_, _, rfl, rfl, _, rfl, ifF (by omega) ?_⟩)⟩
  refine ⟨_, rfl, ixT hq rfl ⟨_, rfl, .inl ⟨_, _, rfl, rfl, mulB (pow_lt an (by decide)) (pow_lt ab (by decide)), _, rfl, _, rfl, ixT hq rfl (.inl ⟨_, _, rfl, rfl, mulB (pow_lt aa (by decide)) (pow_lt ad (by decide)), .inl ⟨rfl, _, rfl, ifnF (congrArg V.int cr) ?_⟩⟩)⟩⟩⟩
  refine ⟨_, rfl, ixT hq rfl ⟨_, rfl, ixT hq rfl ⟨n, d, rfl, d0, .inl ⟨rfl, ?_⟩⟩⟩⟩
  rw [decide_eq_true (congrArg V.int gc)]
  exact q
def gC (f d : Nat) (l k : List Nat) (n c : Nat) : Nat := ((List.range n).filter fun j => falls f d l k j && decide (l[j]? = some c)).length
theorem wo_next {L : List Nat} {f d : Nat} {l k : List Nat} {c : Nat} (hL : L.Nodup) (hc : c ∈ L) (hk : k <+: eldL f d l l.length) :
    wo L f d (l ++ [c]) (l.length + 1) k = ((wo L f d l l.length k).1 * (2 * (gC f d l k l.length c : Int) + 1), (wo L f d l l.length k).2 * (2 * ((cntL L f d l k l.length).sum : Nat) + (L.length : Nat))) := by
  obtain ⟨i, hi⟩ := List.getElem?_of_mem hc
  obtain ⟨v, h1, _, h3⟩ := wo_on (l := l ++ [c]) (n := l.length) (k := k) hL (by rw [eldL_loc f d l [c] (Nat.le_refl _)]; exact hk) hi (by simp)
  have e1 : wo L f d (l ++ [c]) l.length k = wo L f d l l.length k := by unfold wo; rw [cntL_loc L f d l [c] k (Nat.le_refl _)]
  rw [cntL_loc L f d l [c] k (Nat.le_refl _)] at h1 h3
  have ev : v = gC f d l k l.length c := by
    unfold cntL at h1
    rw [List.getElem?_map, hi] at h1
    exact (Option.some.inj h1).symm
  rw [h3, e1, ev]
theorem sum_gC {L : List Nat} {f d : Nat} {l k : List Nat} {n : Nat} : (L.map fun c => 2 * (gC f d l k n c : Int) + 1).sum = 2 * ((cntL L f d l k n).sum : Nat) + (L.length : Nat) := by
  have h := sum_odd (cntL L f d l k n)
  rw [cntL_len] at h
  rw [← h]
  unfold cntL
  rw [List.map_map]; rfl
theorem wv_sum {L : List Nat} {f d : Nat} {l : List Nat} (hL : L.Nodup) (hf : f ∈ L) (hl : ∀ c ∈ l, c ∈ L) : ∀ (r : Nat) (k : List Nat), k.length + r = d → k <+: eldL f d l l.length →
    ∃ B, (∀ c ∈ L, (wv L f d (l ++ [c]) (l.length + 1) r k).2 = B) ∧ (L.map fun c => (wv L f d (l ++ [c]) (l.length + 1) r k).1).sum * (wv L f d l l.length r k).2 = (wv L f d l l.length r k).1 * B := by
  intro r
  induction r with
  | zero =>
    intro k hk hp
    refine ⟨(wo L f d l l.length k).2 * (2 * ((cntL L f d l k l.length).sum : Nat) + (L.length : Nat)), fun c hc => ?_, ?_⟩
    · show (wo L f d (l ++ [c]) (l.length + 1) k).2 = _
      rw [wo_next hL hc hp]
    · show (L.map fun c => (wo L f d (l ++ [c]) (l.length + 1) k).1).sum * (wo L f d l l.length k).2 = (wo L f d l l.length k).1 * _
      rw [List.map_congr_left (g := fun c => (wo L f d l l.length k).1 * (2 * (gC f d l k l.length c : Int) + 1)) fun c hc => by rw [wo_next hL hc hp], sum_mul, sum_gC]
      grind
  | succ r ih =>
    intro k hk hp
    obtain ⟨c0, hc0, pre⟩ := next_of (show k.length < d by omega) hp
    have hc0L := eldL_in hf hl (Nat.le_refl _) c0 hc0
    obtain ⟨Y, hY, hS⟩ := ih (k ++ [c0]) (by rw [List.length_append]; show _ + 1 + _ = _; omega) ((pre c0).mpr rfl)
    have hoff : ∀ c c', c' ≠ c0 → wv L f d (l ++ [c]) (l.length + 1) r (k ++ [c']) = wv L f d l l.length r (k ++ [c']) := fun c c' hne => by
      rw [wv_off r (fun z => hne ((pre c').mp (by rw [← eldL_loc f d l [c] (Nat.le_refl _)]; exact z))), wv_loc L f d l [c] (Nat.le_refl _)]
    have hse : ∀ c, seen f d (l ++ [c]) k (l.length + 1) = true := fun c => seen_yes (falls_iff.mpr (by rw [eldL_loc f d l [c] (Nat.le_refl _)]; exact hp))
    have e1 : ∀ c, (prodW (L.map fun c' => wv L f d (l ++ [c]) (l.length + 1) r (k ++ [c']))).1 = (wv L f d (l ++ [c]) (l.length + 1) r (k ++ [c0])).1 * prodI ((L.filter fun c' => decide (c' ≠ c0)).map fun c' => (wv L f d l l.length r (k ++ [c'])).1) := fun c => by
      show prodI ((L.map _).map _) = _
      rw [List.map_map]
      refine (prodI_split hL hc0L).trans ?_
      refine congrArg (fun z => _ * prodI z) ?_
      refine List.map_congr_left fun c' h' => ?_
      show (wv L f d (l ++ [c]) (l.length + 1) r (k ++ [c'])).1 = _
      rw [hoff c c' (by simpa using (List.mem_filter.mp h').2)]
    have e2 : ∀ c, (prodW (L.map fun c' => wv L f d (l ++ [c]) (l.length + 1) r (k ++ [c']))).2 = (wv L f d (l ++ [c]) (l.length + 1) r (k ++ [c0])).2 * prodI ((L.filter fun c' => decide (c' ≠ c0)).map fun c' => (wv L f d l l.length r (k ++ [c'])).2) := fun c => by
      show prodI ((L.map _).map _) = _
      rw [List.map_map]
      refine (prodI_split hL hc0L).trans ?_
      refine congrArg (fun z => _ * prodI z) ?_
      refine List.map_congr_left fun c' h' => ?_
      show (wv L f d (l ++ [c]) (l.length + 1) r (k ++ [c'])).2 = _
      rw [hoff c c' (by simpa using (List.mem_filter.mp h').2)]
    have z1 : (prodW (L.map fun c' => wv L f d l l.length r (k ++ [c']))).1 = (wv L f d l l.length r (k ++ [c0])).1 * prodI ((L.filter fun c' => decide (c' ≠ c0)).map fun c' => (wv L f d l l.length r (k ++ [c'])).1) := by
      show prodI ((L.map _).map _) = _
      rw [List.map_map]
      exact prodI_split hL hc0L
    have z2 : (prodW (L.map fun c' => wv L f d l l.length r (k ++ [c']))).2 = (wv L f d l l.length r (k ++ [c0])).2 * prodI ((L.filter fun c' => decide (c' ≠ c0)).map fun c' => (wv L f d l l.length r (k ++ [c'])).2) := by
      show prodI ((L.map _).map _) = _
      rw [List.map_map]
      exact prodI_split hL hc0L
    have hR1 : ∀ c' ∈ L.filter (fun c' => decide (c' ≠ c0)), seen f d l k l.length = false → wv L f d l l.length r (k ++ [c']) = (1, 1) := fun c' _ z => wv_unseen (seen_up z)
    have hX0 : seen f d l k l.length = false → wv L f d l l.length r (k ++ [c0]) = (1, 1) := fun z => wv_unseen (seen_up z)
    have hR1' : seen f d l k l.length = false → prodI ((L.filter fun c' => decide (c' ≠ c0)).map fun c' => (wv L f d l l.length r (k ++ [c'])).1) = 1 := fun z => prodI_ones fun c' h' => by rw [hR1 c' h' z]
    have hR2' : seen f d l k l.length = false → prodI ((L.filter fun c' => decide (c' ≠ c0)).map fun c' => (wv L f d l l.length r (k ++ [c'])).2) = 1 := fun z => prodI_ones fun c' h' => by rw [hR1 c' h' z]
    generalize prodI ((L.filter fun c' => decide (c' ≠ c0)).map fun c' => (wv L f d l l.length r (k ++ [c'])).1) = R1 at *
    generalize prodI ((L.filter fun c' => decide (c' ≠ c0)).map fun c' => (wv L f d l l.length r (k ++ [c'])).2) = R2 at *
    have hwc : ∀ c ∈ L, wv L f d (l ++ [c]) (l.length + 1) (r + 1) k = ((wo L f d l l.length k).1 * (2 * (gC f d l k l.length c : Int) + 1) * (Y * R2) + (wv L f d (l ++ [c]) (l.length + 1) r (k ++ [c0])).1 * R1 * ((wo L f d l l.length k).2 * (2 * ((cntL L f d l k l.length).sum : Nat) + (L.length : Nat))),
        2 * ((wo L f d l l.length k).2 * (2 * ((cntL L f d l k l.length).sum : Nat) + (L.length : Nat)) * (Y * R2))) := fun c hc => by
      rw [wv_seen (hse c)]
      unfold mixW
      rw [e1, e2, wo_next hL hc hp, hY c hc]
    refine ⟨2 * ((wo L f d l l.length k).2 * (2 * ((cntL L f d l k l.length).sum : Nat) + (L.length : Nat)) * (Y * R2)), fun c hc => by rw [hwc c hc], ?_⟩
    have hsum : (L.map fun c => (wv L f d (l ++ [c]) (l.length + 1) (r + 1) k).1).sum = (wo L f d l l.length k).1 * (2 * ((cntL L f d l k l.length).sum : Nat) + (L.length : Nat)) * (Y * R2) + (L.map fun c => (wv L f d (l ++ [c]) (l.length + 1) r (k ++ [c0])).1).sum * (R1 * ((wo L f d l l.length k).2 * (2 * ((cntL L f d l k l.length).sum : Nat) + (L.length : Nat)))) := by
      rw [List.map_congr_left (g := fun c => ((wo L f d l l.length k).1 * (2 * (gC f d l k l.length c : Int) + 1)) * (Y * R2) + (wv L f d (l ++ [c]) (l.length + 1) r (k ++ [c0])).1 * (R1 * ((wo L f d l l.length k).2 * (2 * ((cntL L f d l k l.length).sum : Nat) + (L.length : Nat))))) fun c hc => by rw [hwc c hc]; grind]
      rw [sum_lin, sum_mul, sum_gC]
    rw [hsum]
    generalize (L.map fun c => (wv L f d (l ++ [c]) (l.length + 1) r (k ++ [c0])).1).sum = SX at *
    generalize hSS : (2 * ((cntL L f d l k l.length).sum : Nat) + (L.length : Nat) : Int) = SS at *
    cases z : seen f d l k l.length with
    | true =>
      rw [wv_seen z]
      unfold mixW
      rw [z1, z2]
      generalize wv L f d l l.length r (k ++ [c0]) = X0 at *
      generalize wo L f d l l.length k = a at *
      grind
    | false =>
      have hwo := wo_unseen (L := L) z
      have hX := hX0 z
      have h1 := hR1' z
      have h2 := hR2' z
      rw [wv_unseen z, hwo, h1, h2]
      rw [hX] at hS
      grind
inductive Sh where
  | non | oth | tup (bs : List Sh)
inductive Oth (K : PySem.W.Frag) (H : Hp) : V → Prop where
  | bl (b : Bool) : Oth K H (.bl b)
  | int (n : Int) : Oth K H (.int n)
  | str (z : Str) : Oth K H (.str z)
  | lst {a : Addr} {xs : List V} (e : H a = some (.lst xs)) : Oth K H (.ref a)
  | dK {a : Addr} {kvs : List (Key × V)} (e : H a = some (.dK kvs)) : Oth K H (.ref a)
theorem Oth.same {H H' : Hp} {x : V} (h : Oth K H x) (g : Same H H') : Oth K H' x := by
  cases h with
  | bl b => exact .bl b
  | int n => exact .int n
  | str z => exact .str z
  | lst e => exact .lst (g _ _ e)
  | dK e => exact .dK (g _ _ e)
theorem Oth.ne {H : Hp} {x : V} (h : Oth K H x) : decide (x = .non) = false := by cases h <;> exact decide_eq_false (fun z => nomatch z)
theorem kitsT (K : PySem.W.Frag) : PySem.W.kitOne K (.type "bool") (.type "tuple") = some false ∧ PySem.W.kitOne K (.type "int") (.type "tuple") = some false ∧ PySem.W.kitOne K (.type "str") (.type "tuple") = some false ∧
    PySem.W.kitOne K (.type "list") (.type "tuple") = some false ∧ PySem.W.kitOne K (.type "dict") (.type "tuple") = some false := by
  unfold PySem.W.kitOne PySem.W.kitCls PySem.W.subIn
  refine ⟨?_, ?_, ?_, ?_, ?_⟩ <;> kernel_rfl
theorem Oth.kit {H : Hp} {x : V} (h : Oth K H x) : ∃ ty, TyOf K H x ty ∧ PySem.W.kitOne K ty (.type "tuple") = some false := by
  obtain ⟨b1, i1, s1, l1, d1⟩ := kitsT K
  cases h with
  | bl b => exact ⟨_, .bl b, b1⟩
  | int n => exact ⟨_, .int n, i1⟩
  | str z => exact ⟨_, .str z, s1⟩
  | lst e => exact ⟨_, .lst e, l1⟩
  | dK e => exact ⟨_, .dK e, d1⟩
inductive ShAt (K : PySem.W.Frag) (H : Hp) : V → Sh → Prop where
  | non : ShAt K H .non .non
  | oth {x : V} (h : Oth K H x) : ShAt K H x .oth
  | tup {a : Addr} {vs : List V} {bs : List Sh} (e : H a = some (.tup vs)) (hl : vs.length = bs.length) (h : ∀ (i : Nat) v b, vs[i]? = some v → bs[i]? = some b → ShAt K H v b) : ShAt K H (.ref a) (.tup bs)
theorem ShAt.same {H H' : Hp} {x : V} {τ : Sh} (h : ShAt K H x τ) (g : Same H H') : ShAt K H' x τ := by
  induction h with
  | non => exact .non
  | oth h => exact .oth (h.same g)
  | tup e hl _ ih => exact .tup (g _ _ e) hl ih
def isTr (m : Nat) : Nat → Sh → Bool
  | _, .non => true
  | _, .oth => false
  | 0, .tup _ => false
  | n + 1, .tup bs => decide (bs.length = m) && bs.all (isTr m n)
def spTreeOf (K : PySem.W.Frag) (n : Nat) : Sp := fun vs H Q _ => ∃ (L : List Nat) (x : V) (τ : Sh), vs = [vt L, x, .int n] ∧ L.length ≤ 100 ∧ ShAt K H x τ ∧ ∀ H', Same H H' → Q (.bl (isTr L.length n τ)) H'
theorem ok_none {k : Nat} {f : Addr} {fd : FuncData} {ps : List Str} : FnOk P w K mg base (CX1 P w) k f fd ps (fun _ _ _ _ => False) := ⟨fun _ _ _ _ h => h.elim, fun _ _ _ _ _ _ _ _ _ _ _ _ _ h => h.elim⟩
theorem tree_of_step (T : Txt K mg t) (n : Nat) (sp : Sp) (hsp : ∀ k, n = k + 1 → sp = spTreeOf K k) (G_is_tree_of : FnOk P w K mg base (CX1 P w) n t.a_is_tree_of t.fd_is_tree_of ["letters", "thing", "steps"] sp) :
    FnOk P w K mg base (CX1 P w) (n + 1) t.a_is_tree_of t.fd_is_tree_of ["letters", "thing", "steps"] (spTreeOf K n) := by
  refine T.F_is_tree_of.okn (k := n) sc_is_tree_of (fun vs H Q E h => ?_) (fun cdv A outer s H vs Q E hr h => ?_)
  · obtain ⟨L, x, τ, rfl, _⟩ := h; rfl
  obtain ⟨L, x, τ, rfl, hL, hx, q⟩ := h
  have zL : L.length ≤ sizeLine := by rw [sizeLine_eq]; omega
  refine ⟨_, (pss_cons (ps_if (pt_cmp (pc_isN (pv 1))) (pss_one (ps_ret pe_bl)) pss_nil)
    (pss_cons (ps_if (PW.pt (pw_or (pt_cmpR (oEqA (hr.units0)) (pv 2) pe_int (nomark _)) (pw_or (pt_not (pt_val (pe_callB isiAny rfl T.m_isinstance bt_isinstance (PAs.h (pas_cons (pv 1) (pas_cons (pe_bltn (v := .ty "tuple") rfl T.m_tuple bt_tuple rfl) pas_nil)))))) (pw_or1 (pt_cmpR (oNeN (hr.units0)) (pe_callB call_len rfl T.m_len bt_len (pa_cons (pv 1) pa_nil)) (pe_callB call_len rfl T.m_len bt_len (pa_cons (pv 0) pa_nil)) (nomark _)))))) (pss_one (ps_ret pe_bl)) pss_nil)
    (pss_one (ps_ret (pe_callB (callAll rfl) rfl T.m_all bt_all (pa_cons (pe_lc (compSc_of (N := ["branch", "letters", "steps"]) (cap := [none, some 0, some 2]) (by kernel_rfl)) rfl (piAny (pv 1)) ⟨fun _ => (pg_name (i := 0) (show List.Nodup (["branch", "letters", "steps"] : List Str) by decide +kernel) rfl (Or.inl rfl)), fun _ => pf_nil, fun _ => (pe_call G_is_tree_of hr rfl T.m_is_tree_of T.F_is_tree_of.kp T.b_is_tree_of .nil pass1 (PAs.h (pas_cons (pv 1) (pas_cons (pv 0) (pas_cons (pe_op op_sub (pv 2) pe_int) pas_nil)))))⟩) pa_nil)))))), ?_⟩
  cases hx with
  | non =>
    refine ⟨_, rfl, _, rfl, iteT ?_⟩
    have : isTr L.length n Sh.non = true := by cases n <;> rfl
    rw [this] at q
    exact q H (Same.refl H)
  | oth h =>
    obtain ⟨ty, hty, ek⟩ := h.kit
    refine ⟨_, rfl, _, rfl, ?_⟩
    rw [h.ne]
    refine iteF ?_
    have hb : isTr L.length n Sh.oth = false := by cases n <;> rfl
    rw [hb] at q
    repeat array_get_dec
    refine if2 (fun _ => q H (Same.refl H)) (fun _ => ?_)
    exact ⟨_, rfl, .inl ⟨x, ty, _, false, rfl, hty, ek, false, rfl, iteT (q H (Same.refl H))⟩⟩
  | tup e hl h =>
    rename_i a vs bs
    refine ⟨_, rfl, _, rfl, iteF ?_⟩
    repeat array_get_dec
    refine if2 (fun z => ?_) (fun z => ?_)
    · have : n = 0 := by have := V.int.inj z; omega
      subst this
      exact q H (Same.refl H)
    obtain ⟨k, rfl⟩ : ∃ k, n = k + 1 := ⟨n - 1, by cases n with | zero => exact absurd rfl z | succ n => rfl⟩
    have hs := hsp k rfl
    subst hs
    refine ⟨_, rfl, .inl ⟨_, _, _, true, rfl, .tup e, kit_same K _, true, rfl, iteF ?_⟩⟩
    repeat array_get_dec
    try dsimp (config := { proj := false, eta := false, zeta := false, iota := false }) only [tNil, tC]
    refine ifn2 (fun z2 => ?_) (fun z2 => ?_)
    · have : isTr L.length (k + 1) (Sh.tup bs) = false := by
        show (decide (bs.length = L.length) && _) = false
        rw [decide_eq_false (fun e => z2 (congrArg (fun (n : Nat) => V.int (n : Int)) (hl.trans e))), Bool.false_and]
      rw [this] at q
      exact q H (Same.refl H)
    have hbl : bs.length = L.length := by
      have := V.int.inj z2
      omega
    have hq : isTr L.length (k + 1) (Sh.tup bs) = bs.all (isTr L.length k) := by
      show (decide (bs.length = L.length) && _) = _
      rw [decide_eq_true hbl, Bool.true_and]
    rw [hq] at q
    refine ⟨_, rfl, .inr (.inl ⟨_, _, rfl, .inl (.inl e), fun D hD c => ?_⟩)⟩
    refine lc_grow walk_tup hD (fun _ j v => ∀ b, bs[j]? = some b → v = .bl (isTr L.length k b)) (fun _ _ _ _ _ h => h) (fun H1 s1 => .inl (.inl (s1 _ _ e))) (by rw [sizeLine_eq]; omega) ?_ ?_
    · intro i x H1 ys C hx s1 _ hC
      have hi := (List.getElem?_eq_some_iff.mp hx).1
      have hb := List.getElem?_eq_getElem (show i < bs.length by omega)
      refine ⟨_, rfl, _, rfl, _, rfl, _, _, rfl, rfl, ?_⟩
      refine ⟨L, x, bs[i], ?_, hL, (h i x _ hx hb).same s1, fun H' s' => hC H' _ s' (fun b hb' => ?_)⟩
      · show [vt L, x, V.int (((k + 1 : Nat) : Int) - 1)] = _
        rw [show (((k + 1 : Nat) : Int) - 1) = (k : Int) by omega]
      · rw [hb] at hb'; cases hb'; rfl
    · intro H1 ys s1 hy hn hv
      have : ys = (bs.map (isTr L.length k)).map V.bl := by
        refine List.ext_getElem? fun j => ?_
        rw [List.getElem?_map, List.getElem?_map]
        cases z : bs[j]? with
        | none =>
          rw [List.getElem?_eq_none_iff] at z
          rw [List.getElem?_eq_none (by omega)]; rfl
        | some b =>
          have hj := (List.getElem?_eq_some_iff.mp z).1
          have := List.getElem?_eq_getElem (show j < ys.length by omega)
          rw [this, hv j _ this b z]; rfl
      subst this
      refine ⟨_, _, rfl, .inl (.inl hy), ?_⟩
      rw [List.all_map]
      exact q H1 s1
theorem ok_is_tree_of (T : Txt K mg t) : ∀ n, FnOk P w K mg base (CX1 P w) (n + 1) t.a_is_tree_of t.fd_is_tree_of ["letters", "thing", "steps"] (spTreeOf K n)
  | 0 => tree_of_step T 0 _ (fun _ h => nomatch h) ok_none
  | n + 1 => tree_of_step T (n + 1) _ (fun k h => by cases h; rfl) (ok_is_tree_of T n)
def spTreeAny (K : PySem.W.Frag) : Sp := fun vs H Q E => ∃ n, n ≤ 6 ∧ spTreeOf K n vs H Q E
theorem ok_tree_any (T : Txt K mg t) : FnOk P w K mg base (CX1 P w) 7 t.a_is_tree_of t.fd_is_tree_of ["letters", "thing", "steps"] (spTreeAny K) := by
  refine ⟨fun vs H Q E ⟨n, _, h⟩ => (ok_is_tree_of (P := P) (w := w) (base := base) T n).len vs H Q E h, fun A outer s H args us vs Q E hr h0 h1 h2 ⟨n, hn, h⟩ => ?_⟩
  exact ((ok_is_tree_of (P := P) (w := w) (base := base) T n).mono (show n + 1 ≤ 7 by omega)).run A outer s H args us vs Q E hr h0 h1 h2 h
def spIsTree (K : PySem.W.Frag) : Sp := fun vs H Q _ => ∃ (f : Addr) (L : List Nat) (d : Nat) (x : V) (τ : Sh), vs = [.ref f, x] ∧ SqT K H f [vt L, .int d] ∧ L.length ≤ 100 ∧ d ≤ 6 ∧ ShAt K H x τ ∧ ∀ H', Same H H' → Q (.bl (isTr L.length d τ)) H'
theorem ok_is_tree (T : Txt K mg t) : FnOk P w K mg base (CX1 P w) 8 t.a_is_tree t.fd_is_tree ["frame", "thing"] (spIsTree K) := by
  refine T.F_is_tree.okn (k := 7) sc_is_tree (fun vs H Q E h => ?_) (fun cdv A outer s H vs Q E hr h => ?_)
  · obtain ⟨f, L, d, x, τ, rfl, _⟩ := h; rfl
  obtain ⟨f, L, d, x, τ, rfl, hf, hL, hd, hx, q⟩ := h
  have G_is_tree_of := ok_tree_any (P := P) (w := w) (base := base) T
  refine ⟨_, (pss_one (ps_ret (pe_call G_is_tree_of hr rfl T.m_is_tree_of T.F_is_tree_of.kp T.b_is_tree_of .nil pass1 (PAs.h (pas_cons (pe_ix ixAny (pv 0) pe_int (fun _ _ => rfl)) (pas_cons (pv 1) (pas_cons (pe_ix ixAny (pv 0) pe_int (fun _ _ => rfl)) pas_nil))))))), ?_⟩
  refine ⟨_, rfl, ixT hf rfl ⟨_, rfl, _, rfl, ixT hf rfl ?_⟩⟩
  exact ⟨d, hd, L, x, τ, rfl, hL, hx, q⟩
theorem isTr_tup {M n : Nat} {bs : List Sh} (h : isTr M n (.tup bs) = true) : ∃ k, n = k + 1 ∧ bs.length = M ∧ ∀ b ∈ bs, isTr M k b = true := by
  cases n with
  | zero => cases h
  | succ k =>
    have h' : (decide (bs.length = M) && bs.all (isTr M k)) = true := h
    rw [Bool.and_eq_true, List.all_eq_true] at h'
    exact ⟨k, rfl, of_decide_eq_true h'.1, h'.2⟩
theorem isTr_oth {M n : Nat} : isTr M n .oth = false := by cases n <;> rfl
def spChkTree (K : PySem.W.Frag) (C : Addr) : Sp := fun vs H Q E => ∃ (f : Addr) (L : List Nat) (d : Nat) (x : V) (τ : Sh), vs = [.ref f, x] ∧ SqT K H f [vt L, .int d] ∧ L.length ≤ 100 ∧ d ≤ 6 ∧ ShAt K H x τ ∧
  (isTr L.length d τ = true → ∀ H', Same H H' → Q x H') ∧ (isTr L.length d τ = false → ∀ H', Same H H' → E (.ref C) none H')
theorem ok_checked_tree (T : Txt K mg t) : FnOk P w K mg base (CX1 P w) 9 t.a_checked_tree t.fd_checked_tree ["frame", "thing"] (spChkTree K t.c_NoTree) := by
  refine T.F_checked_tree.okx (k := 8) sc_checked_tree (fun vs H Q E h => ?_) (fun cdv A outer s H vs Q E hr h => ?_)
  · obtain ⟨f, L, d, x, τ, rfl, _⟩ := h; rfl
  obtain ⟨f, L, d, x, τ, rfl, hf, hL, hd, hx, h1, h2⟩ := h
  have G_is_tree := ok_is_tree (P := P) (w := w) (base := base) T
  refine ⟨_, (pss_cons (ps_if (pt_not (pt_val (pe_call G_is_tree hr rfl T.m_is_tree T.F_is_tree.kp T.b_is_tree .nil pass1 (PAs.h (pas_cons (pv 0) (pas_cons (pv 1) pas_nil)))))) (pss_one (ps_raise raises1 rfl rfl T.m_NoTree T.x_NoTree PySem.F.excBase_ValueError (pa_cons pe_str pa_nil))) pss_nil)
    (pss_one (ps_ret (pv 1)))), ?_⟩
  refine ⟨_, rfl, _, rfl, f, L, d, x, τ, rfl, hf, hL, hd, hx, fun H' s' => ⟨_, rfl, ?_⟩⟩
  cases z : isTr L.length d τ with
  | true => exact iteF ⟨_, rfl, h1 z H' s'⟩
  | false => exact iteT ⟨by show 1 ≤ sizeLine; decide, h2 z H' s'⟩
def prOf : Nat → Sh → Nat
  | 0, _ => 0
  | _ + 1, .non => 1
  | _ + 1, .oth => 0
  | n + 1, .tup bs => 1 + (bs.map (prOf n)).sum
def spPriceOf (K : PySem.W.Frag) (n : Nat) : Sp := fun vs H Q _ => ∃ (M : Nat) (x : V) (τ : Sh), vs = [x, .int n] ∧ M ≤ 100 ∧ ShAt K H x τ ∧ isTr M n τ = true ∧ ∀ H', Same H H' → Q (.int (prOf n τ)) H'
theorem price_step (T : Txt K mg t) (n : Nat) (sp : Sp) (hsp : ∀ k, n = k + 1 → sp = spPriceOf K k) (G_price_of : FnOk P w K mg base (CX1 P w) n t.a_price_of t.fd_price_of ["tree", "steps"] sp) :
    FnOk P w K mg base (CX1 P w) (n + 1) t.a_price_of t.fd_price_of ["tree", "steps"] (spPriceOf K n) := by
  refine T.F_price_of.okn (k := n) sc_price_of (fun vs H Q E h => ?_) (fun cdv A outer s H vs Q E hr h => ?_)
  · obtain ⟨M, x, τ, rfl, _⟩ := h; rfl
  obtain ⟨M, x, τ, rfl, hM, hx, ht, q⟩ := h
  refine ⟨_, (pss_cons (ps_if (pt_cmpR (oEqA (hr.units0)) (pv 1) pe_int (nomark _)) (pss_one (ps_ret pe_int)) pss_nil)
    (pss_cons (ps_if (pt_cmp (pc_isN (pv 0))) (pss_one (ps_ret pe_int)) pss_nil)
    (pss_one (ps_ret (pe_op oAddN pe_int (pe_callB (callSum rfl) rfl T.m_sum bt_sum (pa_cons (pe_lc (compSc_of (N := ["branch", "steps"]) (cap := [none, some 1]) (by kernel_rfl)) rfl (piAny (pv 0)) ⟨fun _ => (pg_name (i := 0) (show List.Nodup (["branch", "steps"] : List Str) by decide +kernel) rfl (Or.inl rfl)), fun _ => pf_nil, fun _ => (pe_call G_price_of hr rfl T.m_price_of T.F_price_of.kp T.b_price_of .nil pass1 (PAs.h (pas_cons (pv 0) (pas_cons (pe_op op_sub (pv 1) pe_int) pas_nil))))⟩) pa_nil))))))), ?_⟩
  refine ⟨_, rfl, .inl ⟨rfl, _, rfl, if2 (fun z => ?_) (fun z => ?_)⟩⟩
  · have : n = 0 := by have := V.int.inj z; omega
    subst this
    exact q H (Same.refl H)
  obtain ⟨k, rfl⟩ : ∃ k, n = k + 1 := ⟨n - 1, by cases n with | zero => exact absurd rfl z | succ n => rfl⟩
  have hs := hsp k rfl
  subst hs
  cases hx with
  | non => exact ⟨_, rfl, _, rfl, iteT (q H (Same.refl H))⟩
  | oth h => rw [isTr_oth] at ht; cases ht
  | tup e hl h =>
    rename_i a vs bs
    obtain ⟨k', hk', hbl, hbs⟩ := isTr_tup ht
    cases hk'
    refine ⟨_, rfl, _, rfl, iteF ?_⟩
    refine ⟨_, rfl, .inr (.inl ⟨_, _, rfl, .inl (.inl e), fun D hD c => ?_⟩)⟩
    refine lc_grow walk_tup hD (fun _ j v => ∀ b, bs[j]? = some b → v = .int (prOf k b)) (fun _ _ _ _ _ h => h) (fun H1 s1 => .inl (.inl (s1 _ _ e))) (by rw [sizeLine_eq]; omega) ?_ ?_
    · intro i x H1 ys C hx s1 _ hC
      have hi := (List.getElem?_eq_some_iff.mp hx).1
      have hb := List.getElem?_eq_getElem (show i < bs.length by omega)
      refine ⟨_, rfl, _, rfl, _, _, rfl, rfl, ?_⟩
      refine ⟨M, x, bs[i], ?_, hM, (h i x _ hx hb).same s1, hbs _ (List.getElem_mem _), fun H' s' => hC H' _ s' (fun b hb' => ?_)⟩
      · show [x, V.int (((k + 1 : Nat) : Int) - 1)] = _
        rw [show (((k + 1 : Nat) : Int) - 1) = (k : Int) by omega]
      · rw [hb] at hb'; cases hb'; rfl
    · intro H1 ys s1 hy hn hv
      have : ys = ((bs.map (prOf k)).map (fun (n : Nat) => (n : Int))).map V.int := by
        refine List.ext_getElem? fun j => ?_
        rw [List.getElem?_map, List.getElem?_map, List.getElem?_map]
        cases z : bs[j]? with
        | none =>
          rw [List.getElem?_eq_none_iff] at z
          rw [List.getElem?_eq_none (by omega)]; rfl
        | some b =>
          have hj := (List.getElem?_eq_some_iff.mp z).1
          have := List.getElem?_eq_getElem (show j < ys.length by omega)
          rw [this, hv j _ this b z]; rfl
      subst this
      refine ⟨_, _, rfl, .inl (.inl hy), .inl ⟨_, _, rfl, rfl, ?_⟩⟩
      have e : (1 : Int) + ((bs.map (prOf k)).map (fun (n : Nat) => (n : Int))).sum = ((prOf (k + 1) (.tup bs) : Nat) : Int) := by
        have g : ∀ l : List Nat, (l.map (fun (n : Nat) => (n : Int))).sum = ((l.sum : Nat) : Int) := fun l => by
          induction l with
          | nil => rfl
          | cons a l ih => rw [List.map_cons, List.sum_cons, List.sum_cons, ih]; omega
        show _ = ((1 + (bs.map (prOf k)).sum : Nat) : Int)
        rw [g]; omega
      have := q H1 s1
      rw [← e] at this
      exact this
theorem ok_price_of (T : Txt K mg t) : ∀ n, FnOk P w K mg base (CX1 P w) (n + 1) t.a_price_of t.fd_price_of ["tree", "steps"] (spPriceOf K n)
  | 0 => price_step T 0 _ (fun _ h => nomatch h) ok_none
  | n + 1 => price_step T (n + 1) _ (fun k h => by cases h; rfl) (ok_price_of T n)
def spPriceAny (K : PySem.W.Frag) : Sp := fun vs H Q E => ∃ n, n ≤ 6 ∧ spPriceOf K n vs H Q E
theorem ok_price_any (T : Txt K mg t) : FnOk P w K mg base (CX1 P w) 7 t.a_price_of t.fd_price_of ["tree", "steps"] (spPriceAny K) := by
  refine ⟨fun vs H Q E ⟨n, _, h⟩ => (ok_price_of (P := P) (w := w) (base := base) T n).len vs H Q E h, fun A outer s H args us vs Q E hr h0 h1 h2 ⟨n, hn, h⟩ => ?_⟩
  exact ((ok_price_of (P := P) (w := w) (base := base) T n).mono (show n + 1 ≤ 7 by omega)).run A outer s H args us vs Q E hr h0 h1 h2 h
def spPrice (K : PySem.W.Frag) (C : Addr) : Sp := fun vs H Q E => ∃ (f : Addr) (L : List Nat) (d : Nat) (x : V) (τ : Sh), vs = [.ref f, x] ∧ SqT K H f [vt L, .int d] ∧ L.length ≤ 100 ∧ d ≤ 6 ∧ ShAt K H x τ ∧
  (isTr L.length d τ = true → ∀ H', Same H H' → Q (.int (prOf d τ)) H') ∧ (isTr L.length d τ = false → ∀ H', Same H H' → E (.ref C) none H')
theorem ok_price (T : Txt K mg t) : FnOk P w K mg base (CX1 P w) 10 t.a_price t.fd_price ["frame", "tree"] (spPrice K t.c_NoTree) := by
  refine T.F_price.okx (k := 9) sc_price (fun vs H Q E h => ?_) (fun cdv A outer s H vs Q E hr h => ?_)
  · obtain ⟨f, L, d, x, τ, rfl, _⟩ := h; rfl
  obtain ⟨f, L, d, x, τ, rfl, hf, hL, hd, hx, h1, h2⟩ := h
  have G_checked_tree := ok_checked_tree (P := P) (w := w) (base := base) T
  have G_price_of := (ok_price_any (P := P) (w := w) (base := base) T).mono (show 7 ≤ 9 by decide)
  refine ⟨_, (pss_one (ps_ret (pe_call G_price_of hr rfl T.m_price_of T.F_price_of.kp T.b_price_of .nil pass1 (PAs.h (pas_cons (pe_call G_checked_tree hr rfl T.m_checked_tree T.F_checked_tree.kp T.b_checked_tree .nil passes1 (PAs.h (pas_cons (pv 0) (pas_cons (pv 1) pas_nil)))) (pas_cons (pe_ix ixAny (pv 0) pe_int (fun _ _ => rfl)) pas_nil)))))), ?_⟩
  refine ⟨_, rfl, _, rfl, f, L, d, x, τ, rfl, hf, hL, hd, hx, fun z H1 s1 => ?_, fun z H1 s1 => h2 z H1 s1⟩
  refine ⟨_, rfl, ixT (same_tup s1 hf) rfl ?_⟩
  exact ⟨d, hd, L.length, x, τ, rfl, hL, hx.same s1, z, fun H2 s2 => h1 z H2 (s1.trans s2)⟩
def spLEld (K : PySem.W.Frag) : Sp := fun vs H Q _ => ∃ (p : Addr) (f : Nat) (L l : List Nat) (d a : Nat), vs = [.ref p, vt l, .int a] ∧ SqT K H p [vt (f :: L), .int d] ∧ (f :: L).length ≤ 6 ∧ d ≤ 6 ∧ l.length ≤ 1000 ∧ a ≤ l.length ∧ Q (vt (eldL f d l a)) H
theorem ok_L_elders (T : Txt K mg t) : FnOk P w K mg base (CX1 P w) 1 t.a_L_elders t.fd_L_elders ["frame", "text", "at"] (spLEld K) := by
  refine T.F_L_elders.okn (k := 0) sc_L_elders (fun vs H Q E h => ?_) (fun cdv A outer s H vs Q E hr h => ?_)
  · obtain ⟨p, f, L, l, d, a, rfl, _⟩ := h; rfl
  obtain ⟨p, f, L, l, d, a, rfl, hf, hL6, hd, hll, ha, q⟩ := h
  have zL : (f :: L).length ≤ sizeLine := by rw [sizeLine_eq]; omega
  have zl : l.length ≤ sizeLine := by rw [sizeLine_eq]; omega
  refine ⟨_, (pss_cons (ps_set (i := 3) sc_L_elders.nd rfl (Or.inl rfl) pe_str)
    (pss_cons (ps_for PassesOwn.never rfl (pi_range1 rfl T.m_range (pa_cons (pe_ix ixAny (pv 0) pe_int (fun _ _ => rfl)) pa_nil)) (pg_name (i := 4) sc_L_elders.nd rfl (Or.inl rfl)) (pss_one (ps_if (pt_cmpR op_gt (pv 2) (pv 4) (nomark _)) (pss_one (ps_set (i := 3) sc_L_elders.nd rfl (Or.inl rfl) (pe_op oAddN (pv 3) (pe_ix ixAny (pv 1) (pe_op op_sub (pe_op op_sub (pv 2) pe_int) (pv 4)) (fun _ _ => rfl))))) (pss_one (ps_set (i := 3) sc_L_elders.nd rfl (Or.inl rfl) (pe_op oAddN (pv 3) (pe_ix ixAny (pe_ix ixAny (pv 0) pe_int (fun _ _ => rfl)) pe_int (fun _ _ => rfl))))))))
    (pss_one (ps_ret (pv 3))))), ?_⟩
  show gName 3 (V.str (Str.ofString "")) _ _ _
  rw [str_nil0]
  refine ⟨_, rfl, ixT hf rfl ⟨_, rfl, by omega, by omega, ?_⟩⟩
  refine for_range (fun i σ H' => ∃ r4, σ = [some (.ref p), some (vt l), some (.int a), some (vt ((eldL f d l a).take i)), r4] ∧ H' = H) ⟨none, by rw [List.take_zero]; rfl, rfl⟩ ?_ ?_
  · rintro i _ _ hi ⟨r4, rfl, rfl⟩
    have hid : i < d := by omega
    have he := eldL_at f d l a hid
    have hnx : (eldL f d l a).take (i + 1) = (eldL f d l a).take i ++ [if i < a then l.getD (a - 1 - i) 0 else f] := by rw [List.take_add_one, he]; rfl
    have hzr : ((eldL f d l a).take i).length ≤ 6 := by rw [List.length_take]; omega
    refine ⟨_, rfl, _, rfl, _, _, rfl, rfl, _, rfl, if2 (fun z => ?_) (fun z => ?_)⟩
    · have z' : i < a := by have : (0 + (i : Int)) < ((a : Nat) : Int) := z; omega
      have hj : a - 1 - i < l.length := by omega
      refine ⟨_, rfl, _, rfl, _, rfl, _, _, rfl, rfl, _, rfl, _, _, rfl, rfl, ?_⟩
      try dsimp (config := { proj := false, eta := false, zeta := false, iota := false }) only [tNil, tC]
      rw [show (a : Int) - 1 - (0 + (i : Int)) = ((a - 1 - i : Nat) : Int) by omega]
      refine ixS zl (atI_nat (List.getElem?_eq_getElem hj)) (.inr (.inl (catX (by rw [sizeLine_eq]; show _ + 1 ≤ _; omega) ?_)))
      refine ⟨some (.int (0 + (i : Int))), ?_, rfl⟩
      rw [hnx, if_pos z', List.getD_eq_getElem?_getD, List.getElem?_eq_getElem hj]; rfl
    · have z' : ¬ i < a := by have : ¬ (0 + (i : Int)) < ((a : Nat) : Int) := z; omega
      refine ⟨_, rfl, _, rfl, ixT hf rfl (ixS zL (atI_nat (j := 0) rfl) (.inr (.inl (catX (by rw [sizeLine_eq]; show _ + 1 ≤ _; omega) ?_))))⟩
      refine ⟨some (.int (0 + (i : Int))), ?_, rfl⟩
      rw [hnx, if_neg z']; rfl
  · rintro _ _ ⟨r4, rfl, rfl⟩
    refine ⟨_, rfl, ?_⟩
    rw [show ((d : Int)).toNat = d by omega, List.take_of_length_le (by rw [eldL_len]; exact Nat.le_refl _)]
    exact q
theorem unseen_len {f d : Nat} {l k : List Nat} {n : Nat} (h : seen f d l k n = false) : sg f d l k n = [] := by
  unfold sg
  rw [List.map_eq_nil_iff, List.filter_eq_nil_iff]
  intro j hj
  have := List.any_eq_false.mp h j hj
  exact this
theorem put_keys {kvs : List (Key × V)} {k : Key} {v : V} {e : Key × V} (h : e ∈ putK kvs k v) : e.1 = k ∨ ∃ e' ∈ kvs, e'.1 = e.1 := by
  unfold putK at h
  split at h
  · obtain ⟨e', he', rfl⟩ := List.mem_map.mp h
    by_cases z : e'.1 = k
    · rw [if_pos z]; exact .inl z
    · rw [if_neg z]; exact .inr ⟨e', he', rfl⟩
  · rcases List.mem_append.mp h with h | h
    · exact .inr ⟨e, h, rfl⟩
    · cases List.mem_singleton.mp h; exact .inl rfl
def VK1 (f d : Nat) (l : List Nat) (kvs : List (Key × V)) (k : List Nat) (n : Nat) : Prop := (seen f d l k n = true → valV kvs (key k) = some (vt (sg f d l k n))) ∧ (seen f d l k n = false → valV kvs (key k) = none)
theorem VK1.no {f d : Nat} {l : List Nat} {kvs : List (Key × V)} {k : List Nat} {n : Nat} (h : VK1 f d l kvs k n) (z : falls f d l k n = false) : VK1 f d l kvs k (n + 1) := by
  unfold VK1
  rw [seen_no z, sg_no z]; exact h
theorem VK1.get {f d : Nat} {l : List Nat} {kvs : List (Key × V)} {k : List Nat} {n : Nat} (h : VK1 f d l kvs k n) : (valV kvs (key k)).getD (V.str (Str.ofString "")) = vt (sg f d l k n) := by
  cases z : seen f d l k n with
  | true => rw [h.1 z]; rfl
  | false => rw [h.2 z, unseen_len z]; exact str_nil0
def spCame (K : PySem.W.Frag) : Sp := fun vs H Q _ => ∃ (p : Addr) (f : Nat) (L l : List Nat) (d : Nat), vs = [.ref p, vt l] ∧ SqT K H p [vt (f :: L), .int d] ∧ (f :: L).length ≤ 6 ∧ d ≤ 6 ∧ l.length ≤ 110 ∧
  ∀ tb H' kvs, Same H H' → H tb = none → H' tb = some (.dK kvs) → (∀ e ∈ kvs, ∃ k, e.1 = key k) → kvs.length ≤ 1000 → (∀ k, VK1 f d l kvs k l.length) → Q (.ref tb) H'
theorem ok_L_came (T : Txt K mg t) : FnOk P w K mg base (CX1 P w) 2 t.a_L_came t.fd_L_came ["frame", "text"] (spCame K) := by
  refine T.F_L_came.okn (k := 1) sc_L_came (fun vs H Q E h => ?_) (fun cdv A outer s H vs Q E hr h => ?_)
  · obtain ⟨p, f, L, l, d, rfl, _⟩ := h; rfl
  obtain ⟨p, f, L, l, d, rfl, hp, hL6, hd, hll, q⟩ := h
  have G_L_elders := ok_L_elders (P := P) (w := w) (base := base) T
  have zl : l.length ≤ sizeLine := by rw [sizeLine_eq]; omega
  refine ⟨_, (pss_cons (ps_set (i := 2) sc_L_came.nd rfl (Or.inl rfl) pe_dnewK)
    (pss_cons (ps_for PassesOwn.never rfl (pi_range1 rfl T.m_range (pa_cons (pe_callB call_len rfl T.m_len bt_len (pa_cons (pv 1) pa_nil)) pa_nil)) (pg_name (i := 3) sc_L_came.nd rfl (Or.inl rfl)) (pss_cons (ps_set (i := 4) sc_L_came.nd rfl (Or.inl rfl) (pe_call G_L_elders hr rfl T.m_L_elders T.F_L_elders.kp T.b_L_elders .nil pass1 (PAs.h (pas_cons (pv 0) (pas_cons (pv 1) (pas_cons (pv 3) pas_nil))))))
    (pss_one (ps_for PassesOwn.never rfl (pi_range1 rfl T.m_range (pa_cons (pe_op oAddN (pe_ix ixAny (pv 0) pe_int (fun _ _ => rfl)) pe_int) pa_nil)) (pg_name (i := 5) sc_L_came.nd rfl (Or.inl rfl)) (pss_one (ps_dput (hu_of hr) (pv 2) (pe_slice slAny (pv 4) po_none (po_some (pv 5))) (pe_op oAddN (pe_dget2 (hu_of hr) (pv 2) (pe_slice slAny (pv 4) po_none (po_some (pv 5))) pe_str ⟨rfl, rfl, rfl, rfl⟩) (pe_ix ixAny (pv 1) (pv 3) (fun _ _ => rfl))) rfl))))))
    (pss_one (ps_ret (pv 2))))), ?_⟩
  refine fun tb htb => ?_
  refine ⟨_, rfl, _, _, rfl, lenvS zl, _, rfl, by omega, by omega, ?_⟩
  refine for_range (fun i σ H' => ∃ kvs r3 r4 r5, σ = [some (.ref p), some (vt l), some (.ref tb), r3, r4, r5] ∧ Same H H' ∧ H' tb = some (.dK kvs) ∧ (∀ e ∈ kvs, ∃ k, e.1 = key k) ∧ kvs.length ≤ i * (d + 1) ∧ ∀ k, VK1 f d l kvs k i) ⟨[], _, _, _, rfl, same_new htb _, upd_same, fun e h => (nomatch h), Nat.zero_le _, fun k => ⟨fun z => (nomatch z), fun _ => rfl⟩⟩ ?_ ?_
  · rintro i _ H1 hi ⟨kvs, r3, r4, r5, rfl, g, e1, hks, hkl, hV⟩
    have hil : i < l.length := by omega
    rw [Int.zero_add]
    refine ⟨_, rfl, _, rfl, _, rfl, p, f, L, l, d, i, rfl, same_tup g hp, hL6, hd, by omega, by omega, ?_⟩
    have hlen := eldL_len f d l i
    generalize hrow : eldL f d l i = row at hlen ⊢
    have zr : row.length ≤ sizeLine := by rw [sizeLine_eq]; omega
    refine ⟨_, rfl, ixT (same_tup g hp) rfl (.inl ⟨_, _, rfl, rfl, _, rfl, by omega, by omega, ?_⟩)⟩
    refine for_range (fun j σ H' => ∃ kvs r5, σ = [some (.ref p), some (vt l), some (.ref tb), some (.int i), some (vt row), r5] ∧ Same H H' ∧ H' tb = some (.dK kvs) ∧ (∀ e ∈ kvs, ∃ k, e.1 = key k) ∧ kvs.length ≤ i * (d + 1) + j ∧ ∀ k, VK1 f d l kvs k (if k.length < j then i + 1 else i)) ⟨kvs, _, rfl, g, e1, hks, by omega, fun k => by rw [if_neg (by omega)]; exact hV k⟩ ?_ ?_
    · rintro j _ H2 hj ⟨kvs, r5, rfl, g, e1, hks, hkl, hV⟩
      have hjd : j ≤ d := by omega
      have hbig : i * (d + 1) ≤ 110 * 7 := Nat.mul_le_mul (by omega) (by omega)
      rw [Int.zero_add]
      have hk0l : (row.take j).length = j := by rw [List.length_take]; omega
      have hV0 := hV (row.take j)
      rw [if_neg (by omega)] at hV0
      have hf0 : falls f d l (row.take j) i = true := falls_iff.mpr (by rw [hrow]; exact List.take_prefix ..)
      have hc := List.getElem?_eq_getElem hil
      have hsl := sg_le f d l (row.take j) i
      refine ⟨_, rfl, tb, rfl, .inl ⟨kvs, .inl e1⟩, _, rfl, _, rfl, _, rfl, .inr (cutT zr ?_)⟩
      rw [cut_to]
      refine ⟨valV kvs (key (row.take j)), DGet.k (k := key (row.take j)) e1, ?_⟩
      rw [hV0.get]
      refine ⟨_, rfl, _, rfl, ixS zl (atI_nat hc) (.inr (.inl (catX (by rw [sizeLine_eq]; show _ + 1 ≤ _; omega) ?_)))⟩
      refine ⟨_, rfl, _, rfl, _, rfl, _, rfl, .inr (cutT zr ?_)⟩
      rw [cut_to]
      refine ⟨tb, _, rfl, .inl ⟨kvs, key (row.take j), e1, rfl, by rw [sizeLine_eq]; omega, rfl⟩, ?_⟩
      have hsy : sg f d l (row.take j) i ++ [l[i]] = sg f d l (row.take j) (i + 1) := by
        rw [sg_yes hf0, List.getD_eq_getElem?_getD, hc]; rfl
      rw [hsy]
      refine ⟨putK kvs (key (row.take j)) _, _, rfl, over_same htb g, upd_same, fun e he => ?_, ?_, fun k => ?_⟩
      · rcases put_keys he with h | ⟨e', he', h⟩
        · exact ⟨_, h⟩
        · rw [← h]; exact hks e' he'
      · have := length_putK kvs (key (row.take j)) (vt (sg f d l (row.take j) (i + 1))); omega
      · by_cases ek : k = row.take j
        · subst ek
          rw [if_pos (by omega)]
          exact ⟨fun _ => by rw [valV_put, if_pos rfl], fun z => by rw [seen_yes hf0] at z; cases z⟩
        · have hv : valV (putK kvs (key (row.take j)) (vt (sg f d l (row.take j) (i + 1)))) (key k) = valV kvs (key k) := by rw [valV_put, if_neg (fun z => ek (key_inj z))]
          have hk := hV k
          have up : VK1 f d l kvs k (if k.length < j + 1 then i + 1 else i) := by
            by_cases z1 : k.length < j
            · rw [if_pos z1] at hk; rw [if_pos (by omega)]; exact hk
            · rw [if_neg z1] at hk
              by_cases z2 : k.length < j + 1
              · rw [if_pos z2]
                refine hk.no (falls_no fun hp => ek ?_)
                rw [hrow] at hp
                have := List.prefix_iff_eq_take.mp hp
                rw [this]; congr 1; omega
              · rw [if_neg z2]; exact hk
          exact ⟨fun z => by rw [hv]; exact up.1 z, fun z => by rw [hv]; exact up.2 z⟩
    · rintro _ H2 ⟨kvs, r5, rfl, g, e1, hks, hkl, hV⟩
      have e : ((d : Int) + 1).toNat = d + 1 := by omega
      rw [e] at hkl hV
      refine ⟨kvs, _, _, _, rfl, g, e1, hks, by rw [Nat.add_mul, Nat.one_mul]; exact hkl, fun k => ?_⟩
      have hk := hV k
      by_cases z : k.length < d + 1
      · rw [if_pos z] at hk; exact hk
      · rw [if_neg z] at hk
        exact hk.no (falls_no fun hp => z (by have := hp.length_le; rw [hrow, hlen] at this; omega))
  · rintro _ H1 ⟨kvs, r3, r4, r5, rfl, g, e1, hks, hkl, hV⟩
    rw [show ((l.length : Int)).toNat = l.length by omega] at hkl hV
    have hbig : l.length * (d + 1) ≤ 110 * 7 := Nat.mul_le_mul hll (by omega)
    exact ⟨_, rfl, q tb H1 kvs g htb e1 hks (by omega) hV⟩
def twN (S : List Nat) : Nat → Int
  | 0 => 1
  | i + 1 => twN S i * (2 * ((S.take i).count (S.getD i 0) : Int) + 1)
theorem twN_app (S : List Nat) (c : Nat) : ∀ i, i ≤ S.length → twN (S ++ [c]) i = twN S i
  | 0, _ => rfl
  | i + 1, h => by
    show twN (S ++ [c]) i * _ = twN S i * _
    rw [twN_app S c i (by omega), List.take_append_of_le_length (by omega), List.getD_eq_getElem?_getD, List.getD_eq_getElem?_getD, List.getElem?_append_left (by omega)]
theorem twN_snoc (S : List Nat) (c : Nat) : twN (S ++ [c]) (S ++ [c]).length = twN S S.length * (2 * (S.count c : Int) + 1) := by
  rw [List.length_append]
  show twN (S ++ [c]) S.length * _ = _
  rw [twN_app S c S.length (Nat.le_refl _), List.take_append_of_le_length (Nat.le_refl _), List.take_length, List.getD_eq_getElem?_getD]
  simp
theorem twN_sg {L : List Nat} (hL : L.Nodup) {f d : Nat} {l k : List Nat} (hl : ∀ c ∈ l, c ∈ L) : ∀ n, n ≤ l.length → twN (sg f d l k n) (sg f d l k n).length = topW (cntL L f d l k n) := by
  intro n
  induction n with
  | zero =>
    intro _
    have e : cntL L f d l k 0 = List.replicate L.length 0 := cntL_zero rfl
    have ez : ∀ m, topW (List.replicate m 0) = 1 := fun m => by
      induction m with
      | zero => rfl
      | succ m ih => show topW (List.replicate m 0) * oddP 0 = 1; rw [ih]; rfl
    rw [e, ez]; rfl
  | succ n ih =>
    intro hn
    have ih' := ih (by omega)
    cases z : falls f d l k n with
    | false => rw [cntL_no z, sg_no z]; exact ih'
    | true =>
      have hln : l[n]? = some (l.getD n 0) := by rw [List.getD_eq_getElem?_getD, List.getElem?_eq_getElem (show n < l.length by omega)]; rfl
      obtain ⟨j, hj⟩ := List.getElem?_of_mem (hl _ (List.mem_of_getElem? hln))
      obtain ⟨v, hv, e⟩ := cntL_yes (d := d) (kn := k) (f := f) hL z hj hln
      have hc := sg_count (f := f) (d := d) (l := l) (kn := k) hj n (by omega)
      rw [hv] at hc
      have ev := Option.some.inj hc
      rw [e, topW_set hv, sg_yes z, twN_snoc, ih', ev]
def spLWorth (K : PySem.W.Frag) : Sp := fun vs H Q _ => ∃ (S : List Nat) (M : Nat), vs = [vt S, .int M] ∧ S.length ≤ 110 ∧ M ≤ 20 ∧ ∀ r, H r = none → Q (.ref r) (upd H r (.tup [.int (twN S S.length), .int (botW M S.length)]))
theorem ok_L_worth (T : Txt K mg t) : FnOk P w K mg base (CX1 P w) 1 t.a_L_worth t.fd_L_worth ["came", "many"] (spLWorth K) := by
  refine T.F_L_worth.okn (k := 0) sc_L_worth (fun vs H Q E h => ?_) (fun cdv A outer s H vs Q E hr h => ?_)
  · obtain ⟨S, M, rfl, _⟩ := h; rfl
  obtain ⟨S, M, rfl, hS, hM, q⟩ := h
  have zS : S.length ≤ sizeLine := by rw [sizeLine_eq]; omega
  refine ⟨_, (pss_cons (ps_set (i := 2) sc_L_worth.nd rfl (Or.inl rfl) pe_int)
    (pss_cons (ps_set (i := 3) sc_L_worth.nd rfl (Or.inl rfl) pe_int)
    (pss_cons (ps_for PassesOwn.never rfl (pi_range1 rfl T.m_range (pa_cons (pe_callB call_len rfl T.m_len bt_len (pa_cons (pv 0) pa_nil)) pa_nil)) (pg_name (i := 4) sc_L_worth.nd rfl (Or.inl rfl)) (pss_cons (ps_set (i := 2) sc_L_worth.nd rfl (Or.inl rfl) (pe_op oMulN (pv 2) (pe_op oAddN (pe_op oMulN pe_int (pe_bm PySem.F.plainAttrs_str PySem.F.slot_str_count PySem.F.type_str_count mt_count (pe_slice slAny (pv 0) po_none (po_some (pv 4))) (pa_cons (pe_ix ixAny (pv 0) (pv 4) (fun _ _ => rfl)) pa_nil))) pe_int)))
    (pss_one (ps_set (i := 3) sc_L_worth.nd rfl (Or.inl rfl) (pe_op oMulN (pv 3) (pe_op oAddN (pe_op oMulN pe_int (pv 4)) (pv 1)))))))
    (pss_one (ps_ret (pe_tup (PAs.h (pas_cons (pv 2) (pas_cons (pv 3) pas_nil))))))))), ?_⟩
  refine ⟨_, rfl, _, _, rfl, lenvS zS, _, rfl, by omega, by omega, ?_⟩
  refine for_range (fun i σ H' => ∃ r4, σ = [some (vt S), some (.int M), some (.int (twN S i)), some (.int (botW M i)), r4] ∧ H' = H) ⟨_, rfl, rfl⟩ ?_ ?_
  · rintro i _ _ hi ⟨r4, rfl, rfl⟩
    have hil : i < S.length := by omega
    have hc := List.getElem?_eq_getElem hil
    have hcD : S.getD i 0 = S[i] := by rw [List.getD_eq_getElem?_getD, hc]; rfl
    have hcn : (S.take i).count S[i] ≤ 110 := Nat.le_trans List.count_le_length (by rw [List.length_take]; omega)
    rw [Int.zero_add]
    refine ⟨_, rfl, _, rfl, _, rfl, _, rfl, .inr (cutT zS ?_)⟩
    rw [cut_to]
    refine ⟨rfl, _, rfl, _, rfl, ixS zS (atI_nat hc) ⟨S.take i, S[i], rfl, rfl, ?_⟩⟩
    refine .inl ⟨_, _, rfl, rfl, mulL (by decide) (by decide), .inl ⟨_, _, rfl, rfl, .inl ⟨_, _, rfl, rfl, mulR (by omega) (by omega), ?_⟩⟩⟩
    refine ⟨_, rfl, _, rfl, .inl ⟨_, _, rfl, rfl, mulL (by decide) (by decide), _, rfl, .inl ⟨_, _, rfl, rfl, .inl ⟨_, _, rfl, rfl, mulR (by omega) (by omega), ?_⟩⟩⟩⟩
    refine ⟨some (.int i), ?_, rfl⟩
    show _ = [some (vt S), some (.int M), some (.int (twN S i * (2 * ((S.take i).count (S.getD i 0) : Int) + 1))), some (.int (botW M i * (2 * (i : Int) + M))), some (.int i)]
    rw [hcD]; rfl
  · rintro _ _ ⟨r4, rfl, rfl⟩
    rw [show ((S.length : Int)).toNat = S.length by omega]
    refine ⟨_, rfl, _, rfl, by rw [sizeLine_eq]; show 2 ≤ _; decide, fun r hr0 => q r hr0⟩
def comb (m t : List (Nat × List (List Nat))) : List (Nat × List (List Nat)) := (t.map fun x => m.map fun o => (o.1 + x.1, o.2 ++ x.2)).flatten
def fms (L : List Nat) : Nat → List Nat → List (Nat × List (List Nat))
  | 0, k => [(0, [k])]
  | r + 1, k => (1, [k]) :: L.foldl (fun m c => comb m (fms L r (k ++ [c]))) [(1, [])]
def pq (l : List Rat) : Rat := l.foldr (· * ·) 1
def sq (l : List Rat) : Rat := l.foldr (· + ·) 0
theorem pq_app (a b : List Rat) : pq (a ++ b) = pq a * pq b := by
  induction a with
  | nil => show pq b = 1 * pq b; grind
  | cons x a ih => show x * pq (a ++ b) = x * pq a * pq b; rw [ih]; grind
theorem sq_app (a b : List Rat) : sq (a ++ b) = sq a + sq b := by
  induction a with
  | nil => show sq b = 0 + sq b; grind
  | cons x a ih => show x + sq (a ++ b) = x + sq a + sq b; rw [ih]; grind
def vq (g : List Nat → Rat) (e : Nat × List (List Nat)) : Rat := pq (e.2.map g) / (2 : Rat) ^ e.1
def sF (g : List Nat → Rat) (F : List (Nat × List (List Nat))) : Rat := sq (F.map (vq g))
theorem two_ne (n : Nat) : (2 : Rat) ^ n ≠ 0 := by
  induction n with
  | zero => rw [Rat.pow_zero]; decide
  | succ n ih => rw [Rat.pow_succ]; grind
theorem two_add (a b : Nat) : (2 : Rat) ^ (a + b) = 2 ^ a * 2 ^ b := by
  induction b with
  | zero => rw [Nat.add_zero, Rat.pow_zero]; grind
  | succ b ih => rw [Nat.add_succ, Rat.pow_succ, Rat.pow_succ, ih]; grind
theorem vq_mul (g : List Nat → Rat) (o x : Nat × List (List Nat)) : vq g (o.1 + x.1, o.2 ++ x.2) = vq g o * vq g x := by
  show pq ((o.2 ++ x.2).map g) / (2 : Rat) ^ (o.1 + x.1) = pq (o.2.map g) / 2 ^ o.1 * (pq (x.2.map g) / 2 ^ x.1)
  rw [List.map_append, pq_app, two_add]
  have := two_ne o.1
  have := two_ne x.1
  grind
theorem sF_one (g : List Nat → Rat) (x : Nat × List (List Nat)) : ∀ m : List (Nat × List (List Nat)), sF g (m.map fun o => (o.1 + x.1, o.2 ++ x.2)) = sF g m * vq g x
  | [] => by show (0 : Rat) = 0 * vq g x; grind
  | o :: m => by
    show vq g (o.1 + x.1, o.2 ++ x.2) + sF g (m.map _) = (vq g o + sF g m) * vq g x
    rw [sF_one g x m, vq_mul]; grind
theorem sF_app (g : List Nat → Rat) (a b : List (Nat × List (List Nat))) : sF g (a ++ b) = sF g a + sF g b := by
  unfold sF; rw [List.map_append, sq_app]
theorem sF_comb (g : List Nat → Rat) (m : List (Nat × List (List Nat))) : ∀ t : List (Nat × List (List Nat)), sF g (comb m t) = sF g m * sF g t
  | [] => by show (0 : Rat) = sF g m * 0; grind
  | x :: t => by
    show sF g (m.map _ ++ comb m t) = sF g m * (vq g x + sF g t)
    rw [sF_app, sF_one, sF_comb g m t]; grind
theorem sF_fold (g : List Nat → Rat) (F : Nat → List (Nat × List (List Nat))) : ∀ (Ls : List Nat) (m : List (Nat × List (List Nat))), sF g (Ls.foldl (fun m c => comb m (F c)) m) = sF g m * pq (Ls.map fun c => sF g (F c))
  | [], m => by show sF g m = sF g m * 1; grind
  | c :: Ls, m => by
    show sF g (Ls.foldl _ (comb m (F c))) = sF g m * (sF g (F c) * pq (Ls.map fun c => sF g (F c)))
    rw [sF_fold g F Ls, sF_comb]; grind
def mq (g : List Nat → Rat) (L : List Nat) : Nat → List Nat → Rat
  | 0, k => g k
  | r + 1, k => (g k + pq (L.map fun c => mq g L r (k ++ [c]))) / 2
theorem sF_fms (g : List Nat → Rat) (L : List Nat) : ∀ (r : Nat) (k : List Nat), sF g (fms L r k) = mq g L r k
  | 0, k => by
    show g k * 1 / (2 : Rat) ^ 0 + 0 = g k
    rw [Rat.pow_zero]; grind
  | r + 1, k => by
    have e0 : sF g [(1, ([] : List (List Nat)))] = 1 / 2 := by
      show (1 : Rat) / 2 ^ 1 + 0 = 1 / 2
      rw [Rat.pow_succ, Rat.pow_zero]; grind
    have e1 : vq g (1, [k]) = g k / 2 := by
      show g k * 1 / (2 : Rat) ^ 1 = g k / 2
      rw [Rat.pow_succ, Rat.pow_zero]; grind
    show vq g (1, [k]) + sF g (L.foldl (fun m c => comb m (fms L r (k ++ [c]))) [(1, [])]) = (g k + pq (L.map fun c => mq g L r (k ++ [c]))) / 2
    rw [sF_fold g (fun c => fms L r (k ++ [c])), e0, e1, List.map_congr_left (g := fun c => mq g L r (k ++ [c])) fun c _ => sF_fms g L r (k ++ [c])]
    grind
theorem mq_ones {g : List Nat → Rat} {L : List Nat} : ∀ (r : Nat) (k : List Nat), (∀ x, k <+: x → g x = 1) → mq g L r k = 1
  | 0, k, h => h k List.prefix_rfl
  | r + 1, k, h => by
    have e : ∀ Ls : List Nat, pq (Ls.map fun c => mq g L r (k ++ [c])) = 1 := fun Ls => by
      induction Ls with
      | nil => rfl
      | cons c Ls ih =>
        show mq g L r (k ++ [c]) * pq (Ls.map fun c => mq g L r (k ++ [c])) = 1
        rw [ih, mq_ones r (k ++ [c]) fun x hx => h x ((List.prefix_append k [c]).trans hx)]; grind
    show (g k + pq (L.map fun c => mq g L r (k ++ [c]))) / 2 = 1
    rw [e, h k List.prefix_rfl]; grind
def wq (x : Int × Int) : Rat := (x.1 : Rat) / (x.2 : Rat)
theorem ne0 {a : Int} (h : 1 ≤ a) : (a : Rat) ≠ 0 := fun z => by
  have : a = 0 := Rat.intCast_inj.mp z
  omega
theorem wq_mix {a b : Int × Int} (ha : 1 ≤ a.2) (hb : 1 ≤ b.2) : wq (mixW a b) = (wq a + wq b) / 2 := by
  show ((a.1 * b.2 + b.1 * a.2 : Int) : Rat) / ((2 * (a.2 * b.2) : Int) : Rat) = ((a.1 : Rat) / (a.2 : Rat) + (b.1 : Rat) / (b.2 : Rat)) / 2
  rw [Rat.intCast_add, Rat.intCast_mul, Rat.intCast_mul, Rat.intCast_mul, Rat.intCast_mul]
  have := ne0 ha
  have := ne0 hb
  have : ((2 : Int) : Rat) = 2 := rfl
  grind
theorem wq_prod : ∀ {xs : List (Int × Int)}, (∀ x ∈ xs, 1 ≤ x.2) → wq (prodW xs) = pq (xs.map wq)
  | [], _ => by show (1 : Rat) / 1 = 1; grind
  | x :: xs, h => by
    have ih := wq_prod (xs := xs) fun y hy => h y (List.mem_cons_of_mem _ hy)
    have h1 := ne0 (h x List.mem_cons_self)
    have h2 : 1 ≤ prodI (xs.map (·.2)) := prodI_pos fun y hy => by obtain ⟨z, hz, rfl⟩ := List.mem_map.mp hy; exact h z (List.mem_cons_of_mem _ hz)
    have h2 := ne0 h2
    show ((x.1 * prodI (xs.map (·.1)) : Int) : Rat) / ((x.2 * prodI (xs.map (·.2)) : Int) : Rat) = wq x * pq (xs.map wq)
    rw [← ih, Rat.intCast_mul, Rat.intCast_mul]
    show _ = (x.1 : Rat) / (x.2 : Rat) * ((prodI (xs.map (·.1)) : Rat) / (prodI (xs.map (·.2)) : Rat))
    grind
theorem seen_ext {f d : Nat} {l : List Nat} {n : Nat} {k x : List Nat} (h : seen f d l k n = false) (hp : k <+: x) : seen f d l x n = false := by
  unfold seen at h ⊢
  rw [List.any_eq_false] at h ⊢
  intro i hi z
  exact h i hi (falls_iff.mpr (hp.trans (falls_iff.mp z)))
theorem wv_mq {L : List Nat} {f d : Nat} {l : List Nat} (S : Sm L f d l) : ∀ (r : Nat) (k : List Nat), k.length + r = d → wq (wv L f d l l.length r k) = mq (fun x => wq (wo L f d l l.length x)) L r k
  | 0, k, _ => rfl
  | r + 1, k, hk => by
    cases z : seen f d l k l.length with
    | true =>
      have hc : ∀ c, (k ++ [c]).length + r = d := fun c => by rw [List.length_append]; show k.length + 1 + r = d; omega
      have h1 : ∀ x ∈ L.map fun c => wv L f d l l.length r (k ++ [c]), 1 ≤ x.2 := fun x hx => by
        obtain ⟨c, _, rfl⟩ := List.mem_map.mp hx
        exact (wv_ok S (Nat.le_refl _) r (k ++ [c]) (hc c)).b1
      rw [wv_seen z, wq_mix (wo_ok S (Nat.le_refl _) k).2.1 (prodI_pos fun y hy => by obtain ⟨x, hx, rfl⟩ := List.mem_map.mp hy; exact h1 x hx), wq_prod h1, List.map_map]
      show _ = (wq (wo L f d l l.length k) + pq (L.map fun c => mq (fun x => wq (wo L f d l l.length x)) L r (k ++ [c]))) / 2
      have em : L.map (wq ∘ fun c => wv L f d l l.length r (k ++ [c])) = L.map fun c => mq (fun x => wq (wo L f d l l.length x)) L r (k ++ [c]) := List.map_congr_left fun c _ => wv_mq S r (k ++ [c]) (hc c)
      rw [em]
    | false =>
      rw [wv_unseen z, mq_ones (r + 1) k fun x hx => by show wq (wo L f d l l.length x) = 1; rw [wo_unseen (seen_ext z hx)]; show (1 : Rat) / 1 = 1; grind]
      show (1 : Rat) / 1 = 1; grind
def pM (m : Nat) : Nat → Nat
  | 0 => 0
  | r + 1 => 1 + m * pM m r
def tN (m : Nat) : Nat → Nat
  | 0 => 1
  | r + 1 => 1 + tN m r ^ m
theorem comb_len (m t : List (Nat × List (List Nat))) : (comb m t).length = m.length * t.length := by
  unfold comb
  induction t with
  | nil => rfl
  | cons x t ih => rw [List.map_cons, List.flatten_cons, List.length_append, ih, List.length_map, List.length_cons, Nat.mul_succ, Nat.add_comm]
theorem fold_len {F : Nat → List (Nat × List (List Nat))} {T : Nat} (hF : ∀ c, (F c).length = T) : ∀ (Ls : List Nat) (m : List (Nat × List (List Nat))), (Ls.foldl (fun m c => comb m (F c)) m).length = m.length * T ^ Ls.length
  | [], m => by show m.length = m.length * 1; omega
  | c :: Ls, m => by
    show (Ls.foldl _ (comb m (F c))).length = _
    rw [fold_len hF Ls, comb_len, hF, List.length_cons, Nat.pow_succ, Nat.mul_assoc, Nat.mul_comm T]
theorem fms_len (L : List Nat) : ∀ (r : Nat) (k : List Nat), (fms L r k).length = tN L.length r
  | 0, _ => rfl
  | r + 1, k => by
    show (L.foldl (fun m c => comb m (fms L r (k ++ [c]))) [(1, [])]).length + 1 = 1 + tN L.length r ^ L.length
    rw [fold_len fun c => fms_len L r (k ++ [c])]
    show 1 * _ + 1 = _
    omega
theorem comb_mem {m t : List (Nat × List (List Nat))} {e : Nat × List (List Nat)} (h : e ∈ comb m t) : ∃ o ∈ m, ∃ x ∈ t, e = (o.1 + x.1, o.2 ++ x.2) := by
  obtain ⟨l, hl, he⟩ := List.mem_flatten.mp h
  obtain ⟨x, hx, rfl⟩ := List.mem_map.mp hl
  obtain ⟨o, ho, rfl⟩ := List.mem_map.mp he
  exact ⟨o, ho, x, hx, rfl⟩
theorem fold_ind {F : Nat → List (Nat × List (List Nat))} {R : List Nat → Nat × List (List Nat) → Prop} (hs : ∀ pre c o t, R pre o → t ∈ F c → R (pre ++ [c]) (o.1 + t.1, o.2 ++ t.2)) : ∀ (Ls pre : List Nat) (m : List (Nat × List (List Nat))), (∀ o ∈ m, R pre o) → ∀ e ∈ Ls.foldl (fun m c => comb m (F c)) m, R (pre ++ Ls) e
  | [], pre, m, h, e, he => by rw [List.append_nil]; exact h e he
  | c :: Ls, pre, m, h, e, he => by
    have := fold_ind hs Ls (pre ++ [c]) (comb m (F c)) (fun x hx => by
      obtain ⟨o, ho, t, ht, rfl⟩ := comb_mem hx
      exact hs pre c o t (h o ho) ht) e he
    rw [List.append_assoc] at this
    exact this
section
variable {L : List Nat} {f d : Nat} {l : List Nat}
def nk (f d : Nat) (l k : List Nat) : Nat := (sg f d l k l.length).length
def tI (L : List Nat) (f d : Nat) (l : List Nat) (e : Nat × List (List Nat)) : Int := prodI (e.2.map fun x => (wo L f d l l.length x).1)
def bI (L : List Nat) (f d : Nat) (l : List Nat) (e : Nat × List (List Nat)) : Int := 2 ^ e.1 * prodI (e.2.map fun x => (wo L f d l l.length x).2)
structure FmOk (L : List Nat) (f d : Nat) (l : List Nat) (r : Nat) (k : List Nat) (e : Nat × List (List Nat)) : Prop where
  pr : e.1 ≤ pM L.length r
  le : e.2.length ≤ L.length ^ r
  ct : (e.2.map (nk f d l)).sum ≤ nk f d l k
theorem fms_ok (S : Sm L f d l) : ∀ (r : Nat) (k : List Nat), k.length + r = d → ∀ e ∈ fms L r k, FmOk L f d l r k e
  | 0, k, _, e, he => by
    cases List.mem_singleton.mp he
    exact ⟨Nat.le_refl _, Nat.le_refl _, by show nk f d l k + 0 ≤ _; omega⟩
  | r + 1, k, hk, e, he => by
    have h1M : 1 ≤ L.length := List.length_pos_of_mem S.fm
    have hpw : 1 ≤ L.length ^ (r + 1) := Nat.pow_pos h1M
    rcases List.mem_cons.mp he with rfl | he
    · exact ⟨Nat.le_add_right _ _, hpw, by show nk f d l k + 0 ≤ _; omega⟩
    · have hc : ∀ c, (k ++ [c]).length + r = d := fun c => by rw [List.length_append]; show k.length + 1 + r = d; omega
      have h := fold_ind (F := fun c => fms L r (k ++ [c])) (R := fun pre o => o.1 ≤ 1 + pre.length * pM L.length r ∧ o.2.length ≤ pre.length * L.length ^ r ∧ (o.2.map (nk f d l)).sum ≤ (pre.map fun c => nk f d l (k ++ [c])).sum)
        (fun pre c o t ⟨a1, a2, a3⟩ ht => by
          have ht := fms_ok S r (k ++ [c]) (hc c) t ht
          have t1 := ht.pr
          have t2 := ht.le
          have t3 := ht.ct
          have lp : (pre ++ [c]).length = pre.length + 1 := by rw [List.length_append]; rfl
          refine ⟨?_, ?_, ?_⟩
          · rw [lp, Nat.add_mul, Nat.one_mul]; show o.1 + t.1 ≤ _; omega
          · rw [lp, Nat.add_mul, Nat.one_mul]; show (o.2 ++ t.2).length ≤ _; rw [List.length_append]; omega
          · show ((o.2 ++ t.2).map _).sum ≤ _
            rw [List.map_append, List.map_append, List.sum_append, List.sum_append]
            exact Nat.add_le_add a3 t3) L [] [(1, [])] (fun o ho => by
          cases List.mem_singleton.mp ho
          exact ⟨Nat.le_add_right _ _, Nat.zero_le _, Nat.zero_le _⟩) e he
      rw [List.nil_append] at h
      obtain ⟨a1, a2, a3⟩ := h
      refine ⟨a1, ?_, ?_⟩
      · rw [Nat.pow_succ, Nat.mul_comm]; exact a2
      · have := sg_part S.nd S.fm S.al (k := k) (show k.length < d by omega) l.length (Nat.le_refl _)
        exact Nat.le_trans a3 (Nat.le_of_eq this)
theorem over_bd {g : List Nat → Int} {n : List Nat → Nat} {a : Nat} (h : ∀ x, 1 ≤ g x ∧ g x ≤ 2 ^ (a + 10 * n x)) : ∀ ks : List (List Nat), 1 ≤ prodI (ks.map g) ∧ prodI (ks.map g) ≤ 2 ^ (a * ks.length + 10 * (ks.map n).sum)
  | [] => ⟨Int.le_refl _, Int.le_refl _⟩
  | x :: ks => by
    obtain ⟨h1, h2⟩ := over_bd h ks
    obtain ⟨g1, g2⟩ := h x
    refine ⟨?_, ?_⟩
    · have := Int.mul_pos (show 0 < g x by omega) (show 0 < prodI (ks.map g) by omega)
      exact this
    · refine Int.le_trans (Int.mul_le_mul g2 h2 (by omega) (Int.le_of_lt (Int.pow_pos (by decide)))) ?_
      rw [← Int.pow_add]
      refine ipow_le (Nat.le_of_eq ?_)
      rw [List.map_cons, List.sum_cons, List.length_cons, Nat.mul_add, Nat.mul_add]
      omega
end
def FmAt (H0 H : Hp) (v : V) (e : Nat × List (List Nat)) : Prop := ∃ a q, v = .ref a ∧ H0 a = none ∧ H0 q = none ∧ H a = some (.tup [.int (e.1 : Int), .ref q]) ∧ H q = some (.lst (e.2.map vt))
theorem FmAt.same {H0 H H' : Hp} {v : V} {e : Nat × List (List Nat)} (h : FmAt H0 H v e) (g : Same H H') : FmAt H0 H' v e := by
  obtain ⟨a, q, ev, h1, h2, h3, h4⟩ := h
  exact ⟨a, q, ev, h1, h2, g _ _ h3, g _ _ h4⟩
theorem FmAt.low {H0 H1 H : Hp} {v : V} {e : Nat × List (List Nat)} (h : FmAt H1 H v e) (g : Same H0 H1) : FmAt H0 H v e := by
  obtain ⟨a, q, ev, h1, h2, h3, h4⟩ := h
  exact ⟨a, q, ev, g.free h1, g.free h2, h3, h4⟩
theorem FmAt.mn {H0 H : Hp} {v : V} {e : Nat × List (List Nat)} (h : FmAt H0 H v e) {D : Addr} {o : HO} (hD : H0 D = some o) : FmAt H0 (mn H D) v e := by
  obtain ⟨a, q, ev, h1, h2, h3, h4⟩ := h
  exact ⟨a, q, ev, h1, h2, mn_at h3 (fun z => by rw [z, hD] at h1; cases h1), mn_at h4 (fun z => by rw [z, hD] at h2; cases h2)⟩
def Fms (H0 H : Hp) (xs : List V) (F : List (Nat × List (List Nat))) : Prop := xs.length = F.length ∧ ∀ (i : Nat) v e, xs[i]? = some v → F[i]? = some e → FmAt H0 H v e
theorem Fms.same {H0 H H' : Hp} {xs : List V} {F : List (Nat × List (List Nat))} (h : Fms H0 H xs F) (g : Same H H') : Fms H0 H' xs F := ⟨h.1, fun i v e hv he => (h.2 i v e hv he).same g⟩
theorem Fms.low {H0 H1 H : Hp} {xs : List V} {F : List (Nat × List (List Nat))} (h : Fms H1 H xs F) (g : Same H0 H1) : Fms H0 H xs F := ⟨h.1, fun i v e hv he => (h.2 i v e hv he).low g⟩
theorem Fms.mn {H0 H : Hp} {xs : List V} {F : List (Nat × List (List Nat))} (h : Fms H0 H xs F) {D : Addr} {o : HO} (hD : H0 D = some o) : Fms H0 (mn H D) xs F := ⟨h.1, fun i v e hv he => (h.2 i v e hv he).mn hD⟩
theorem Fms.nil (H0 H : Hp) : Fms H0 H [] [] := ⟨rfl, fun i v e h => nomatch h⟩
theorem Fms.snoc {H0 H : Hp} {xs : List V} {F : List (Nat × List (List Nat))} (h : Fms H0 H xs F) {v : V} {e : Nat × List (List Nat)} (g : FmAt H0 H v e) : Fms H0 H (xs ++ [v]) (F ++ [e]) := by
  refine ⟨by rw [List.length_append, List.length_append, h.1]; rfl, fun i u x hu hx => ?_⟩
  by_cases z : i < xs.length
  · rw [List.getElem?_append_left z] at hu
    rw [List.getElem?_append_left (by rw [← h.1]; exact z)] at hx
    exact h.2 i u x hu hx
  · rw [List.getElem?_append_right (by omega)] at hu
    rw [List.getElem?_append_right (by rw [← h.1]; omega), ← h.1] at hx
    have hj : i - xs.length = 0 := by
      have := (List.getElem?_eq_some_iff.mp hu).1
      simp at this; omega
    rw [hj] at hu hx
    cases hu; cases hx; exact g
theorem Fms.app {H0 H : Hp} {xs ys : List V} {F G : List (Nat × List (List Nat))} (h : Fms H0 H xs F) (g : Fms H0 H ys G) : Fms H0 H (xs ++ ys) (F ++ G) := by
  refine ⟨by rw [List.length_append, List.length_append, h.1, g.1], fun i u x hu hx => ?_⟩
  by_cases z : i < xs.length
  · rw [List.getElem?_append_left z] at hu
    rw [List.getElem?_append_left (by rw [← h.1]; exact z)] at hx
    exact h.2 i u x hu hx
  · rw [List.getElem?_append_right (by omega)] at hu
    rw [List.getElem?_append_right (by rw [← h.1]; omega), ← h.1] at hx
    exact g.2 _ u x hu hx
theorem comb_take {m t : List (Nat × List (List Nat))} {j : Nat} {x : Nat × List (List Nat)} (h : t[j]? = some x) : comb m (t.take (j + 1)) = comb m (t.take j) ++ m.map fun o => (o.1 + x.1, o.2 ++ x.2) := by
  rw [List.take_add_one, h]
  unfold comb
  rw [List.map_append, List.flatten_append]
  show _ ++ (_ ++ []) = _
  rw [List.append_nil]
theorem tN_pos (m r : Nat) : 1 ≤ tN m r := by
  cases r with
  | zero => exact Nat.le_refl _
  | succ r => exact Nat.le_add_right _ _
theorem tN_up {m r : Nat} (hm : 1 ≤ m) : tN m r ≤ tN m (r + 1) := by
  show tN m r ≤ 1 + tN m r ^ m
  have h1 := Nat.pow_le_pow_right (tN_pos m r) hm
  rw [Nat.pow_one] at h1
  omega
theorem fms_le (L : List Nat) (hm : 1 ≤ L.length) : ∀ (r : Nat) (k : List Nat), ∀ e ∈ fms L r k, e.2.length ≤ L.length ^ r
  | 0, k, e, he => by cases List.mem_singleton.mp he; exact Nat.le_refl _
  | r + 1, k, e, he => by
    rcases List.mem_cons.mp he with rfl | he
    · exact Nat.pow_pos hm
    · have h := fold_ind (F := fun c => fms L r (k ++ [c])) (R := fun pre o => o.2.length ≤ pre.length * L.length ^ r) (fun pre c o t a1 ht => by
          have ht := fms_le L hm r (k ++ [c]) t ht
          show (o.2 ++ t.2).length ≤ _
          rw [List.length_append, List.length_append, Nat.add_mul]; show _ ≤ _ + 1 * _; omega) L [] [(1, [])] (fun o ho => by cases List.mem_singleton.mp ho; exact Nat.zero_le _) e he
      rw [List.nil_append] at h
      rw [Nat.pow_succ, Nat.mul_comm]; exact h
theorem fold_le (L : List Nat) (hm : 1 ≤ L.length) (r : Nat) (k pre : List Nat) : ∀ e ∈ pre.foldl (fun m c => comb m (fms L r (k ++ [c]))) [(1, [])], e.2.length ≤ pre.length * L.length ^ r := by
  have h := fold_ind (F := fun c => fms L r (k ++ [c])) (R := fun pre o => o.2.length ≤ pre.length * L.length ^ r) (fun pre c o t a1 ht => by
          have ht := fms_le L hm r (k ++ [c]) t ht
          show (o.2 ++ t.2).length ≤ _
          rw [List.length_append, List.length_append, Nat.add_mul]; show _ ≤ _ + 1 * _; omega) pre [] [(1, [])] (fun o ho => by cases List.mem_singleton.mp ho; exact Nat.zero_le _)
  rw [List.nil_append] at h
  exact h
def spForms (K : PySem.W.Frag) (n : Nat) : Sp := fun vs H Q _ => ∃ (L k : List Nat), vs = [vt L, vt k, .int (n : Int)] ∧ 1 ≤ L.length ∧ L.length ≤ 6 ∧ tN L.length n ≤ 100 ∧ L.length ^ n ≤ 40 ∧ k.length + n ≤ 10 ∧ ∀ H' r xs, Same H H' → H r = none → H' r = some (.lst xs) → Fms H H' xs (fms L n k) → Q (.ref r) H'
theorem forms_step (T : Txt K mg t) (n : Nat) (sp : Sp) (hsp : ∀ k, n = k + 1 → sp = spForms K k) (G_L_forms : FnOk P w K mg base (CX1 P w) n t.a_L_forms t.fd_L_forms ["letters", "knot", "left"] sp) :
    FnOk P w K mg base (CX1 P w) (n + 1) t.a_L_forms t.fd_L_forms ["letters", "knot", "left"] (spForms K n) := by
  refine T.F_L_forms.okn (k := n) sc_L_forms (fun vs H Q E h => ?_) (fun cdv A outer s H vs Q E hr h => ?_)
  · obtain ⟨L, k, rfl, _⟩ := h; rfl
  obtain ⟨L, k, rfl, hm1, hm6, hT, hP, hk, q⟩ := h
  have zL : L.length ≤ sizeLine := by rw [sizeLine_eq]; omega
  refine ⟨_, (pss_cons (ps_if (pt_cmpR (oEqA (hr.units0)) (pv 2) pe_int (nomark _)) (pss_one (ps_ret (pe_lst (pa_cons (pe_tup (PAs.h (pas_cons pe_int (pas_cons (pe_lst (pa_cons (pv 1) pa_nil)) pas_nil)))) pa_nil)))) pss_nil)
    (pss_cons (ps_set (i := 3) sc_L_forms.nd rfl (Or.inl rfl) (pe_lst (pa_cons (pe_tup (PAs.h (pas_cons pe_int (pas_cons (pe_lst pa_nil) pas_nil)))) pa_nil)))
    (pss_cons (ps_for PassesOwn.never rfl (piAny (pv 0)) (pg_name (i := 4) sc_L_forms.nd rfl (Or.inl rfl)) (pss_cons (ps_set (i := 5) sc_L_forms.nd rfl (Or.inl rfl) (pe_lst pa_nil))
    (pss_cons (ps_for PassesOwn.never rfl (piAny (pe_call G_L_forms hr rfl T.m_L_forms T.F_L_forms.kp T.b_L_forms .nil pass1 (PAs.h (pas_cons (pv 0) (pas_cons (pe_op oAddN (pv 1) (pv 4)) (pas_cons (pe_op op_sub (pv 2) pe_int) pas_nil)))))) (pg_name (i := 6) sc_L_forms.nd rfl (Or.inl rfl)) (pss_one (ps_for PassesOwn.never rfl (piAny (pv 3)) (pg_name (i := 7) sc_L_forms.nd rfl (Or.inl rfl)) (pss_one (ps_expr (pe_bm PySem.F.plainAttrs_list PySem.F.slot_list_append PySem.F.type_list_append mt_app (pv 5) (pa_cons (pe_tup (PAs.h (pas_cons (pe_op oAddN (pe_ix ixAny (pv 7) pe_int (fun _ _ => rfl)) (pe_ix ixAny (pv 6) pe_int (fun _ _ => rfl))) (pas_cons (pe_op oAddN (pe_ix ixAny (pv 7) pe_int (fun _ _ => rfl)) (pe_ix ixAny (pv 6) pe_int (fun _ _ => rfl))) pas_nil)))) pa_nil)))))))
    (pss_one (ps_set (i := 3) sc_L_forms.nd rfl (Or.inl rfl) (pv 5))))))
    (pss_one (ps_ret (pe_op oAddN (pe_lst (pa_cons (pe_tup (PAs.h (pas_cons pe_int (pas_cons (pe_lst (pa_cons (pv 1) pa_nil)) pas_nil)))) pa_nil)) (pv 3))))))), ?_⟩
  refine ⟨_, rfl, .inl ⟨rfl, _, rfl, if2 (fun z => ?_) (fun z => ?_)⟩⟩
  · have : n = 0 := by have := V.int.inj z; omega
    subst this
    refine ⟨_, rfl, by rw [sizeLine_eq]; show 1 ≤ _; decide, fun qa hqa => ⟨by rw [sizeLine_eq]; show 2 ≤ _; decide, fun pa hpa => ⟨by rw [sizeLine_eq]; show 1 ≤ _; decide, fun ra hra => ?_⟩⟩⟩
    have s1 := same_new (o := .lst [vt k]) hqa
    have e1 : upd H qa (.lst [vt k]) qa = some (.lst [vt k]) := upd_same
    try dsimp (config := { proj := false, eta := false, zeta := false, iota := false }) only [tNil, tC]
    generalize upd H qa (.lst [vt k]) = H1 at s1 e1 hpa hra ⊢
    have s2 := same_new (o := .tup [.int 0, .ref qa]) hpa
    have e2 : upd H1 pa (.tup [.int 0, .ref qa]) pa = some (.tup [.int 0, .ref qa]) := upd_same
    generalize upd H1 pa (.tup [.int 0, .ref qa]) = H2 at s2 e2 hra ⊢
    have s3 := same_new (o := .lst [.ref pa]) hra
    have e3 : upd H2 ra (.lst [.ref pa]) ra = some (.lst [.ref pa]) := upd_same
    generalize upd H2 ra (.lst [.ref pa]) = H3 at s3 e3 ⊢
    refine q H3 ra [.ref pa] (s1.trans (s2.trans s3)) (s1.free (s2.free hra)) e3 ?_
    exact (Fms.nil H H3).snoc (e := (0, [k])) ⟨pa, qa, rfl, s1.free hpa, hqa, s3 _ _ e2, s3 _ _ (s2 _ _ e1)⟩
  obtain ⟨n', rfl⟩ : ∃ n', n = n' + 1 := ⟨n - 1, by cases n with | zero => exact absurd rfl z | succ n => rfl⟩
  have hs := hsp n' rfl
  subst hs
  have hT' : tN L.length n' ≤ 100 := Nat.le_trans (tN_up hm1) hT
  have hP' : L.length * L.length ^ n' ≤ 40 := by rw [Nat.mul_comm, ← Nat.pow_succ]; exact hP
  have hTm : tN L.length n' ^ L.length ≤ 99 := by have : 1 + tN L.length n' ^ L.length ≤ 100 := hT; omega
  refine ⟨by rw [sizeLine_eq]; show 0 ≤ _; decide, fun qa hqa => ⟨by rw [sizeLine_eq]; show 2 ≤ _; decide, fun pa hpa => ⟨by rw [sizeLine_eq]; show 1 ≤ _; decide, fun ra hra => ?_⟩⟩⟩
  have s1 := same_new (o := .lst []) hqa
  have e1 : upd H qa (.lst []) qa = some (.lst []) := upd_same
  try dsimp (config := { proj := false, eta := false, zeta := false, iota := false }) only [tNil, tC]
  generalize upd H qa (.lst []) = H1 at s1 e1 hpa hra ⊢
  have s2 := same_new (o := .tup [.int 1, .ref qa]) hpa
  have e2 : upd H1 pa (.tup [.int 1, .ref qa]) pa = some (.tup [.int 1, .ref qa]) := upd_same
  generalize upd H1 pa (.tup [.int 1, .ref qa]) = H2 at s2 e2 hra ⊢
  have s3 := same_new (o := .lst [.ref pa]) hra
  have e3 : upd H2 ra (.lst [.ref pa]) ra = some (.lst [.ref pa]) := upd_same
  generalize upd H2 ra (.lst [.ref pa]) = H3 at s3 e3 ⊢
  have f3 : Fms H H3 [.ref pa] [(1, [])] := (Fms.nil H H3).snoc (e := (1, [])) ⟨pa, qa, rfl, s1.free hpa, hqa, s3 _ _ e2, s3 _ _ (s2 _ _ e1)⟩
  have s03 := s1.trans (s2.trans s3)
  clear s1 s2 s3 e1 e2 hpa hra hqa
  refine ⟨_, rfl, .inr (.inr ⟨_, rfl, ?_⟩)⟩
  refine for_walk (walk_tx L) (fun i σ H' => ∃ (mp : Addr) (xs : List V) (r4 r5 r6 r7 : Option V), σ = [some (vt L), some (vt k), some (.int ((n' + 1 : Nat) : Int)), some (.ref mp), r4, r5, r6, r7] ∧ Same H H' ∧ H' mp = some (.lst xs) ∧ Fms H H' xs ((L.take i).foldl (fun m c => comb m (fms L n' (k ++ [c]))) [(1, [])]))
    ⟨ra, _, _, _, _, _, rfl, s03, e3, f3⟩ (fun _ _ _ _ _ => trivial) ?_ ?_
  · rintro i y _ H4 hy ⟨mp, xs, r4, r5, r6, r7, rfl, s4, e4, f4⟩
    obtain ⟨c, hc, rfl⟩ := sign_at hy
    have hi := (List.getElem?_eq_some_iff.mp hc).1
    have hfold : (L.take (i + 1)).foldl (fun m c => comb m (fms L n' (k ++ [c]))) [(1, [])] = comb ((L.take i).foldl (fun m c => comb m (fms L n' (k ++ [c]))) [(1, [])]) (fms L n' (k ++ [c])) := by
      rw [List.take_add_one, hc]
      show (L.take i ++ [c]).foldl _ _ = _
      rw [List.foldl_append]; rfl
    rw [hfold]
    have hil : (L.take i).length = i := by rw [List.length_take]; omega
    have hlm : ∀ o ∈ (L.take i).foldl (fun m c => comb m (fms L n' (k ++ [c]))) [(1, [])], o.2.length ≤ 40 := fun o ho => by
      have := fold_le L hm1 n' k (L.take i) o ho
      rw [hil] at this
      exact Nat.le_trans this (Nat.le_trans (Nat.mul_le_mul_right _ (by omega)) hP')
    have hln : ((L.take i).foldl (fun m c => comb m (fms L n' (k ++ [c]))) [(1, [])]).length ≤ 99 := by
      rw [fold_len fun c => fms_len L n' (k ++ [c]), hil]
      show 1 * _ ≤ _
      rw [Nat.one_mul]
      exact Nat.le_trans (Nat.pow_le_pow_right (tN_pos _ _) (Nat.le_of_lt hi)) hTm
    have hcl : ((L.take i).foldl (fun m c => comb m (fms L n' (k ++ [c]))) [(1, [])]).length * (fms L n' (k ++ [c])).length ≤ 99 := by
      rw [fold_len fun c => fms_len L n' (k ++ [c]), hil, fms_len]
      show 1 * _ * _ ≤ _
      rw [Nat.one_mul, ← Nat.pow_succ]
      exact Nat.le_trans (Nat.pow_le_pow_right (tN_pos _ _) hi) hTm
    generalize (L.take i).foldl (fun m c => comb m (fms L n' (k ++ [c]))) [(1, [])] = mF at f4 hlm hln hcl ⊢
    refine ⟨by rw [sizeLine_eq]; show 0 ≤ _; decide, fun D hD => ?_⟩
    have s5 := same_new (o := .lst []) hD
    have e5 : upd H4 D (.lst []) D = some (.lst []) := upd_same
    try dsimp (config := { proj := false, eta := false, zeta := false, iota := false }) only [tNil, tC]
    generalize upd H4 D (.lst []) = H5 at s5 e5 ⊢
    have hDH : H D = none := s4.free hD
    refine ⟨_, rfl, _, rfl, _, rfl, .inr (.inl (catX (by rw [sizeLine_eq]; show _ + 1 ≤ _; omega) ⟨_, rfl, _, _, rfl, rfl, ?_⟩))⟩
    refine ⟨L, k ++ [c], ?_, hm1, hm6, hT', ?_, ?_, fun H6 tr ts s6 htr e6 f6 => ?_⟩
    · show [vt L, vt (k ++ [c]), V.int (((n' + 1 : Nat) : Int) - 1)] = _
      rw [show (((n' + 1 : Nat) : Int) - 1) = (n' : Int) by omega]
    · exact Nat.le_trans (Nat.pow_le_pow_right hm1 (Nat.le_succ _)) hP
    · rw [List.length_append]; show k.length + 1 + n' ≤ 10; omega
    have htD : tr ≠ D := fun z => by rw [z, e5] at htr; cases htr
    have s46 : Same H4 (mn H6 D) := fun b o e => mn_at (s6 _ _ (s5 _ _ e)) (fun z => by rw [z, hD] at e; cases e)
    have m6 := s46 _ _ e4
    have t6 := mn_at e6 htD
    have fm := f4.same s46
    have ft := (f6.mn e5).low (s4.trans s5)
    have d6 := s6 _ _ e5
    have htl : (fms L n' (k ++ [c])).length ≤ 100 := by rw [fms_len]; exact hT'
    have htm : ∀ x ∈ fms L n' (k ++ [c]), x.2.length ≤ 40 := fun x hx => Nat.le_trans (fms_le L hm1 n' _ x hx) (Nat.le_trans (Nat.pow_le_pow_right hm1 (Nat.le_succ _)) hP)
    generalize fms L n' (k ++ [c]) = tF at ft hcl htl htm ⊢
    have b6 := s4.trans s46
    have up6 : ∀ (X : Hp) ys G, Same (mn H6 D) (mn X D) → Fms H (mn X D) ys G → X D = some (.lst ys) → True := fun _ _ _ _ _ _ => trivial
    generalize hF6 : mn H6 D = F6 at s46 m6 t6 fm ft b6 up6
    clear f6 f4 e6 htr s6 up6
    refine .inl ⟨tr, ts, rfl, .inl (.inl (mn_same H6 D _ _ (hF6 ▸ t6))), ?_⟩
    refine for_walk (walk_list (xs := ts)) (fun j σ H' => ∃ (ys : List V) (r6 r7 : Option V), σ = [some (vt L), some (vt k), some (.int ((n' + 1 : Nat) : Int)), some (.ref mp), some (vt [c]), some (.ref D), r6, r7] ∧ Same F6 (mn H' D) ∧ H' D = some (.lst ys) ∧ Fms H (mn H' D) ys (comb mF (tF.take j)))
      ⟨[], _, _, rfl, hF6 ▸ Same.refl _, d6, Fms.nil _ _⟩ (fun j σ H' _ ⟨_, _, _, _, g, _⟩ => .inl (.inl (mn_same _ _ _ _ (g _ _ t6)))) ?_ ?_
    · rintro j v _ H7 hv ⟨ys, r6, r7, rfl, g7, d7, f7⟩
      have hj := (List.getElem?_eq_some_iff.mp hv).1
      have hj2 : j < tF.length := by rw [← ft.1]; exact hj
      have hx := List.getElem?_eq_getElem hj2
      generalize tF[j] = x at hx
      rw [comb_take hx]
      have hxl := htm x (List.mem_of_getElem? hx)
      obtain ⟨ta, tq, rfl, _, _, et1, et2⟩ := ft.2 j v x hv hx
      have hyl : ys.length ≤ 9900 := by
        rw [f7.1, comb_len]
        exact Nat.le_trans (Nat.mul_le_mul hln (by rw [List.length_take]; omega : (tF.take j).length ≤ 100)) (by decide)
      have f7' : Fms H (mn H7 D) ys (comb mF (tF.take j) ++ (mF.take 0).map fun o => (o.1 + x.1, o.2 ++ x.2)) := by
        show Fms _ _ _ (_ ++ []); rw [List.append_nil]; exact f7
      refine ⟨_, rfl, .inl ⟨mp, xs, rfl, .inl (.inl (mn_same _ _ _ _ (g7 _ _ m6))), ?_⟩⟩
      generalize hG : comb mF (tF.take j) = G at f7' hyl ⊢
      have hGl : G.length = ys.length := by rw [f7'.1, List.length_append]; show _ = _ + 0; omega
      refine for_walk (walk_list (xs := xs)) (fun i σ H' => ∃ (ys : List V) (r7 : Option V), σ = [some (vt L), some (vt k), some (.int ((n' + 1 : Nat) : Int)), some (.ref mp), some (vt [c]), some (.ref D), some (.ref ta), r7] ∧ Same F6 (mn H' D) ∧ H' D = some (.lst ys) ∧ Fms H (mn H' D) ys (G ++ (mF.take i).map fun o => (o.1 + x.1, o.2 ++ x.2)))
        ⟨ys, _, rfl, g7, d7, f7'⟩ (fun i σ H' _ ⟨_, _, _, g, _⟩ => .inl (.inl (mn_same _ _ _ _ (g _ _ m6)))) ?_ ?_
      · rintro i u _ H8 hu ⟨zs, r7, rfl, g8, d8, f8⟩
        have hi := (List.getElem?_eq_some_iff.mp hu).1
        have hi2 : i < mF.length := by rw [← fm.1]; exact hi
        have ho := List.getElem?_eq_getElem hi2
        generalize mF[i] = o at ho
        have hol := hlm o (List.mem_of_getElem? ho)
        obtain ⟨oa, oq, rfl, _, _, eo1, eo2⟩ := fm.2 i u o hu ho
        have up : ∀ {b : Addr} {w : HO}, F6 b = some w → H8 b = some w := fun e => mn_same _ _ _ _ (g8 _ _ e)
        have hzl : zs.length ≤ 9999 := by
          rw [f8.1, List.length_append, hGl, List.length_map, List.length_take]; omega
        have szo : (o.2.map vt).length + (x.2.map vt).length ≤ sizeLine := by rw [List.length_map, List.length_map, sizeLine_eq]; omega
        refine ⟨_, rfl, tyL (.inl (.inl d8)), ?_⟩
        refine ⟨_, rfl, ixT (.inl (.inl (up eo1))) rfl ⟨_, rfl, ixT (.inl (.inl (up et1))) rfl (.inl ⟨_, _, rfl, rfl, ?_⟩)⟩⟩
        refine ⟨_, rfl, ixT (.inl (.inl (up eo1))) rfl ⟨_, rfl, ixT (.inl (.inl (up et1))) rfl (.inr (.inr (.inl ⟨oq, tq, _, _, rfl, rfl, up eo2, up et2, szo, fun nq hnq => ?_⟩)))⟩⟩
        refine ⟨by rw [sizeLine_eq]; show 2 ≤ _; decide, fun na hna => ?_⟩
        try dsimp (config := { proj := false, eta := false, zeta := false, iota := false }) only [tNil, tC]
        have s9 := same_new (o := .lst (o.2.map vt ++ x.2.map vt)) hnq
        have e9 : upd H8 nq (.lst (o.2.map vt ++ x.2.map vt)) nq = some (.lst (o.2.map vt ++ x.2.map vt)) := upd_same
        generalize upd H8 nq (.lst (o.2.map vt ++ x.2.map vt)) = H9 at s9 e9 hna ⊢
        have s10 := same_new (o := .tup [.int ((o.1 : Int) + (x.1 : Int)), .ref nq]) hna
        have e10 : upd H9 na (.tup [.int ((o.1 : Int) + (x.1 : Int)), .ref nq]) na = some (.tup [.int ((o.1 : Int) + (x.1 : Int)), .ref nq]) := upd_same
        generalize upd H9 na (.tup [.int ((o.1 : Int) + (x.1 : Int)), .ref nq]) = H10 at s10 e10 ⊢
        have d10 := s10 _ _ (s9 _ _ d8)
        have nD1 : nq ≠ D := fun z => by rw [z, d8] at hnq; cases hnq
        have nD2 : na ≠ D := fun z => by rw [z, s9 _ _ d8] at hna; cases hna
        refine appL d10 (by rw [sizeLine_eq]; omega) ?_
        have gg : Same (mn H8 D) (mn (upd H10 D (.lst (zs ++ [.ref na]))) D) := mn_up fun b w hb e => by rw [upd_ne hb]; exact s10 _ _ (s9 _ _ e)
        have b8 := b6.trans (g8.trans (mn_same H8 D))
        refine ⟨zs ++ [.ref na], _, rfl, g8.trans gg, upd_same, ?_⟩
        have et : (mF.take (i + 1)).map (fun o => (o.1 + x.1, o.2 ++ x.2)) = (mF.take i).map (fun o => (o.1 + x.1, o.2 ++ x.2)) ++ [(o.1 + x.1, o.2 ++ x.2)] := by
          rw [List.take_add_one, ho, List.map_append]; rfl
        rw [et, ← List.append_assoc]
        refine (f8.same gg).snoc ⟨na, nq, rfl, b8.free (s9.free hna), b8.free hnq, mn_at (by rw [upd_ne nD2, e10]; rfl) nD2, mn_at (by rw [upd_ne nD1, s10 _ _ e9, List.map_append]) nD1⟩
      · rintro _ H8 ⟨zs, r7, rfl, g8, d8, f8⟩
        rw [fm.1, List.take_length] at f8
        exact ⟨zs, _, _, rfl, g8, d8, f8⟩
    · rintro _ H7 ⟨ys, r6, r7, rfl, g7, d7, f7⟩
      rw [ft.1, List.take_length] at f7
      have sb : Same (mn H7 D) H7 := mn_same _ _
      exact ⟨_, rfl, D, ys, _, _, _, _, rfl, (b6.trans g7).trans sb, d7, f7.same sb⟩
  · rintro _ H4 ⟨mp, xs, r4, r5, r6, r7, rfl, s4, e4, f4⟩
    rw [List.length_map, List.take_length] at f4
    refine ⟨_, rfl, by rw [sizeLine_eq]; show 1 ≤ _; decide, fun qa hqa => ⟨by rw [sizeLine_eq]; show 2 ≤ _; decide, fun pa hpa => ⟨by rw [sizeLine_eq]; show 1 ≤ _; decide, fun ra hra => ?_⟩⟩⟩
    have s1 := same_new (o := .lst [vt k]) hqa
    have e1 : upd H4 qa (.lst [vt k]) qa = some (.lst [vt k]) := upd_same
    try dsimp (config := { proj := false, eta := false, zeta := false, iota := false }) only [tNil, tC]
    generalize upd H4 qa (.lst [vt k]) = H5 at s1 e1 hpa hra ⊢
    have s2 := same_new (o := .tup [.int 1, .ref qa]) hpa
    have e2 : upd H5 pa (.tup [.int 1, .ref qa]) pa = some (.tup [.int 1, .ref qa]) := upd_same
    generalize upd H5 pa (.tup [.int 1, .ref qa]) = H6 at s2 e2 hra ⊢
    have s3 := same_new (o := .lst [.ref pa]) hra
    have e5 : upd H6 ra (.lst [.ref pa]) ra = some (.lst [.ref pa]) := upd_same
    generalize upd H6 ra (.lst [.ref pa]) = H7 at s3 e5 ⊢
    have s47 := s1.trans (s2.trans s3)
    have hxl : xs.length ≤ 99 := by
      rw [f4.1, fold_len fun c => fms_len L n' (k ++ [c])]
      show 1 * _ ≤ _
      rw [Nat.one_mul]; exact hTm
    refine ⟨_, rfl, .inr (.inr (.inl ⟨ra, mp, _, _, rfl, rfl, e5, s47 _ _ e4, by rw [sizeLine_eq]; show 1 + _ ≤ _; omega, fun z hz => ?_⟩))⟩
    have s8 := same_new (o := .lst ([.ref pa] ++ xs)) hz
    refine q _ z _ (s4.trans (s47.trans s8)) (s4.free (s47.free hz)) upd_same ?_
    have f1 : Fms H H7 [.ref pa] [(1, [k])] := (Fms.nil H H7).snoc (e := (1, [k])) ⟨pa, qa, rfl, s4.free (s1.free hpa), s4.free hqa, s3 _ _ e2, s3 _ _ (s2 _ _ e1)⟩
    exact (f1.app (f4.same s47)).same s8
theorem ok_L_forms (T : Txt K mg t) : ∀ n, FnOk P w K mg base (CX1 P w) (n + 1) t.a_L_forms t.fd_L_forms ["letters", "knot", "left"] (spForms K n)
  | 0 => forms_step T 0 _ (fun _ h => nomatch h) ok_none
  | n + 1 => forms_step T (n + 1) _ (fun k h => by cases h; rfl) (ok_L_forms T n)
def spFormsAny (K : PySem.W.Frag) : Sp := fun vs H Q E => ∃ n, n ≤ 6 ∧ spForms K n vs H Q E
theorem ok_forms_any (T : Txt K mg t) : FnOk P w K mg base (CX1 P w) 7 t.a_L_forms t.fd_L_forms ["letters", "knot", "left"] (spFormsAny K) := by
  refine ⟨fun vs H Q E ⟨n, _, h⟩ => (ok_L_forms (P := P) (w := w) (base := base) T n).len vs H Q E h, fun A outer s H args us vs Q E hr h0 h1 h2 ⟨n, hn, h⟩ => ?_⟩
  exact ((ok_L_forms (P := P) (w := w) (base := base) T n).mono (show n + 1 ≤ 7 by omega)).run A outer s H args us vs Q E hr h0 h1 h2 h
theorem dictK_any {a : Addr} {kvs : List (Key × V)} {H : Hp} {R : It → Hp → Prop} (h : Rd H a (.dK kvs)) (q : ∀ (o : Obj) H', (H' = upd H a (.frz o (.dK kvs)) ∨ H' = H) → H' a = some (.frz o (.dK kvs)) → R (Itd a o (.dK kvs) (kvs.map fun p => kV p.1)) H') :
    (H a = some (.dK kvs) ∧ ∀ o : Obj, R (Itd a o (.dK kvs) (kvs.map fun p => kV p.1)) (upd H a (.frz o (.dK kvs)))) ∨ ∃ o : Obj, H a = some (.frz o (.dK kvs)) ∧ R (Itd a o (.dK kvs) (kvs.map fun p => kV p.1)) H := by
  rcases h with h | ⟨o, h⟩
  · exact .inl ⟨h, fun o => q o _ (.inl rfl) upd_same⟩
  · exact .inr ⟨o, h, q o _ (.inr rfl) h⟩
theorem for_dictK {n : Nat} {g : TG} {tb : TS} {D : Ends} {σ : L2.St} {H : Hp} {a : Addr} {kvs : List (Key × V)} (hx : σ[n]? = some (some (.ref a))) (h : Rd H a (.dK kvs)) (q : ∀ (o : Obj) H1, (H1 = upd H a (.frz o (.dK kvs)) ∨ H1 = H) → H1 a = some (.frz o (.dK kvs)) → ∃ W : Nat → Nat → L2.St → Hp → Prop, (∃ m, W 0 m σ H1) ∧ ∀ i m σ H, W i m σ H →
  ((Itd a o (.dK kvs) (kvs.map fun p => kV p.1)).stop i H ∧ D.nx σ H) ∨ ((Itd a o (.dK kvs) (kvs.map fun p => kV p.1)).go i H ∧ ∃ N : L2.St → Hp → Prop, (∀ σ' H', N σ' H' → ∃ m', m' < m ∧ W (i + 1) m' σ' H') ∧ ∀ x H', (Itd a o (.dK kvs) (kvs.map fun p => kV p.1)).yld i H x H' → g x σ H' fun σ2 H2 => tb { D with nx := N, ct := N, bk := D.nx } σ2 H2)) : tFor (iDictK (tVar n)) g tb D σ H :=
  ⟨_, hx, a, kvs, rfl, dictK_any (R := fun J H1 => ∃ W : Nat → Nat → L2.St → Hp → Prop, (∃ m, W 0 m σ H1) ∧ ∀ i m σ H, W i m σ H →
  (J.stop i H ∧ D.nx σ H) ∨ (J.go i H ∧ ∃ N : L2.St → Hp → Prop, (∀ σ' H', N σ' H' → ∃ m', m' < m ∧ W (i + 1) m' σ' H') ∧ ∀ x H', J.yld i H x H' → g x σ H' fun σ2 H2 => tb { D with nx := N, ct := N, bk := D.nx } σ2 H2)) h q⟩
theorem gcd_sq {t0 t1 n e : Int} (h : gcdI t0 t1 = 1) (he : 0 < e) : gcdI (t0 * e + n * t1) (t1 * e) ≤ e * e := by
  have h1 := gcdI_dvd_left (t0 * e + n * t1) (t1 * e)
  have h2 := gcdI_dvd_right (t0 * e + n * t1) (t1 * e)
  have d1 : gcdI (t0 * e + n * t1) (t1 * e) ∣ t0 * (e * e) := by
    have a1 : _ ∣ (t0 * e + n * t1) * e := Int.dvd_mul_of_dvd_left h1
    have a2 : _ ∣ n * (t1 * e) := Int.dvd_mul_of_dvd_right h2
    have := Int.dvd_sub a1 a2
    rwa [show (t0 * e + n * t1) * e - n * (t1 * e) = t0 * (e * e) by grind] at this
  have d2 : gcdI (t0 * e + n * t1) (t1 * e) ∣ t1 * (e * e) := by
    have : _ ∣ t1 * e * e := Int.dvd_mul_of_dvd_left h2
    rwa [Int.mul_assoc] at this
  have ee : 0 < e * e := Int.mul_pos he he
  generalize gcdI (t0 * e + n * t1) (t1 * e) = G at *
  have n1 := Int.natAbs_dvd_natAbs.mpr d1
  have n2 := Int.natAbs_dvd_natAbs.mpr d2
  rw [Int.natAbs_mul] at n1 n2
  have n3 := Nat.dvd_gcd n1 n2
  rw [Nat.gcd_mul_right] at n3
  have n4 : Nat.gcd t0.natAbs t1.natAbs = 1 := by unfold gcdI at h; omega
  rw [n4, Nat.one_mul] at n3
  have n5 := Nat.le_of_dvd (by omega) n3
  omega
theorem num_is {a b : Int} (hb : 0 < b) : a.fdiv (gcdI a b) = num a b ∧ b.fdiv (gcdI a b) = den a b := by
  unfold num den sgn
  rw [if_neg (by omega), Int.one_mul]
  exact ⟨rfl, rfl⟩
theorem abs_of {a : Int} {k : Nat} (h0 : 0 ≤ a) (h : a ≤ 2 ^ k) (hk : k < 100000) : a.natAbs < 2 ^ 100000 := by
  have h1 := lt_pow h hk
  have h2 : (a.natAbs : Int) < ((2 ^ 100000 : Nat) : Int) := by
    rw [Int.natCast_pow]
    have : (a.natAbs : Int) = a := by omega
    rw [this]; exact h1
  exact Int.ofNat_lt.mp h2
def spPlus42 (K : PySem.W.Frag) : Sp := fun vs H Q _ => ∃ (a : Addr) (t0 t1 tp bt : Int), vs = [.ref a, .int tp, .int bt] ∧ SqT K H a [.int t0, .int t1] ∧ 0 < t1 ∧ gcdI t0 t1 = 1 ∧ 0 ≤ t0 ∧ 0 < tp ∧ 0 < bt ∧ t0.natAbs < 2 ^ 100000 ∧ t1.natAbs < 2 ^ 100000 ∧ tp.natAbs < 2 ^ 4000 ∧ bt ≤ 2 ^ 4000 ∧
  ∀ r H', Same H H' → H' r = some (.tup [.int (num (t0 * bt + tp * t1) (t1 * bt)), .int (den (t0 * bt + tp * t1) (t1 * bt))]) → Q (.ref r) H'
theorem ok_L_plus (T : Txt K mg t) : FnOk P w K mg base (CX1 P w) 2 t.a_L_plus t.fd_L_plus ["one", "top", "bottom"] (spPlus42 K) := by
  refine T.F_L_plus.okn (k := 1) sc_L_plus (fun vs H Q E h => ?_) (fun cdv A outer s H vs Q E hr h => ?_)
  · obtain ⟨a, t0, t1, tp, bt, rfl, _⟩ := h; rfl
  obtain ⟨a, t0, t1, tp, bt, rfl, ha, h1, hg, h0, htp, hbt, b0, b1, b2, b3, q⟩ := h
  have G_L_divisor := ok_L_divisor (P := P) (w := w) (base := base) T
  have b3' : bt.natAbs < 2 ^ 100000 := abs_of (Int.le_of_lt hbt) b3 (by decide)
  have b2' : tp.natAbs < 2 ^ 100000 := Nat.lt_of_lt_of_le b2 (Nat.pow_le_pow_right (by decide) (by decide))
  refine ⟨_, (pss_cons (ps_set (i := 3) sc_L_plus.nd rfl (Or.inl rfl) (pe_tup (PAs.h (pas_cons (pe_op oAddN (pe_op oMulN (pe_ix ixAny (pv 0) pe_int (fun _ _ => rfl)) (pv 2)) (pe_op oMulN (pv 1) (pe_ix ixAny (pv 0) pe_int (fun _ _ => rfl)))) (pas_cons (pe_op oMulN (pe_ix ixAny (pv 0) pe_int (fun _ _ => rfl)) (pv 2)) pas_nil)))))
    (pss_cons (ps_set (i := 4) sc_L_plus.nd rfl (Or.inl rfl) (pe_call G_L_divisor hr rfl T.m_L_divisor T.F_L_divisor.kp T.b_L_divisor .nil pass1 (PAs.h (pas_cons (pe_ix ixAny (pv 3) pe_int (fun _ _ => rfl)) (pas_cons (pe_ix ixAny (pv 3) pe_int (fun _ _ => rfl)) pas_nil)))))
    (pss_one (ps_ret (pe_tup (PAs.h (pas_cons (pe_op op_fdivL (pe_ix ixAny (pv 3) pe_int (fun _ _ => rfl)) (pv 4)) (pas_cons (pe_op op_fdivL (pe_ix ixAny (pv 3) pe_int (fun _ _ => rfl)) (pv 4)) pas_nil)))))))), ?_⟩
  refine ⟨_, rfl, ixT ha rfl ⟨_, rfl, .inl ⟨_, _, rfl, rfl, mulB b0 b3', _, rfl, _, rfl, ixT ha rfl (.inl ⟨_, _, rfl, rfl, mulB b2' b1, .inl ⟨_, _, rfl, rfl, _, rfl, ixT ha rfl ⟨_, rfl, .inl ⟨_, _, rfl, rfl, mulB b1 b3', by rw [sizeLine_eq]; show 2 ≤ _; decide, fun m hm => ?_⟩⟩⟩⟩)⟩⟩⟩
  have s1 := same_new (o := .tup [.int (t0 * bt + tp * t1), .int (t1 * bt)]) hm
  have e1 : upd H m (.tup [.int (t0 * bt + tp * t1), .int (t1 * bt)]) m = some (.tup [.int (t0 * bt + tp * t1), .int (t1 * bt)]) := upd_same
  try dsimp (config := { proj := false, eta := false, zeta := false, iota := false }) only [tNil, tC]
  generalize upd H m (.tup [.int (t0 * bt + tp * t1), .int (t1 * bt)]) = H1 at s1 e1 ⊢
  have hm1 : SqT K H1 m [.int (t0 * bt + tp * t1), .int (t1 * bt)] := .inl (.inl e1)
  have pb : 0 < t1 * bt := Int.mul_pos h1 hbt
  have gp := gcdI_pos (a := t0 * bt + tp * t1) (b := t1 * bt) (by omega)
  have gs := gcd_sq (n := tp) hg hbt
  refine ⟨_, rfl, ixT hm1 rfl ⟨_, rfl, ixT hm1 rfl ⟨_, _, rfl, pb, ?_⟩⟩⟩
  have gb : gcdI (t0 * bt + tp * t1) (t1 * bt) ≠ 0 ∧ (gcdI (t0 * bt + tp * t1) (t1 * bt)).natAbs < 2 ^ 8999 := by
    refine ⟨by omega, ?_⟩
    have b4 : bt * bt ≤ 2 ^ 8000 := by
      refine Int.le_trans (Int.mul_le_mul b3 b3 (by omega) (Int.le_of_lt (Int.pow_pos (by decide)))) ?_
      rw [← Int.pow_add]; exact Int.le_refl _
    have b5 : gcdI (t0 * bt + tp * t1) (t1 * bt) < 2 ^ 8999 := lt_pow (Int.le_trans gs b4) (by decide)
    have : ((gcdI (t0 * bt + tp * t1) (t1 * bt)).natAbs : Int) < ((2 ^ 8999 : Nat) : Int) := by
      rw [Int.natCast_pow]
      have e : ((gcdI (t0 * bt + tp * t1) (t1 * bt)).natAbs : Int) = gcdI (t0 * bt + tp * t1) (t1 * bt) := by omega
      rw [e]; exact b5
    exact Int.ofNat_lt.mp this
  obtain ⟨en, ed⟩ := num_is (a := t0 * bt + tp * t1) pb
  refine ⟨_, rfl, ixT hm1 rfl ⟨_, rfl, _, _, rfl, rfl, gb, _, rfl, ixT hm1 rfl ⟨_, rfl, _, _, rfl, rfl, gb, by rw [sizeLine_eq]; show 2 ≤ _; decide, fun r hr0 => ?_⟩⟩⟩
  try dsimp (config := { proj := false, eta := false, zeta := false, iota := false }) only [tNil, tC]
  rw [en, ed]
  exact q r _ (new_same hr0 s1) upd_same
theorem plus_q {t0 t1 tp bt : Int} (h1 : 0 < t1) (hb : 0 < bt) : ((num (t0 * bt + tp * t1) (t1 * bt) : Int) : Rat) / ((den (t0 * bt + tp * t1) (t1 * bt) : Int) : Rat) = (t0 : Rat) / (t1 : Rat) + (tp : Rat) / (bt : Rat) := by
  have pb : 0 < t1 * bt := Int.mul_pos h1 hb
  have h := num_cross (t := t0 * bt + tp * t1) (b := t1 * bt) (by omega)
  have d0 := ne0 (a := den (t0 * bt + tp * t1) (t1 * bt)) (by have := den_pos (t := t0 * bt + tp * t1) (b := t1 * bt) (by omega); omega)
  have n1 := ne0 (a := t1) (by omega)
  have n2 := ne0 (a := bt) (by omega)
  have hq : ((num (t0 * bt + tp * t1) (t1 * bt) : Int) : Rat) * ((t1 : Rat) * (bt : Rat)) = ((t0 : Rat) * (bt : Rat) + (tp : Rat) * (t1 : Rat)) * ((den (t0 * bt + tp * t1) (t1 * bt) : Int) : Rat) := by
    have := congrArg (fun z : Int => (z : Rat)) h
    simp only [Rat.intCast_mul, Rat.intCast_add] at this
    exact this
  generalize ((num (t0 * bt + tp * t1) (t1 * bt) : Int) : Rat) = N at *
  generalize ((den (t0 * bt + tp * t1) (t1 * bt) : Int) : Rat) = D at *
  grind
section
variable {L : List Nat} {f d : Nat} {l : List Nat}
def gq (L : List Nat) (f d : Nat) (l : List Nat) (x : List Nat) : Rat := wq (wo L f d l l.length x)
theorem pow_q (n : Nat) : (((2 : Int) ^ n : Int) : Rat) = (2 : Rat) ^ n := by
  induction n with
  | zero => rw [Rat.pow_zero]; rfl
  | succ n ih => rw [Int.pow_succ, Rat.pow_succ, Rat.intCast_mul, ih]; rfl
theorem form_q (S : Sm L f d l) (e : Nat × List (List Nat)) : (tI L f d l e : Rat) / (bI L f d l e : Rat) = vq (gq L f d l) e := by
  have hp := wq_prod (xs := e.2.map fun x => wo L f d l l.length x) (fun x hx => by obtain ⟨y, _, rfl⟩ := List.mem_map.mp hx; exact (wo_ok S (Nat.le_refl _) y).2.1)
  have hb : 1 ≤ prodI (e.2.map fun x => (wo L f d l l.length x).2) := prodI_pos fun y hy => by obtain ⟨x, _, rfl⟩ := List.mem_map.mp hy; exact (wo_ok S (Nat.le_refl _) x).2.1
  unfold wq prodW at hp
  rw [List.map_map, List.map_map, List.map_map] at hp
  have hp : (prodI (e.2.map fun x => (wo L f d l l.length x).1) : Rat) / (prodI (e.2.map fun x => (wo L f d l l.length x).2) : Rat) = pq (e.2.map (gq L f d l)) := hp
  show (prodI (e.2.map fun x => (wo L f d l l.length x).1) : Rat) / ((2 ^ e.1 * prodI (e.2.map fun x => (wo L f d l l.length x).2) : Int) : Rat) = pq (e.2.map (gq L f d l)) / 2 ^ e.1
  rw [← hp, Rat.intCast_mul, pow_q]
  have := ne0 hb
  have := two_ne e.1
  grind
theorem sq_snoc (l : List Rat) (x : Rat) : sq (l ++ [x]) = sq l + x := by
  rw [sq_app]; show sq l + (x + 0) = _; grind
end
def WD (L : List Nat) (f d : Nat) (l : List Nat) (H : Hp) (wks : List (Key × V)) (k : List Nat) : Prop := ∃ r, valV wks (key k) = some (.ref r) ∧ H r = some (.tup [.int (wo L f d l l.length k).1, .int (wo L f d l l.length k).2])
theorem WD.same {L : List Nat} {f d : Nat} {l : List Nat} {H H' : Hp} {wks : List (Key × V)} {k : List Nat} (h : WD L f d l H wks k) (g : Same H H') : WD L f d l H' wks k := by
  obtain ⟨r, h1, h2⟩ := h
  exact ⟨r, h1, g _ _ h2⟩
def spSum42 (K : PySem.W.Frag) : Sp := fun vs H Q _ => ∃ (p fa : Addr) (f : Nat) (L l : List Nat) (d : Nat) (H0 : Hp) (xs : List V) (F : List (Nat × List (List Nat))), vs = [.ref p, vt l, .ref fa] ∧ SqT K H p [vt (f :: L), .int d] ∧ Sm (f :: L) f d l ∧ l.length ≤ 60 ∧ H fa = some (.lst xs) ∧ Fms H0 H xs F ∧ F.length ≤ 100 ∧ (∀ e ∈ F, e.1 ≤ 50 ∧ e.2.length ≤ 40 ∧ (e.2.map (nk f d l)).sum ≤ 60) ∧
  ∀ H' r t0 t1, Same H H' → H' r = some (.tup [.int t0, .int t1]) → 0 < t1 → gcdI t0 t1 = 1 → (t0 : Rat) / (t1 : Rat) = sF (gq (f :: L) f d l) F → Q (.ref r) H'
theorem ok_L_sum (T : Txt K mg t) : FnOk P w K mg base (CX1 P w) 3 t.a_L_sum t.fd_L_sum ["frame", "text", "forms"] (spSum42 K) := by
  refine T.F_L_sum.okn (k := 2) sc_L_sum (fun vs H Q E h => ?_) (fun cdv A outer s H vs Q E hr h => ?_)
  · obtain ⟨p, fa, f, L, l, d, H0, xs, F, rfl, _⟩ := h; rfl
  obtain ⟨p, fa, f, L, l, d, H0, xs, F, rfl, hp, S, hll, efa, hF, hFl, hFe, q⟩ := h
  have G_L_came := ok_L_came (P := P) (w := w) (base := base) T
  have G_L_worth := (ok_L_worth (P := P) (w := w) (base := base) T).mono (show 1 ≤ 2 by decide)
  have G_L_plus := ok_L_plus (P := P) (w := w) (base := base) T
  have l6 := S.l6
  have d6 := S.d6
  have zL : (f :: L).length ≤ sizeLine := by rw [sizeLine_eq]; omega
  refine ⟨_, (pss_cons (ps_set (i := 3) sc_L_sum.nd rfl (Or.inl rfl) (pe_call G_L_came hr rfl T.m_L_came T.F_L_came.kp T.b_L_came .nil pass1 (PAs.h (pas_cons (pv 0) (pas_cons (pv 1) pas_nil)))))
    (pss_cons (ps_set (i := 4) sc_L_sum.nd rfl (Or.inl rfl) pe_dnewK)
    (pss_cons (ps_for PassesOwn.never rfl (pi_dictK (pv 3)) (pg_name (i := 5) sc_L_sum.nd rfl (Or.inl rfl)) (pss_one (ps_dput (hu_of hr) (pv 4) (pv 5) (pe_call G_L_worth hr rfl T.m_L_worth T.F_L_worth.kp T.b_L_worth .nil pass1 (PAs.h (pas_cons (pe_dget (hu_of hr) (pv 3) (pv 5) (fun _ _ => rfl)) (pas_cons (pe_callB call_len rfl T.m_len bt_len (pa_cons (pe_ix ixAny (pv 0) pe_int (fun _ _ => rfl)) pa_nil)) pas_nil)))) rfl)))
    (pss_cons (ps_set (i := 6) sc_L_sum.nd rfl (Or.inl rfl) (pe_tup (PAs.h (pas_cons pe_int (pas_cons pe_int pas_nil)))))
    (pss_cons (ps_for PassesOwn.never rfl (pi_list (pv 2)) (pg_tup rfl (pgs_cons (pg_name (i := 7) sc_L_sum.nd rfl (Or.inl rfl)) (pgs_cons (pg_name (i := 8) sc_L_sum.nd rfl (Or.inl rfl)) pgs_nil))) (pss_cons (ps_set (i := 9) sc_L_sum.nd rfl (Or.inl rfl) pe_int)
    (pss_cons (ps_set (i := 10) sc_L_sum.nd rfl (Or.inl rfl) (pe_op op_shlN pe_int (pv 7)))
    (pss_cons (ps_for PassesOwn.never rfl (piAny (pv 8)) (pg_name (i := 5) sc_L_sum.nd rfl (Or.inl rfl)) (pss_one (ps_if (pt_cmp (pc_din (hu_of hr) (pv 5) (pv 4))) (pss_cons (ps_set (i := 9) sc_L_sum.nd rfl (Or.inl rfl) (pe_op oMulN (pv 9) (pe_ix ixAny (pe_dget (hu_of hr) (pv 4) (pv 5) (fun _ _ => rfl)) pe_int (fun _ _ => rfl))))
    (pss_one (ps_set (i := 10) sc_L_sum.nd rfl (Or.inl rfl) (pe_op oMulN (pv 10) (pe_ix ixAny (pe_dget (hu_of hr) (pv 4) (pv 5) (fun _ _ => rfl)) pe_int (fun _ _ => rfl)))))) pss_nil)))
    (pss_one (ps_set (i := 6) sc_L_sum.nd rfl (Or.inl rfl) (pe_call G_L_plus hr rfl T.m_L_plus T.F_L_plus.kp T.b_L_plus .nil pass1 (PAs.h (pas_cons (pv 6) (pas_cons (pv 9) (pas_cons (pv 10) pas_nil)))))))))))
    (pss_one (ps_ret (pv 6)))))))), ?_⟩
  refine ⟨_, rfl, _, rfl, p, f, L, l, d, rfl, hp, l6, d6, by omega, fun tb H1 kvs s1 htb e1 hks hkl hV => ?_⟩
  refine fun wd hwd => ?_
  have hne : tb ≠ wd := fun z => by rw [← z, e1] at hwd; cases hwd
  have hWd : H wd = none := s1.free hwd
  have s2 : Same H (upd H1 wd (.dK [])) := new_same hwd s1
  have e2 : upd H1 wd (.dK []) tb = some (.dK kvs) := new_at hwd e1
  have w2 : upd H1 wd (.dK []) wd = some (.dK []) := upd_same
  try dsimp (config := { proj := false, eta := false, zeta := false, iota := false }) only [tNil, tC]
  generalize upd H1 wd (.dK []) = H2 at s2 e2 w2 ⊢
  dsimp (config := { eta := false, zeta := false, iota := false }) only [gName]
  show tSeq (tFor (iDictK (tVar 3)) _ _) _ _ [some (.ref p), some (vt l), some (.ref fa), some (.ref tb), some (.ref wd), none, none, none, none, none, none] H2
  refine meet (fun σ H' => ∃ (wks : List (Key × V)) (r5 : Option V), σ = [some (.ref p), some (vt l), some (.ref fa), some (.ref tb), some (.ref wd), r5, none, none, none, none, none] ∧ Same H H' ∧ H' wd = some (.dK wks) ∧ (∀ k, seen f d l k l.length = true → WD (f :: L) f d l H' wks k) ∧ ∀ k, seen f d l k l.length = false → valV wks (key k) = none) (fun N hN => ?_) ?_
  · refine for_dictK (n := 3) rfl (.inl e2) fun o H3 hH3 e3 => ?_
    have b3 : Same H H3 ∧ H3 wd = some (.dK []) := by
      rcases hH3 with rfl | rfl
      · exact ⟨over_same htb s2, by rw [upd_ne hne.symm]; exact w2⟩
      · exact ⟨s2, w2⟩
    obtain ⟨s3, w3⟩ := b3
    refine for_walk (walk_dict (xs := kvs.map fun p => kV p.1)) (fun j σ H4 => ∃ (wks : List (Key × V)) (r5 : Option V), σ = [some (.ref p), some (vt l), some (.ref fa), some (.ref tb), some (.ref wd), r5, none, none, none, none, none] ∧ Same H H4 ∧ H4 tb = some (.frz o (.dK kvs)) ∧ H4 wd = some (.dK wks) ∧ wks.length ≤ j ∧ (∀ k, (∃ e ∈ kvs.take j, e.1 = key k) → WD (f :: L) f d l H4 wks k) ∧ ∀ k, (¬ ∃ e ∈ kvs.take j, e.1 = key k) → valV wks (key k) = none)
      ⟨[], _, rfl, s3, e3, w3, Nat.le_refl _, (fun k ⟨e, he, _⟩ => by simp at he), fun _ _ => rfl⟩ (fun j σ H4 _ ⟨_, _, _, _, e4, _⟩ => e4) ?_ ?_
    · rintro j x _ H4 hx ⟨wks, r5, rfl, s4, e4, w4, hwl, hy, hn⟩
      rw [List.getElem?_map] at hx
      cases hej : kvs[j]? with
      | none => rw [hej] at hx; cases hx
      | some e =>
        rw [hej] at hx
        cases hx
        have hj := (List.getElem?_eq_some_iff.mp hej).1
        obtain ⟨k, ek⟩ := hks e (List.mem_of_getElem? hej)
        show gName 5 (kV e.1) _ _ _
        rw [ek]
        show gName 5 (vt k) _ _ _
        have hmem : key k ∈ kvs.map (·.1) := List.mem_map.mpr ⟨e, List.mem_of_getElem? hej, ek⟩
        have hse : seen f d l k l.length = true := by
          cases hs : seen f d l k l.length with
          | true => rfl
          | false => exact absurd hmem (valV_not ((hV k).2 hs))
        have hcv := (hV k).1 hse
        have hp4 := same_tup s4 hp
        have hsl := sg_le f d l k l.length
        have hcs := sg_len (f := f) (d := d) (kn := k) S.nd S.al l.length (Nat.le_refl _)
        refine ⟨_, rfl, _, rfl, tb, _, rfl, .inl ⟨kvs, key k, .inr ⟨o, e4⟩, rfl, hcv.symm⟩, _, rfl, ixT hp4 rfl ⟨_, _, rfl, lenvS zL, sg f d l k l.length, (f :: L).length, rfl, by omega, by omega, fun rw1 hrw1 => ?_⟩⟩
        rw [twN_sg S.nd S.al l.length (Nat.le_refl _), ← hcs]
        have s5 := same_new (o := .tup [.int (topW (cntL (f :: L) f d l k l.length)), .int (botW (f :: L).length (cntL (f :: L) f d l k l.length).sum)]) hrw1
        have e5 : upd H4 rw1 (.tup [.int (topW (cntL (f :: L) f d l k l.length)), .int (botW (f :: L).length (cntL (f :: L) f d l k l.length).sum)]) rw1 = some (.tup [.int (wo (f :: L) f d l l.length k).1, .int (wo (f :: L) f d l l.length k).2]) := upd_same
        try dsimp (config := { proj := false, eta := false, zeta := false, iota := false }) only [tNil, tC]
        generalize upd H4 rw1 (.tup [.int (topW (cntL (f :: L) f d l k l.length)), .int (botW (f :: L).length (cntL (f :: L) f d l k l.length).sum)]) = H5 at s5 e5 ⊢
        have w5 := s5 _ _ w4
        refine ⟨_, rfl, _, rfl, wd, _, rfl, .inl ⟨wks, key k, w5, rfl, by rw [sizeLine_eq]; omega, rfl⟩, ?_⟩
        have tk : kvs.take (j + 1) = kvs.take j ++ [e] := by rw [List.take_add_one, hej]; rfl
        have gt : ∀ kn, valV (putK wks (key k) (.ref rw1)) (key kn) = if key kn = key k then some (.ref rw1) else valV wks (key kn) := fun kn => valV_put wks (key k) (key kn) (.ref rw1)
        have tu : ∀ {b : Addr} {vs : List V}, H5 b = some (.tup vs) → upd H5 wd (.dK (putK wks (key k) (.ref rw1))) b = some (.tup vs) := fun {b vs} e => by
          rw [upd_ne fun z => by rw [z, w5] at e; cases e]; exact e
        refine ⟨putK wks (key k) (.ref rw1), _, rfl, over_same hWd (s4.trans s5), by rw [upd_ne hne]; exact s5 _ _ e4, upd_same, by have := length_putK wks (key k) (.ref rw1); omega, fun kn hkn => ?_, fun kn hkn => ?_⟩
        · by_cases z : key kn = key k
          · have := key_inj z
            subst this
            exact ⟨rw1, by rw [gt, if_pos rfl], tu e5⟩
          · obtain ⟨e', hm', e3⟩ := hkn
            rw [tk] at hm'
            rcases List.mem_append.mp hm' with hm' | hm'
            · obtain ⟨r, h1, h2⟩ := hy kn ⟨e', hm', e3⟩
              exact ⟨r, by rw [gt, if_neg z]; exact h1, tu (s5 _ _ h2)⟩
            · cases List.mem_singleton.mp hm'
              exact absurd (e3.symm.trans ek) z
        · have z : ¬ key kn = key k := fun z => hkn ⟨e, by rw [tk]; simp, by rw [ek, z]⟩
          rw [gt, if_neg z]
          exact hn kn fun ⟨e', hm', e3⟩ => hkn ⟨e', by rw [tk]; exact List.mem_append_left _ hm', e3⟩
    · rintro _ H4 ⟨wks, r5, rfl, s4, e4, w4, hwl, hy, hn⟩
      rw [List.length_map, List.take_length] at hy hn
      refine hN _ _ ⟨wks, _, rfl, s4, w4, fun k hk => hy k ?_, fun k hk => hn k ?_⟩
      · obtain ⟨e, he, e2⟩ := List.mem_map.mp (valV_in ((hV k).1 hk))
        exact ⟨e, he, e2⟩
      · rintro ⟨e, he, e2⟩
        exact valV_not ((hV k).2 hk) (List.mem_map.mpr ⟨e, he, e2⟩)
  rintro _ H3 ⟨wks, r5, rfl, s3, w3, hy, hn⟩
  have f3 := s3 _ _ efa
  have hF3 := hF.same s3
  refine ⟨by rw [sizeLine_eq]; show 2 ≤ _; decide, fun ta hta => ?_⟩
  have s4 := same_new (o := .tup [.int 0, .int 1]) hta
  have e4 : upd H3 ta (.tup [.int 0, .int 1]) ta = some (.tup [.int 0, .int 1]) := upd_same
  try dsimp (config := { proj := false, eta := false, zeta := false, iota := false }) only [tNil, tC]
  generalize upd H3 ta (.tup [.int 0, .int 1]) = H4 at s4 e4 ⊢
  have f4 := s4 _ _ f3
  have hF4 := hF3.same s4
  have w4 := s4 _ _ w3
  refine ⟨_, rfl, fa, rfl, ⟨xs, .inl (.inl f4)⟩, ?_⟩
  refine for_walk (walk_list (xs := xs)) (fun i σ H' => ∃ (ta : Addr) (t0 t1 : Int) (r5 r7 r8 r9 r10 : Option V), σ = [some (.ref p), some (vt l), some (.ref fa), some (.ref tb), some (.ref wd), r5, some (.ref ta), r7, r8, r9, r10] ∧ Same H4 H' ∧ H' ta = some (.tup [.int t0, .int t1]) ∧ 0 ≤ t0 ∧ 0 < t1 ∧ gcdI t0 t1 = 1 ∧ t0 ≤ 2 ^ (900 * i + 1) ∧ t1 ≤ 2 ^ (900 * i) ∧ (t0 : Rat) / (t1 : Rat) = sF (gq (f :: L) f d l) (F.take i))
    ⟨ta, 0, 1, _, _, _, _, _, rfl, Same.refl _, e4, by decide, by decide, by decide, by decide, by decide, by show (0 : Rat) / 1 = 0; grind⟩ (fun i σ H' _ ⟨_, _, _, _, _, _, _, _, _, g, _⟩ => .inl (.inl (g _ _ f4))) ?_ ?_
  · rintro i v _ H5 hv ⟨ta, t0, t1, r5, r7, r8, r9, r10, rfl, s5, e5, p0, p1, hg, b0, b1, hq⟩
    have hi := (List.getElem?_eq_some_iff.mp hv).1
    have hi2 : i < F.length := by rw [← hF.1]; exact hi
    have he := List.getElem?_eq_getElem hi2
    generalize F[i] = e at he
    obtain ⟨x1, x2, x3⟩ := hFe e (List.mem_of_getElem? he)
    obtain ⟨ea, eq, rfl, _, _, ee1, ee2⟩ := (hF4.same s5).2 i v e hv he
    refine ⟨ea, _, rfl, .inl (.inl ee1), rfl, _, _, rfl, _, _, rfl, rfl, ?_⟩
    have w5 := s5 _ _ w4
    have wo1 := fun x => wo_ok S (Nat.le_refl _) x
    have hb2 : ∀ x, 1 ≤ (wo (f :: L) f d l l.length x).2 ∧ (wo (f :: L) f d l l.length x).2 ≤ 2 ^ (1 + 10 * nk f d l x) := fun x => ⟨(wo1 x).2.1, (wo1 x).2.2.2⟩
    have hb1 : ∀ x, 1 ≤ (wo (f :: L) f d l l.length x).1 ∧ (wo (f :: L) f d l l.length x).1 ≤ 2 ^ (7 + 10 * nk f d l x) := fun x => ⟨(wo1 x).1, (wo1 x).2.2.1⟩
    have tsum : ∀ j, ((e.2.take j).map (nk f d l)).sum ≤ 60 := fun j => by
      have : (e.2.map (nk f d l)).sum = ((e.2.take j).map (nk f d l)).sum + ((e.2.drop j).map (nk f d l)).sum := by rw [← List.sum_append, ← List.map_append, List.take_append_drop]
      omega
    have tlen : ∀ j, (e.2.take j).length ≤ 40 := fun j => by rw [List.length_take]; omega
    have tb1 : ∀ j, 1 ≤ prodI ((e.2.take j).map fun x => (wo (f :: L) f d l l.length x).1) ∧ prodI ((e.2.take j).map fun x => (wo (f :: L) f d l l.length x).1) ≤ 2 ^ 880 := fun j => by
      obtain ⟨h1, h2⟩ := over_bd hb1 (e.2.take j)
      exact ⟨h1, Int.le_trans h2 (ipow_le (by have := tsum j; have := tlen j; omega))⟩
    have bb1 : ∀ j, 1 ≤ 2 ^ e.1 * prodI ((e.2.take j).map fun x => (wo (f :: L) f d l l.length x).2) ∧ 2 ^ e.1 * prodI ((e.2.take j).map fun x => (wo (f :: L) f d l l.length x).2) ≤ 2 ^ 690 := fun j => by
      obtain ⟨h1, h2⟩ := over_bd hb2 (e.2.take j)
      have h3 : (0 : Int) < 2 ^ e.1 := Int.pow_pos (by decide)
      refine ⟨Int.mul_pos h3 h1, ?_⟩
      refine Int.le_trans (Int.mul_le_mul_of_nonneg_left h2 (Int.le_of_lt h3)) ?_
      rw [← Int.pow_add]
      exact ipow_le (by have := tsum j; have := tlen j; omega)
    refine ⟨_, rfl, _, _, rfl, rfl, ⟨by omega, by omega, by show (1 : Int).natAbs < _; exact Nat.one_lt_two_pow (by decide)⟩, ?_⟩
    try dsimp (config := { proj := false, eta := false, zeta := false, iota := false }) only [tNil, tC]
    rw [Int.toNat_natCast, Int.one_mul]
    have big : ∀ {z : Int} {m : Nat}, 1 ≤ z → z ≤ 2 ^ m → m < 100000 → z.natAbs < 2 ^ 100000 := fun h1 h2 h3 => abs_of (by omega) h2 h3
    dsimp (config := { eta := false, zeta := false, iota := false }) only [gName]
    show tSeq _ _ _ [some (.ref p), some (vt l), some (.ref fa), some (.ref tb), some (.ref wd), r5, some (.ref ta), some (.int (e.1 : Int)), some (.ref eq), some (.int 1), some (.int (2 ^ e.1))] H5
    refine meet (fun σ H' => ∃ r5 : Option V, σ = [some (.ref p), some (vt l), some (.ref fa), some (.ref tb), some (.ref wd), r5, some (.ref ta), some (.int (e.1 : Int)), some (.ref eq), some (.int (tI (f :: L) f d l e)), some (.int (bI (f :: L) f d l e))] ∧ H' = H5) (fun N hN => ?_) ?_
    · refine ⟨_, rfl, .inl ⟨eq, _, rfl, .inl (.inl ee2), ?_⟩⟩
      refine for_walk (walk_list (xs := e.2.map vt)) (fun j σ H' => ∃ r5 : Option V, σ = [some (.ref p), some (vt l), some (.ref fa), some (.ref tb), some (.ref wd), r5, some (.ref ta), some (.int (e.1 : Int)), some (.ref eq), some (.int (prodI ((e.2.take j).map fun x => (wo (f :: L) f d l l.length x).1))), some (.int (2 ^ e.1 * prodI ((e.2.take j).map fun x => (wo (f :: L) f d l l.length x).2)))] ∧ H' = H5)
        ⟨_, by show _ = [_, _, _, _, _, _, _, _, _, some (V.int 1), some (V.int (2 ^ e.1 * 1))]; rw [Int.mul_one], rfl⟩ (fun j σ H' _ ⟨_, _, e⟩ => e ▸ .inl (.inl ee2)) ?_ ?_
      · rintro j y _ H5 hy2 ⟨r5, rfl, rfl⟩
        rw [List.getElem?_map] at hy2
        cases hkj : e.2[j]? with
        | none => rw [hkj] at hy2; cases hy2
        | some k =>
          rw [hkj] at hy2
          cases hy2
          have st1 : prodI ((e.2.take (j + 1)).map fun x => (wo (f :: L) f d l l.length x).1) = prodI ((e.2.take j).map fun x => (wo (f :: L) f d l l.length x).1) * (wo (f :: L) f d l l.length k).1 := by
            rw [List.take_add_one, hkj, List.map_append, prodI_app]; show _ * (_ * 1) = _; rw [Int.mul_one]
          have st2 : 2 ^ e.1 * prodI ((e.2.take (j + 1)).map fun x => (wo (f :: L) f d l l.length x).2) = 2 ^ e.1 * prodI ((e.2.take j).map fun x => (wo (f :: L) f d l l.length x).2) * (wo (f :: L) f d l l.length k).2 := by
            rw [List.take_add_one, hkj, List.map_append, prodI_app, Int.mul_assoc]; show _ * (_ * (_ * 1)) = _; rw [Int.mul_one]
          rw [st1, st2]
          have hg5 : DGet H5 wd (vt k) (valV wks (key k)) := DGet.k (k := key k) w5
          cases z : seen f d l k l.length with
          | false =>
            rw [hn k z] at hg5
            have w1 := wo_unseen (L := f :: L) z
            rw [w1, Int.mul_one, Int.mul_one]
            exact ⟨_, rfl, _, rfl, wd, _, rfl, hg5, _, rfl, iteF ⟨_, rfl, rfl⟩⟩
          | true =>
            obtain ⟨r, h1, h2⟩ := hy k z
            rw [h1] at hg5
            have er : SqT K H5 r [.int (wo (f :: L) f d l l.length k).1, .int (wo (f :: L) f d l l.length k).2] := .inl (.inl (s5 _ _ (s4 _ _ h2)))
            have nk60 : nk f d l k ≤ 60 := Nat.le_trans (sg_le ..) hll
            have c1 := big (hb1 k).1 (hb1 k).2 (by omega)
            have c2 := big (hb2 k).1 (hb2 k).2 (by omega)
            have c3 := big (tb1 j).1 (tb1 j).2 (by decide)
            have c4 := big (bb1 j).1 (bb1 j).2 (by decide)
            refine ⟨_, rfl, _, rfl, wd, _, rfl, hg5, _, rfl, iteT ?_⟩
            refine ⟨_, rfl, _, rfl, _, rfl, wd, _, rfl, hg5, ixT er rfl (.inl ⟨_, _, rfl, rfl, mulB c3 c1, ?_⟩)⟩
            refine ⟨_, rfl, _, rfl, _, rfl, wd, _, rfl, hg5, ixT er rfl (.inl ⟨_, _, rfl, rfl, mulB c4 c2, ?_⟩)⟩
            exact ⟨_, rfl, rfl⟩
      · rintro _ H5 ⟨r5, rfl, rfl⟩
        rw [List.length_map, List.take_length]
        exact hN _ _ ⟨_, rfl, rfl⟩
    rintro _ H5 ⟨r5, rfl, rfl⟩
    have et : e.2.take e.2.length = e.2 := List.take_length
    have tT := tb1 e.2.length
    have tB := bb1 e.2.length
    rw [et] at tT tB
    have tT : 1 ≤ tI (f :: L) f d l e ∧ tI (f :: L) f d l e ≤ 2 ^ 880 := tT
    have tB : 1 ≤ bI (f :: L) f d l e ∧ bI (f :: L) f d l e ≤ 2 ^ 690 := tB
    have fq := form_q S e
    generalize tI (f :: L) f d l e = tp at tT fq ⊢
    generalize bI (f :: L) f d l e = bt at tB fq ⊢
    have i100 : i < 100 := by omega
    refine ⟨_, rfl, _, rfl, _, rfl, ta, t0, t1, tp, bt, rfl, .inl (.inl e5), p1, hg, p0, by omega, by omega, abs_of p0 b0 (by omega), abs_of (by omega) b1 (by omega), ?_, Int.le_trans tB.2 (ipow_le (by decide)), fun r H6 s6 e6 => ?_⟩
    · have h1 := lt_pow tT.2 (show 880 < 4000 by decide)
      have h2 : (tp.natAbs : Int) < ((2 ^ 4000 : Nat) : Int) := by
        rw [Int.natCast_pow]
        have : (tp.natAbs : Int) = tp := by omega
        rw [this]; exact h1
      exact Int.ofNat_lt.mp h2
    have pb : 0 < t1 * bt := Int.mul_pos p1 (by omega)
    have hnn : 0 ≤ t0 * bt := Int.mul_nonneg p0 (by omega)
    have hnm : 0 < tp * t1 := Int.mul_pos (by omega) p1
    have np := num_pos (t := t0 * bt + tp * t1) (b := t1 * bt) (by omega) pb
    have dp := den_pos (t := t0 * bt + tp * t1) (b := t1 * bt) (by omega)
    have nl := num_le (t := t0 * bt + tp * t1) (b := t1 * bt) (by omega)
    have dl := den_le (t := t0 * bt + tp * t1) (b := t1 * bt) (by omega)
    have ng := num_gcd (t := t0 * bt + tp * t1) (b := t1 * bt) (by omega)
    have pq' := plus_q (t0 := t0) (tp := tp) p1 (show 0 < bt by omega)
    have m1 : t0 * bt ≤ 2 ^ (900 * i + 691) := by
      refine Int.le_trans (Int.mul_le_mul b0 tB.2 (by omega) (Int.le_of_lt (Int.pow_pos (by decide)))) ?_
      rw [← Int.pow_add]; exact ipow_le (by omega)
    have m2 : tp * t1 ≤ 2 ^ (900 * i + 880) := by
      refine Int.le_trans (Int.mul_le_mul tT.2 b1 (by omega) (Int.le_of_lt (Int.pow_pos (by decide)))) ?_
      rw [← Int.pow_add]; exact ipow_le (by omega)
    have m3 : t1 * bt ≤ 2 ^ (900 * (i + 1)) := by
      refine Int.le_trans (Int.mul_le_mul b1 tB.2 (by omega) (Int.le_of_lt (Int.pow_pos (by decide)))) ?_
      rw [← Int.pow_add]; exact ipow_le (by omega)
    have m4 : t0 * bt + tp * t1 ≤ 2 ^ (900 * (i + 1) + 1) := by
      have k1 : (2 : Int) ^ (900 * i + 691) ≤ 2 ^ (900 * (i + 1)) := ipow_le (by omega)
      have k2 : (2 : Int) ^ (900 * i + 880) ≤ 2 ^ (900 * (i + 1)) := ipow_le (by omega)
      rw [Int.pow_succ]
      omega
    generalize num (t0 * bt + tp * t1) (t1 * bt) = n' at np nl ng pq' e6
    generalize den (t0 * bt + tp * t1) (t1 * bt) = d' at dp dl ng pq' e6
    refine ⟨r, n', d', _, _, _, _, _, rfl, s5.trans s6, e6, by omega, dp, ng, by omega, by omega, ?_⟩
    rw [pq', hq, List.take_add_one, he, fq]
    unfold sF
    rw [List.map_append]
    show _ = sq (_ ++ [vq (gq (f :: L) f d l) e])
    rw [sq_snoc]
  · rintro _ H5 ⟨ta, t0, t1, r5, r7, r8, r9, r10, rfl, s5, e5, p0, p1, hg, b0, b1, hq⟩
    rw [hF.1, List.take_length] at hq
    exact ⟨_, rfl, q H5 ta t0 t1 (s3.trans (s4.trans s5)) e5 p1 hg hq⟩
theorem comb_last {m t : List (Nat × List (List Nat))} {o x : Nat × List (List Nat)} (hm : m.getLast? = some o) (ht : t.getLast? = some x) : (comb m t).getLast? = some (o.1 + x.1, o.2 ++ x.2) := by
  obtain ⟨ms, rfl⟩ := List.getLast?_eq_some_iff.mp hm
  obtain ⟨ts, rfl⟩ := List.getLast?_eq_some_iff.mp ht
  unfold comb
  rw [List.map_append, List.flatten_append]
  show (_ ++ ((ms ++ [o]).map _ ++ [])).getLast? = _
  rw [List.append_nil, List.map_append, ← List.append_assoc]
  exact List.getLast?_concat ..
theorem fold_last {F : Nat → List (Nat × List (List Nat))} {p : Nat} (hF : ∀ c, ∃ x, (F c).getLast? = some x ∧ x.1 = p) : ∀ (Ls : List Nat) (m : List (Nat × List (List Nat))) (a : Nat), (∃ o, m.getLast? = some o ∧ o.1 = a) → ∃ o, (Ls.foldl (fun m c => comb m (F c)) m).getLast? = some o ∧ o.1 = a + Ls.length * p
  | [], m, a, h => by obtain ⟨o, h1, h2⟩ := h; exact ⟨o, h1, by rw [h2]; show a = a + 0 * p; omega⟩
  | c :: Ls, m, a, h => by
    obtain ⟨o, h1, h2⟩ := h
    obtain ⟨x, h3, h4⟩ := hF c
    obtain ⟨z, h5, h6⟩ := fold_last hF Ls (comb m (F c)) (a + p) ⟨_, comb_last h1 h3, by show o.1 + x.1 = _; omega⟩
    exact ⟨z, h5, by rw [h6, List.length_cons, Nat.add_mul]; omega⟩
theorem fms_last (L : List Nat) : ∀ (r : Nat) (k : List Nat), ∃ e, (fms L r k).getLast? = some e ∧ e.1 = pM L.length r
  | 0, k => ⟨_, rfl, rfl⟩
  | r + 1, k => by
    obtain ⟨o, h1, h2⟩ := fold_last (fun c => fms_last L r (k ++ [c])) L [(1, [])] 1 ⟨_, rfl, rfl⟩
    refine ⟨o, ?_, h2⟩
    show ((1, [k]) :: L.foldl (fun m c => comb m (fms L r (k ++ [c]))) [(1, [])]).getLast? = _
    rw [List.getLast?_cons, h1]; rfl
theorem atI_gl {α : Type} {xs : List α} {v : α} (h : xs.getLast? = some v) : atI xs (-1) = some v := by
  obtain ⟨ys, rfl⟩ := List.getLast?_eq_some_iff.mp h
  exact atI_last ys v
theorem Fms.last {H0 H : Hp} {xs : List V} {F : List (Nat × List (List Nat))} (h : Fms H0 H xs F) {e : Nat × List (List Nat)} (he : F.getLast? = some e) : ∃ v, atI xs (-1) = some v ∧ FmAt H0 H v e := by
  rw [List.getLast?_eq_getElem?] at he
  have hi := (List.getElem?_eq_some_iff.mp he).1
  have hx : xs.length - 1 < xs.length := by rw [h.1]; omega
  have hv := List.getElem?_eq_getElem hx
  refine ⟨_, atI_gl (by rw [List.getLast?_eq_getElem?]; exact hv), h.2 _ _ e hv (by rw [h.1]; exact he)⟩
theorem kraft (M : Nat) : ∀ F : List (Nat × List (List Nat)), (∀ e ∈ F, e.1 ≤ M) → (((F.map fun e => (2 : Int) ^ (M - e.1)).sum : Int) : Rat) = 2 ^ M * sF (fun _ => 1) F
  | [], _ => by show ((0 : Int) : Rat) = 2 ^ M * 0; have : ((0 : Int) : Rat) = 0 := rfl; grind
  | e :: F, h => by
    have ih := kraft M F fun x hx => h x (List.mem_cons_of_mem _ hx)
    have he := h e List.mem_cons_self
    have ones : ∀ ks : List (List Nat), pq (ks.map fun _ => (1 : Rat)) = 1 := fun ks => by
      induction ks with
      | nil => rfl
      | cons k ks ih => show 1 * pq (ks.map fun _ => (1 : Rat)) = 1; rw [ih]; grind
    rw [List.map_cons, List.sum_cons, Rat.intCast_add, ih, pow_q]
    show _ = 2 ^ M * (pq (e.2.map fun _ => (1 : Rat)) / 2 ^ e.1 + sF (fun _ => 1) F)
    rw [ones]
    have e1 : (2 : Rat) ^ M = 2 ^ (M - e.1) * 2 ^ e.1 := by rw [← two_add]; congr 1; omega
    have := two_ne e.1
    grind
theorem kraft_one {L : List Nat} {M r : Nat} {k : List Nat} (h : ∀ e ∈ fms L r k, e.1 ≤ M) : ((fms L r k).map fun e => (2 : Int) ^ (M - e.1)).sum = 2 ^ M := by
  have h1 := kraft M (fms L r k) h
  rw [sF_fms, mq_ones r k fun _ _ => rfl] at h1
  refine Rat.intCast_inj.mp ?_
  rw [h1, pow_q]; grind
theorem fms_pr (L : List Nat) : ∀ (r : Nat) (k : List Nat), ∀ e ∈ fms L r k, e.1 ≤ pM L.length r
  | 0, k, e, he => by cases List.mem_singleton.mp he; exact Nat.le_refl _
  | r + 1, k, e, he => by
    rcases List.mem_cons.mp he with rfl | he
    · exact Nat.le_add_right _ _
    · have h := fold_ind (F := fun c => fms L r (k ++ [c])) (R := fun pre o => o.1 ≤ 1 + pre.length * pM L.length r) (fun pre c o t a1 ht => by
          have ht := fms_pr L r (k ++ [c]) t ht
          show o.1 + t.1 ≤ _
          rw [List.length_append, Nat.add_mul]; show _ ≤ 1 + (_ + 1 * _); omega) L [] [(1, [])] (fun o ho => by cases List.mem_singleton.mp ho; exact Nat.le_add_right _ _) e he
      rw [List.nil_append] at h
      exact h
theorem sz_ok {m d : Nat} (h2 : 2 ≤ m) (h6 : m ≤ 6) (h3 : d ≤ 3) (h : d ≤ 2 ∨ m = 2) : tN m d ≤ 100 ∧ m ^ d ≤ 40 ∧ pM m d ≤ 50 := by
  have go : ∀ m ∈ List.range 7, ∀ d ∈ List.range 4, (2 ≤ m ∧ (d ≤ 2 ∨ m = 2)) → (tN m d ≤ 100 ∧ m ^ d ≤ 40 ∧ pM m d ≤ 50) := by decide +kernel
  exact go m (List.mem_range.mpr (by omega)) d (List.mem_range.mpr (by omega)) ⟨h2, h⟩
def full (m : Nat) : Nat → Sh
  | 0 => .non
  | r + 1 => .tup (List.replicate m (full m r))
theorem full_tr (m : Nat) : ∀ r, isTr m r (full m r) = true
  | 0 => rfl
  | r + 1 => by
    show (decide ((List.replicate m (full m r)).length = m) && (List.replicate m (full m r)).all (isTr m r)) = true
    rw [List.length_replicate, decide_eq_true rfl, Bool.true_and, List.all_eq_true]
    intro x hx
    rw [(List.mem_replicate.mp hx).2]; exact full_tr m r
theorem full_pr (m : Nat) : ∀ r, prOf r (full m r) = pM m r
  | 0 => rfl
  | r + 1 => by
    show 1 + ((List.replicate m (full m r)).map (prOf r)).sum = 1 + m * pM m r
    rw [List.map_replicate, full_pr m r, List.sum_replicate_nat]
def spFull (K : PySem.W.Frag) : Sp := fun vs H Q _ => ∃ m d : Nat, vs = [.int (m : Int), .int (d : Int)] ∧ m ≤ 6 ∧ d ≤ 6 ∧ ∀ H' v, Same H H' → ShAt K H' v (full m d) → Q v H'
theorem ok_L_full (T : Txt K mg t) : FnOk P w K mg base (CX1 P w) 1 t.a_L_full t.fd_L_full ["many", "depth"] (spFull K) := by
  refine T.F_L_full.okn (k := 0) sc_L_full (fun vs H Q E h => ?_) (fun cdv A outer s H vs Q E hr h => ?_)
  · obtain ⟨m, d, rfl, _⟩ := h; rfl
  obtain ⟨m, d, rfl, hm, hd, q⟩ := h
  refine ⟨_, (pss_cons (ps_set (i := 2) sc_L_full.nd rfl (Or.inr rfl) pe_non)
    (pss_cons (ps_for PassesOwn.never rfl (pi_range1 rfl T.m_range (pa_cons (pv 1) pa_nil)) (pg_name (i := 3) sc_L_full.nd rfl (Or.inl rfl)) (pss_one (ps_set (i := 2) sc_L_full.nd rfl (Or.inr rfl) (pe_callTy call_tuple_of rfl T.m_tuple bt_tuple (pa_cons (pe_lc (compSc_of (N := ["j", "tree"]) (cap := [none, some 2]) (by kernel_rfl)) rfl (pi_range1 rfl T.m_range (pa_cons (pv 0) pa_nil)) ⟨fun _ => (pg_name (i := 0) (show List.Nodup (["j", "tree"] : List Str) by decide +kernel) rfl (Or.inl rfl)), fun _ => pf_nil, fun _ => (pv 1)⟩) pa_nil)))))
    (pss_one (ps_ret (pv 2))))), ?_⟩
  refine ⟨_, rfl, _, rfl, by omega, by omega, ?_⟩
  refine for_range (fun i σ H' => ∃ (v : V) (r3 : Option V), σ = [some (.int (m : Int)), some (.int (d : Int)), some v, r3] ∧ Same H H' ∧ ShAt K H' v (full m i)) ⟨_, _, rfl, Same.refl _, .non⟩ ?_ ?_
  · rintro i _ H1 hi ⟨v, r3, rfl, s1, hv⟩
    refine ⟨_, rfl, (m : Int), rfl, by omega, by omega, fun D hD cp => ?_⟩
    refine lc_vals walk_range (caps := [some v]) (fun _ u => u = v) (fun _ => trivial) (by unfold upto; rw [List.length_map, List.length_range, sizeLine_eq]; omega) ?_ ?_
    · intro j x ys C hx hC
      exact ⟨_, rfl, hC _ rfl⟩
    intro ys hy hR
    unfold upto at hy
    rw [List.length_map, List.length_range, Int.toNat_natCast] at hy
    have s2 := same_new (o := .lst ys) hD
    refine ⟨D, ys, rfl, .inl ⟨.inl (.inl upd_same), fun r hr0 => ?_⟩⟩
    have s3 := same_new (o := .tup ys) hr0
    refine ⟨.ref r, _, rfl, s1.trans (s2.trans s3), .tup upd_same (by rw [hy, List.length_replicate]) fun j u b hu hb => ?_⟩
    rw [hR j u hu, (List.mem_replicate.mp (List.mem_of_getElem? hb)).2]
    exact (hv.same s2).same s3
  · rintro _ H1 ⟨v, r3, rfl, s1, hv⟩
    rw [Int.toNat_natCast] at hv
    exact ⟨_, rfl, q H1 v s1 hv⟩
theorem sm_of {L : List Nat} {f d : Nat} {l : List Nat} (nd : L.Nodup) (l6 : L.length ≤ 6) (fm : f ∈ L) (d6 : d ≤ 6) (al : ∀ c ∈ l, c ∈ L) (hl : l.length ≤ 61) : Sm L f d l := by
  refine ⟨nd, l6, fm, d6, by omega, ?_, al⟩
  unfold wb
  exact Nat.le_trans (Nat.mul_le_mul (show 17 + 18 * d ≤ 125 by omega) hl) (by decide)
theorem cross_q {t0 t1 a b : Int} (h1 : 0 < t1) (hb : 0 < b) (h : (t0 : Rat) / (t1 : Rat) = (a : Rat) / (b : Rat)) : t0 * b = a * t1 := by
  have n1 := ne0 (a := t1) (by omega)
  have n2 := ne0 (a := b) (by omega)
  refine Rat.intCast_inj.mp ?_
  rw [Rat.intCast_mul, Rat.intCast_mul]
  grind
theorem fr_eq {n e t0 t1 A B S1 S2 : Int} (he : 0 < e) (ht : 0 < t1) (hB : 0 < B) (hS : 0 < S2) (g1 : gcdI n e = 1) (g2 : gcdI t0 t1 = 1) (c1 : n * B = A * e) (c2 : t0 * S2 = S1 * t1) (h : S1 * B = A * S2) : t0 = n ∧ t1 = e := by
  have x : t0 * e = n * t1 := by
    refine Int.eq_of_mul_eq_mul_right (a := S2 * B) (by have := Int.mul_pos hS hB; omega) ?_
    grind
  have n1 : Nat.gcd n.natAbs e.natAbs = 1 := by unfold gcdI at g1; omega
  have n2 : Nat.gcd t0.natAbs t1.natAbs = 1 := by unfold gcdI at g2; omega
  have y : t0.natAbs * e.natAbs = n.natAbs * t1.natAbs := by rw [← Int.natAbs_mul, ← Int.natAbs_mul, x]
  have d1 : t1.natAbs ∣ e.natAbs := (Nat.Coprime.symm n2).dvd_of_dvd_mul_left (by rw [y]; exact Nat.dvd_mul_left _ _)
  have d2 : e.natAbs ∣ t1.natAbs := (Nat.Coprime.symm n1).dvd_of_dvd_mul_left (by rw [← y]; exact Nat.dvd_mul_left _ _)
  have e1 := Nat.dvd_antisymm d1 d2
  have e2 : t1 = e := by omega
  subst e2
  exact ⟨Int.eq_of_mul_eq_mul_right (by omega) x, rfl⟩
def spLaw (K : PySem.W.Frag) : Sp := fun vs H Q _ => ∃ (a : Addr) (ns : List Int), vs = [.ref a] ∧ SqL K H a (ns.map V.int) ∧ ns.length ≤ 63 ∧ (∀ n ∈ ns, Small n) ∧ ∀ H', Q (.bl true) H'
theorem ok_law (T : Txt K mg t) : FnOk P w K mg base (CX1 P w) 11 t.a_law t.fd_law ["script"] (spLaw K) := by
  refine T.F_law.okn (k := 10) sc_law (fun vs H Q E h => ?_) (fun cdv A outer s H vs Q E hr h => ?_)
  · obtain ⟨a, ns, rfl, _⟩ := h; rfl
  obtain ⟨a, ns, rfl, ha, hl, hs, q⟩ := h
  have G_L_cell_at := (ok_L_cell_at (P := P) (w := w) (base := base) T).mono (show 1 ≤ 10 by decide)
  have G_L_frame := (ok_L_frame (P := P) (w := w) (base := base) T).mono (show 2 ≤ 10 by decide)
  have G_L_text := (ok_L_text (P := P) (w := w) (base := base) T).mono (show 1 ≤ 10 by decide)
  have G_L_forms := (ok_forms_any (P := P) (w := w) (base := base) T).mono (show 7 ≤ 10 by decide)
  have G_L_sum := (ok_L_sum (P := P) (w := w) (base := base) T).mono (show 3 ≤ 10 by decide)
  have G_weight := (ok_weight (P := P) (w := w) (base := base) T).mono (show 9 ≤ 10 by decide)
  have G_L_fraction := (ok_L_fraction (P := P) (w := w) (base := base) T).mono (show 2 ≤ 10 by decide)
  have G_price := ok_price (P := P) (w := w) (base := base) T
  have G_L_full := (ok_L_full (P := P) (w := w) (base := base) T).mono (show 1 ≤ 10 by decide)
  refine ⟨_, (pss_cons (ps_set (i := 1) sc_law.nd rfl (Or.inl rfl) (pe_call G_L_cell_at hr rfl T.m_L_cell_at T.F_L_cell_at.kp T.b_L_cell_at .nil pass1 (PAs.h (pas_cons (pv 0) (pas_cons pe_int pas_nil)))))
    (pss_cons (ps_set (i := 2) sc_law.nd rfl (Or.inl rfl) (pe_call G_L_frame hr rfl T.m_L_frame T.F_L_frame.kp T.b_L_frame .nil pass1 (pa_cons (pv 1) pa_nil)))
    (pss_cons (ps_set (i := 3) sc_law.nd rfl (Or.inl rfl) (pe_callB call_len rfl T.m_len bt_len (pa_cons (pe_ix ixAny (pv 2) pe_int (fun _ _ => rfl)) pa_nil)))
    (pss_cons (ps_set (i := 4) sc_law.nd rfl (Or.inl rfl) (pe_op op_mod (pe_op op_fdivL (pv 1) pe_int) pe_int))
    (pss_cons (ps_if (pt_cmpR (oEqA (hr.units0)) (pv 3) pe_int (nomark _)) (pss_one (ps_set (i := 4) sc_law.nd rfl (Or.inl rfl) (pe_op op_mod (pe_op op_fdivL (pv 1) pe_int) pe_int))) pss_nil)
    (pss_cons (ps_set (i := 2) sc_law.nd rfl (Or.inl rfl) (pe_tup (PAs.h (pas_cons (pe_ix ixAny (pv 2) pe_int (fun _ _ => rfl)) (pas_cons (pv 4) pas_nil)))))
    (pss_cons (ps_set (i := 5) sc_law.nd rfl (Or.inl rfl) (pe_call G_L_text hr rfl T.m_L_text T.F_L_text.kp T.b_L_text .nil pass1 (PAs.h (pas_cons (pe_slice slAny (pv 0) (po_some pe_int) (po_some pe_int)) (pas_cons (pe_ix ixAny (pv 2) pe_int (fun _ _ => rfl)) (pas_cons (pe_cmpR (oEqA (hr.units0)) (pe_op op_mod (pe_call G_L_cell_at hr rfl T.m_L_cell_at T.F_L_cell_at.kp T.b_L_cell_at .nil pass1 (PAs.h (pas_cons (pv 0) (pas_cons pe_int pas_nil)))) pe_int) pe_int (nomark _)) pas_nil))))))
    (pss_cons (ps_set (i := 6) sc_law.nd rfl (Or.inl rfl) (pe_call G_L_forms hr rfl T.m_L_forms T.F_L_forms.kp T.b_L_forms .nil pass1 (PAs.h (pas_cons (pe_ix ixAny (pv 2) pe_int (fun _ _ => rfl)) (pas_cons pe_str (pas_cons (pv 4) pas_nil))))))
    (pss_cons (ps_set (i := 7) sc_law.nd rfl (Or.inl rfl) (pe_call G_L_sum hr rfl T.m_L_sum T.F_L_sum.kp T.b_L_sum .nil pass1 (PAs.h (pas_cons (pv 2) (pas_cons (pv 5) (pas_cons (pv 6) pas_nil))))))
    (pss_cons (ps_if (pt_not (pt_val (pe_call G_L_fraction hr rfl T.m_L_fraction T.F_L_fraction.kp T.b_L_fraction .nil pass1 (PAs.h (pas_cons (pe_call G_weight hr rfl T.m_weight T.F_weight.kp T.b_weight .nil pass1 (PAs.h (pas_cons (pv 2) (pas_cons (pv 5) pas_nil)))) (pas_cons (pe_ix ixAny (pv 7) pe_int (fun _ _ => rfl)) (pas_cons (pe_ix ixAny (pv 7) pe_int (fun _ _ => rfl)) pas_nil))))))) (pss_one (ps_ret pe_bl)) pss_nil)
    (pss_cons (ps_set (i := 8) sc_law.nd rfl (Or.inr rfl) (pe_ix ixAny (pe_ix ixAny (pv 6) (pe_un un_neg pe_int) (fun _ _ => rfl)) pe_int (fun _ _ => rfl)))
    (pss_cons (ps_if (pt_cmpR (oNeN (hr.units0)) (pe_call G_price hr rfl T.m_price T.F_price.kp T.b_price .nil pass1 (PAs.h (pas_cons (pv 2) (pas_cons (pe_call G_L_full hr rfl T.m_L_full T.F_L_full.kp T.b_L_full .nil pass1 (PAs.h (pas_cons (pv 3) (pas_cons (pv 4) pas_nil)))) pas_nil)))) (pv 8) (nomark _)) (pss_one (ps_ret pe_bl)) pss_nil)
    (pss_one (ps_ret (pe_cmpR (oEqA (hr.units0)) (pe_callB (callSum rfl) rfl T.m_sum bt_sum (pa_cons (pe_lc (compSc_of (N := ["form", "dearest"]) (cap := [none, some 8]) (by kernel_rfl)) rfl (piAny (pv 6)) ⟨fun _ => (pg_name (i := 0) (show List.Nodup (["form", "dearest"] : List Str) by decide +kernel) rfl (Or.inl rfl)), fun _ => pf_nil, fun _ => (pe_op op_shlN pe_int (pe_op op_sub (pv 1) (pe_ix ixAny (pv 0) pe_int (fun _ _ => rfl))))⟩) pa_nil)) (pe_op op_shlN pe_int (pv 8)) (nomark _)))))))))))))))), ?_⟩
  refine ⟨_, rfl, a, ns, 0, rfl, ha, by decide, ?_⟩
  have sm0 := cellN_small hs 0
  show gName 1 (V.int (cellN ns 0)) _ _ _
  generalize cellN ns 0 = cell at sm0 ⊢
  refine ⟨_, rfl, cell, rfl, sm0, fun LL S d0 H1 f1 hL2 hL6 hDr hd0 s1 _ e1 => ?_⟩
  obtain ⟨f, L, rfl⟩ : ∃ f L', LL = f :: L' := by
    cases LL with
    | nil => simp at hL2
    | cons f L' => exact ⟨f, L', rfl⟩
  have zL : (f :: L).length ≤ sizeLine := by rw [sizeLine_eq]; omega
  have h16 : ∀ c ∈ f :: L, c < 16 ^ 8 := fun c hc => Nat.lt_trans (signs_lt c (hDr.mem c hc)).2.1 (by decide)
  refine ⟨_, rfl, ixT (.inl (.inl e1)) rfl ⟨_, _, rfl, lenvS zL, ?_⟩⟩
  refine ⟨_, rfl, _, _, rfl, rfl, cdivK (by decide) (by decide), _, _, rfl, rfl, (by show (0 : Int) < 3; decide), ?_⟩
  have a0 := Int.emod_nonneg (cell.fdiv 5) (show (3 : Int) ≠ 0 by decide)
  have a1 := Int.emod_lt_of_pos (cell.fdiv 5) (show (0 : Int) < 3 by decide)
  have b0 := Int.emod_nonneg (cell.fdiv 5) (show (4 : Int) ≠ 0 by decide)
  have b1 := Int.emod_lt_of_pos (cell.fdiv 5) (show (0 : Int) < 4 by decide)
  dsimp (config := { eta := false, zeta := false, iota := false }) only [gName]
  show tSeq (tIfS _ _ _) _ _ [some (.ref a), some (.int cell), some (.ref f1), some (.int ((f :: L).length : Nat)), some (.int (cell.fdiv 5 % 3)), none, none, none, none] H1
  refine meet (fun σ H' => ∃ d : Nat, d ≤ 3 ∧ (d ≤ 2 ∨ (f :: L).length = 2) ∧ σ = [some (.ref a), some (.int cell), some (.ref f1), some (.int ((f :: L).length : Nat)), some (.int (d : Int)), none, none, none, none] ∧ H' = H1) (fun N hN => ?_) ?_
  · refine ⟨_, rfl, .inl ⟨rfl, _, rfl, if2 (fun z => ?_) (fun _ => ?_)⟩⟩
    · have hm : (f :: L).length = 2 := by have := V.int.inj z; omega
      refine ⟨_, rfl, _, _, rfl, rfl, cdivK (by decide) (by decide), _, _, rfl, rfl, (by show (0 : Int) < 4; decide), hN _ _ ⟨(cell.fdiv 5 % 4).toNat, by omega, .inr hm, ?_, rfl⟩⟩
      rw [Int.toNat_of_nonneg b0]; rfl
    · refine hN _ _ ⟨(cell.fdiv 5 % 3).toNat, by omega, .inl (by omega), ?_, rfl⟩
      rw [Int.toNat_of_nonneg a0]
  rintro _ H1 ⟨d, hd, hdm, rfl, rfl⟩
  obtain ⟨z1, z2, z3⟩ := sz_ok hL2 hL6 hd hdm
  refine ⟨_, rfl, ixT (.inl (.inl e1)) rfl ⟨_, rfl, by rw [sizeLine_eq]; show 2 ≤ _; decide, fun fr hfr => ?_⟩⟩
  have s2 := new_same (o := .tup [vt (f :: L), .int (d : Int)]) hfr s1
  have e2 : upd H1 fr (.tup [vt (f :: L), .int (d : Int)]) fr = some (.tup [vt (f :: L), .int (d : Int)]) := upd_same
  try dsimp (config := { proj := false, eta := false, zeta := false, iota := false }) only [tNil, tC]
  generalize upd H1 fr (.tup [vt (f :: L), .int (d : Int)]) = H2 at s2 e2 ⊢
  have hF2 : SqT K H2 fr [vt (f :: L), .int d] := .inl (.inl e2)
  refine ⟨_, rfl, _, rfl, _, rfl, .inl ⟨a, _, rfl, same_lst s2 ha, fun p1 h1 => ?_⟩⟩
  rw [cut_ints]
  have h60 := cutN_60 ns
  have s3 : Same H (upd H2 p1 (.lst ((cutN ns (some 3) (some 63)).map V.int))) := new_same h1 s2
  have e3 : upd H2 p1 (.lst ((cutN ns (some 3) (some 63)).map V.int)) p1 = some (.lst ((cutN ns (some 3) (some 63)).map V.int)) := upd_same
  have hF3 := new_tup (o := .lst ((cutN ns (some 3) (some 63)).map V.int)) h1 hF2
  generalize cutN ns (some 3) (some 63) = ms at h60 s3 e3 hF3 ⊢
  generalize upd H2 p1 (.lst (ms.map V.int)) = H3 at s3 e3 hF3 ⊢
  refine ⟨_, rfl, ixT hF3 rfl ⟨_, rfl, a, ns, 1, rfl, same_lst s3 ha, by decide, _, _, rfl, rfl, (by show (0 : Int) < 2; decide), .inl ⟨rfl, ?_⟩⟩⟩
  refine ⟨p1, ms, f :: L, _, rfl, .inl (.inl e3), hL2, hL6, by omega, fun l hlL hll => ?_⟩
  have hl60 : l.length ≤ 60 := by omega
  have S := sm_of (f := f) (d := d) hDr.nodup hL6 List.mem_cons_self (by omega) hlL (by omega)
  refine ⟨_, rfl, ixT hF3 rfl ⟨_, rfl, d, by omega, f :: L, [], by rw [← str_nil0]; rfl, by omega, hL6, z1, z2, by show 0 + d ≤ 10; omega, fun H4 fa xs s4 _ e4 hFm => ?_⟩⟩
  have hF4 := same_tup s4 hF3
  have hFo := fms_ok S d [] (by show 0 + d = d; omega)
  have hFe : ∀ e ∈ fms (f :: L) d [], e.1 ≤ 50 ∧ e.2.length ≤ 40 ∧ (e.2.map (nk f d l)).sum ≤ 60 := fun e he => by
    have h := hFo e he
    exact ⟨Nat.le_trans h.pr z3, Nat.le_trans h.le z2, Nat.le_trans h.ct (Nat.le_trans (sg_le ..) hl60)⟩
  have hsq : sF (gq (f :: L) f d l) (fms (f :: L) d []) = wq (wv (f :: L) f d l l.length d []) := by
    rw [sF_fms, wv_mq S d [] (by show 0 + d = d; omega)]; rfl
  have hpr := fms_pr (f :: L) d []
  have hkr := kraft_one hpr
  have hlen : (fms (f :: L) d []).length ≤ 100 := by rw [fms_len]; exact z1
  obtain ⟨le, hle, lep⟩ := fms_last (f :: L) d []
  generalize fms (f :: L) d [] = F at hFm hFo hFe hsq hpr hkr hlen hle
  refine ⟨_, rfl, _, rfl, _, rfl, fr, fa, f, L, l, d, _, xs, F, rfl, hF4, S, hl60, e4, hFm, hlen, hFe, fun H5 du t0 t1 s5 e5 t1p hg hq => ?_⟩
  have hF5 := same_tup s5 hF4
  have hP := wv_ok S (Nat.le_refl _) d [] (by simp)
  have hP9 := hP.mono (e' := 8900) (Nat.le_trans (by unfold wb; exact Nat.mul_le_mul_left _ (sg_le ..)) S.lb)
  have hW1 := hP9.a1
  have hW2 := hP9.b1
  rw [hsq] at hq
  have hc := cross_q t1p (show 0 < (wv (f :: L) f d l l.length d []).2 by omega) hq
  refine ⟨_, rfl, _, rfl, fr, f, L, l, d, rfl, hF5, hL6, by omega, by omega, (fun c hc => h16 c (hlL c hc)), (fun ⟨c, h1, h2⟩ => absurd (hlL c h1) h2), fun _ => ⟨S, fun H6 z s6 hz => ?_⟩⟩
  obtain ⟨zp, n, dd, rfl, hz1, n0, d0, cr, gc, l1, l2⟩ := hz
  obtain ⟨en, ed⟩ := fr_eq d0 t1p (show 0 < (wv (f :: L) f d l l.length d []).2 by omega) (show 0 < (wv (f :: L) f d l l.length d []).2 by omega) gc hg cr hc rfl
  subst en ed
  have hdu : SqT K H6 du [.int t0, .int t1] := .inl (.inl (s6 _ _ e5))
  have c1 : t0 < 2 ^ 8990 := lt_pow (Int.le_trans l1 hP9.ab) (by decide)
  have c2 : t1 < 2 ^ 8990 := lt_pow (Int.le_trans l2 hP9.bb) (by decide)
  refine ⟨_, rfl, ixT hdu rfl ⟨_, rfl, ixT hdu rfl ⟨_, t0, t1, rfl, ⟨zp, t0, t1, rfl, hz1, n0, t1p, rfl, gc, Int.le_refl _, Int.le_refl _⟩, c1, c2, true, rfl, iteF ?_⟩⟩⟩
  have s56 := s5.trans s6
  have e6 := s56 _ _ e4
  have hFm6 := hFm.same s56
  have hF6 := same_tup s6 hF5
  obtain ⟨v, hv, va, vq', rfl, _, _, ev1, ev2⟩ := hFm6.last hle
  refine ⟨_, rfl, _, rfl, ixL (.inl (.inl e6)) hv (ixT (.inl (.inl ev1)) rfl ?_)⟩
  try dsimp (config := { proj := false, eta := false, zeta := false, iota := false }) only [tNil, tC]
  rw [lep]
  refine ⟨_, rfl, _, rfl, _, rfl, (f :: L).length, d, rfl, hL6, by omega, fun H7 tr s7 htr => ?_⟩
  refine ⟨fr, f :: L, d, tr, full (f :: L).length d, rfl, same_tup s7 hF6, by omega, by omega, htr, fun _ H8 s8 => ?_, fun z => ?_⟩
  rotate_left
  · rw [full_tr] at z; cases z
  rw [full_pr]
  refine ⟨_, rfl, .inl ⟨rfl, _, rfl, ifnF rfl ?_⟩⟩
  have s68 := s7.trans s8
  have e8 := s68 _ _ e6
  have hFm8 := hFm6.same s68
  have pM50 : pM (f :: L).length d ≤ 50 := z3
  generalize pM (f :: L).length d = M at hpr hkr pM50 ⊢
  refine ⟨_, rfl, .inl ⟨fa, xs, rfl, .inl (.inl e8), fun D hD cp => ?_⟩⟩
  have nD : ∀ {b : Addr} {o : HO}, H8 b = some o → b ≠ D := fun e z => by rw [z, hD] at e; cases e
  refine lc_vals (walk_list (xs := xs)) (caps := [some (.int (M : Int))]) (fun j v => ∀ e, F[j]? = some e → v = .int (2 ^ (M - e.1))) (fun ys => .inl (.inl (by rw [upd_ne (nD e8)]; exact e8))) (by rw [hFm8.1, sizeLine_eq]; omega) ?_ ?_
  · intro j x ys C hx hC
    have hj := (List.getElem?_eq_some_iff.mp hx).1
    have hj2 : j < F.length := by rw [← hFm8.1]; exact hj
    have he := List.getElem?_eq_getElem hj2
    obtain ⟨xa, xq, rfl, _, _, ex1, ex2⟩ := hFm8.2 j x _ hx he
    have hep := hpr _ (List.getElem_mem hj2)
    have ex9 : upd H8 D (.lst ys) xa = some (.tup [.int (F[j].1 : Int), .ref xq]) := by rw [upd_ne (nD ex1)]; exact ex1
    refine ⟨_, rfl, _, rfl, ixT (.inl (.inl ex9)) rfl ⟨_, _, rfl, rfl, _, _, rfl, rfl, ⟨by omega, by omega, by show (1 : Int).natAbs < _; exact Nat.one_lt_two_pow (by decide)⟩, hC _ fun e he' => ?_⟩⟩
    rw [he] at he'
    cases he'
    try dsimp (config := { proj := false, eta := false, zeta := false, iota := false }) only [tNil, tC]
    rw [Int.one_mul, show ((M : Int) - (F[j].1 : Int)).toNat = M - F[j].1 by omega]
  intro ys hy hR
  have eys : ys = (F.map fun e => (2 : Int) ^ (M - e.1)).map V.int := by
    rw [List.map_map]
    refine List.ext_getElem? fun j => ?_
    rw [List.getElem?_map]
    by_cases hj : j < F.length
    · rw [List.getElem?_eq_getElem hj, List.getElem?_eq_getElem (show j < ys.length by rw [hy, hFm8.1]; exact hj)]
      exact congrArg some (hR j _ (List.getElem?_eq_getElem (show j < ys.length by rw [hy, hFm8.1]; exact hj)) _ (List.getElem?_eq_getElem hj))
    · rw [List.getElem?_eq_none (by rw [hy, hFm8.1]; omega), List.getElem?_eq_none (by omega)]; rfl
  refine ⟨D, _, rfl, .inl (.inl (by rw [eys]; exact upd_same)), ?_⟩
  refine ⟨_, rfl, _, _, rfl, rfl, ⟨by omega, by omega, by show (1 : Int).natAbs < _; exact Nat.one_lt_two_pow (by decide)⟩, .inl ⟨rfl, ?_⟩⟩
  rw [hkr, decide_eq_true (show V.int (2 ^ M) = V.int (1 * 2 ^ (M : Int).toNat) by rw [Int.toNat_natCast, Int.one_mul])]
  exact q _
end
theorem fin {P : Program} {w : World} {K : PySem.W.Frag} {mg : Str → Option Value} {fa : Addr} (hmg : mg "law" = some (.ref fa)) (h : ∃ t, Txt K mg t) :
    ∃ fd : FuncData, (∀ (s : Shared) (v : Value), BindsTo s fd ⟨[v], []⟩ [("script", v)]) ∧ ∀ base : Heap, K.In base → base.Ns mainGlobals mg → FnOk P w K mg base (CX1 P w) 11 fa fd ["script"] (spLaw K) := by
  obtain ⟨t, T⟩ := h
  have e := hmg.symm.trans T.m_law
  cases e
  exact ⟨_, T.bl, fun base _ _ => ok_law T⟩
theorem walk {l : PySem.W.OpenLaw} {q : Program} {loose : List Str} {XP : (Str → Option Value) → Heap → Prop} {YP : World → Heap → Prop} {d : DefRec} {K : Params → PySem.W.Frag} (hn : l.most = some 63) (hdf : d.params.defaults = [])
    (hY : ∀ (w : World) (h : Heap), YP w h → (K w.params).In h)
    (F : ∀ (w : World) (mg : Str → Option Value) (fa : Addr) (h : Heap), (K w.params).In h → h.Ns mainGlobals mg → mg d.name = some (.ref fa) →
      ∃ fd : FuncData, (∀ (s : Shared) (u : Value), BindsTo s fd ⟨[u], []⟩ [("script", u)]) ∧ ∀ base : Heap, (K w.params).In base → base.Ns mainGlobals mg → FnOk l.prog w (K w.params) mg base (CX1 l.prog w) 11 fa fd ["script"] (spLaw (K w.params))) :
    PySem.W.WalkO q loose XP YP l.row.toRowW d [] (fun f vs => PySem.call f vs) :=
  L2.walk_b (n := 63) (k := 11) (x := "script") (CX := fun w => CX1 l.prog w) (sp := fun w => spLaw (K w.params)) hn (by decide) hdf ⟨rfl, by decide, by decide⟩ hY F (fun _ _ a ns hl hb _ hS => ⟨a, ns, rfl, hS, hl, hb, fun _ => rfl⟩) fun _ _ _ _ _ z => cx1_none z
end Bp
theorem PySem.W.Fast.tw7258654148234148247 : True := .intro
theorem PySem.W.Fast.tw16705177719745070184 : True := .intro
theorem PySem.W.Fast.tw103287859391507636 : True := .intro
theorem PySem.W.Fast.tw14787984147818822343 : True := .intro
theorem PySem.W.Fast.tw10836747600176573677 : True := .intro
theorem PySem.W.Fast.tw8996783779279512433 : True := .intro
theorem PySem.W.Fast.tw7378784888491164436 : True := .intro
theorem PySem.W.Fast.tw109964467144256814 : True := .intro
theorem PySem.W.Fast.tw954024010165730410 : True := .intro
theorem PySem.W.Fast.tw18225463651971589276 : True := .intro
theorem PySem.W.Fast.tw17372384311302218823 : True := .intro
theorem PySem.W.Fast.tw17698575073617935235 : True := .intro
theorem PySem.W.Fast.tw1970832255668055637 : True := .intro
theorem PySem.W.Fast.tw6917883026720342260 : True := .intro
theorem PySem.W.Fast.tw6308408780823036194 : True := .intro
theorem PySem.W.Fast.tw830686005206434653 : True := .intro
theorem PySem.W.Fast.tw9510448189935819681 : True := .intro
theorem PySem.W.Fast.tw13805966393268280485 : True := .intro
theorem PySem.W.Fast.tw13856556675672481671 : True := .intro
theorem PySem.W.Fast.tw16133914372641395200 : True := .intro
theorem PySem.W.Fast.tw8432207698303749701 : True := .intro
theorem PySem.W.Fast.tw16191680663645820709 : True := .intro
theorem PySem.W.Fast.tw9929088151920404898 : True := .intro
theorem PySem.W.Fast.tw1471042813557508568 : True := .intro
open PySem PySem.W PyProof.Rows
set_option maxRecDepth 100000 in
set_option maxHeartbeats 0 in
theorem PySem.Challenge.cw_boughpress_k42_whole_all_trees_weighed_holds : PySem.Challenge.rw_boughpress_k42_whole_all_trees_weighed.Holds := by
  w_on; o_law; k_head; (case hw => w_witness2)
  k_fill
  refine Bp.walk (l := PySem.Challenge.rw_boughpress_k42_whole_all_trees_weighed) rfl rfl (fun w h Y => PySem.W.kIn_of Y) ?F
  case F =>
    intro w mg fa h KX G hmg
    refine Bp.fin hmg ?_
    refine' Bp.txt_mk KX G ?n_is_whole ?l_is_whole ?o_is_whole ?k_is_whole ?n_checked ?l_checked ?o_checked ?k_checked ?n_elders_at ?l_elders_at ?o_elders_at ?k_elders_at ?n_no_counts ?l_no_counts ?o_no_counts ?k_no_counts ?n_greatest_divisor ?l_greatest_divisor ?o_greatest_divisor ?k_greatest_divisor ?n_fraction ?l_fraction ?o_fraction ?k_fraction ?n_plus ?l_plus ?o_plus ?k_plus ?n_times ?l_times ?o_times ?k_times ?n_half ?l_half ?o_half ?k_half ?n_product ?l_product ?o_product ?k_product ?n_share ?l_share ?o_share ?k_share ?n_raised ?l_raised ?o_raised ?k_raised ?n_grown ?l_grown ?o_grown ?k_grown ?n_weight ?l_weight ?o_weight ?k_weight ?n_is_tree_of ?l_is_tree_of ?o_is_tree_of ?k_is_tree_of ?n_is_tree ?l_is_tree ?o_is_tree ?k_is_tree ?n_checked_tree ?l_checked_tree ?o_checked_tree ?k_checked_tree ?n_price_of ?l_price_of ?o_price_of ?k_price_of ?n_price ?l_price ?o_price ?k_price ?n_L_cell_at ?l_L_cell_at ?o_L_cell_at ?k_L_cell_at ?n_L_signs ?l_L_signs ?o_L_signs ?k_L_signs ?n_L_frame ?l_L_frame ?o_L_frame ?k_L_frame ?n_L_text ?l_L_text ?o_L_text ?k_L_text ?n_L_elders ?l_L_elders ?o_L_elders ?k_L_elders ?n_L_whole ?l_L_whole ?o_L_whole ?k_L_whole ?n_L_divisor ?l_L_divisor ?o_L_divisor ?k_L_divisor ?n_L_fraction ?l_L_fraction ?o_L_fraction ?k_L_fraction ?n_L_came ?l_L_came ?o_L_came ?k_L_came ?n_L_worth ?l_L_worth ?o_L_worth ?k_L_worth ?n_L_forms ?l_L_forms ?o_L_forms ?k_L_forms ?n_L_full ?l_L_full ?o_L_full ?k_L_full ?n_L_plus ?l_L_plus ?o_L_plus ?k_L_plus ?n_L_sum ?l_L_sum ?o_L_sum ?k_L_sum ?n_law ?l_law ?o_law ?k_law ?n_Growth ?n_Growth_init ?i_Growth_init ?l_Growth_init ?o_Growth_init ?k_Growth_init ?n_Growth_entry ?i_Growth_entry ?l_Growth_entry ?o_Growth_entry ?k_Growth_entry ?n_Growth_branching ?i_Growth_branching ?l_Growth_branching ?o_Growth_branching ?k_Growth_branching ?n_Growth_changes ?i_Growth_changes ?l_Growth_changes ?o_Growth_changes ?k_Growth_changes ?n_Growth_weight ?i_Growth_weight ?l_Growth_weight ?o_Growth_weight ?k_Growth_weight ?n_Growth_grow ?i_Growth_grow ?l_Growth_grow ?o_Growth_grow ?k_Growth_grow ?pg_Growth ?hd_Growth ?po_Growth ?sa_Growth ?mk_Growth ?kc_Growth ?na_Growth_frame ?na_Growth_replaced ?na_Growth_table ?na_Growth_text ?n_abs ?n_all ?n_bool ?n_int ?n_isinstance ?n_len ?n_list ?n_max ?n_range ?n_reversed ?n_sum ?n_tuple ?n_NoFraction ?n_NoText ?n_NoTree ?n_COUNTS ?n_WORTH ?n_WEIGHT ?n_ONE ?lk_ONE ?x_NoFraction ?zga_NoFraction ?zgt_NoFraction ?zcl_NoFraction ?zob_NoFraction ?zbe_NoFraction ?x_NoText ?zga_NoText ?zgt_NoText ?zcl_NoText ?zob_NoText ?zbe_NoText ?x_NoTree ?zga_NoTree ?zgt_NoTree ?zcl_NoTree ?zob_NoTree ?zbe_NoTree
    (case n_is_whole => k_is)
    (case l_is_whole => k_is)
    (case o_is_whole => k_is)
    (case k_is_whole => k_is)
    (case n_checked => k_is)
    (case l_checked => k_is)
    (case o_checked => k_is)
    (case k_checked => k_is)
    (case n_elders_at => k_is)
    (case l_elders_at => k_is)
    (case o_elders_at => k_is)
    (case k_elders_at => k_is)
    (case n_no_counts => k_is)
    (case l_no_counts => k_is)
    (case o_no_counts => k_is)
    (case k_no_counts => k_is)
    (case n_greatest_divisor => k_is)
    (case l_greatest_divisor => k_is)
    (case o_greatest_divisor => k_is)
    (case k_greatest_divisor => k_is)
    (case n_fraction => k_is)
    (case l_fraction => k_is)
    (case o_fraction => k_is)
    (case k_fraction => k_is)
    (case n_plus => k_is)
    (case l_plus => k_is)
    (case o_plus => k_is)
    (case k_plus => k_is)
    (case n_times => k_is)
    (case l_times => k_is)
    (case o_times => k_is)
    (case k_times => k_is)
    (case n_half => k_is)
    (case l_half => k_is)
    (case o_half => k_is)
    (case k_half => k_is)
    (case n_product => k_is)
    (case l_product => k_is)
    (case o_product => k_is)
    (case k_product => k_is)
    (case n_share => k_is)
    (case l_share => k_is)
    (case o_share => k_is)
    (case k_share => k_is)
    (case n_raised => k_is)
    (case l_raised => k_is)
    (case o_raised => k_is)
    (case k_raised => k_is)
    (case n_grown => k_is)
    (case l_grown => k_is)
    (case o_grown => k_is)
    (case k_grown => k_is)
    (case n_weight => k_is)
    (case l_weight => k_is)
    (case o_weight => k_is)
    (case k_weight => k_is)
    (case n_is_tree_of => k_is)
    (case l_is_tree_of => k_is)
    (case o_is_tree_of => k_is)
    (case k_is_tree_of => k_is)
    (case n_is_tree => k_is)
    (case l_is_tree => k_is)
    (case o_is_tree => k_is)
    (case k_is_tree => k_is)
    (case n_checked_tree => k_is)
    (case l_checked_tree => k_is)
    (case o_checked_tree => k_is)
    (case k_checked_tree => k_is)
    (case n_price_of => k_is)
    (case l_price_of => k_is)
    (case o_price_of => k_is)
    (case k_price_of => k_is)
    (case n_price => k_is)
    (case l_price => k_is)
    (case o_price => k_is)
    (case k_price => k_is)
    (case n_L_cell_at => k_is)
    (case l_L_cell_at => k_is)
    (case o_L_cell_at => k_is)
    (case k_L_cell_at => k_is)
    (case n_L_signs => k_is)
    (case l_L_signs => k_is)
    (case o_L_signs => k_is)
    (case k_L_signs => k_is)
    (case n_L_frame => k_is)
    (case l_L_frame => k_is)
    (case o_L_frame => k_is)
    (case k_L_frame => k_is)
    (case n_L_text => k_is)
    (case l_L_text => k_is)
    (case o_L_text => k_is)
    (case k_L_text => k_is)
    (case n_L_elders => k_is)
    (case l_L_elders => k_is)
    (case o_L_elders => k_is)
    (case k_L_elders => k_is)
    (case n_L_whole => k_is)
    (case l_L_whole => k_is)
    (case o_L_whole => k_is)
    (case k_L_whole => k_is)
    (case n_L_divisor => k_is)
    (case l_L_divisor => k_is)
    (case o_L_divisor => k_is)
    (case k_L_divisor => k_is)
    (case n_L_fraction => k_is)
    (case l_L_fraction => k_is)
    (case o_L_fraction => k_is)
    (case k_L_fraction => k_is)
    (case n_L_came => k_is)
    (case l_L_came => k_is)
    (case o_L_came => k_is)
    (case k_L_came => k_is)
    (case n_L_worth => k_is)
    (case l_L_worth => k_is)
    (case o_L_worth => k_is)
    (case k_L_worth => k_is)
    (case n_L_forms => k_is)
    (case l_L_forms => k_is)
    (case o_L_forms => k_is)
    (case k_L_forms => k_is)
    (case n_L_full => k_is)
    (case l_L_full => k_is)
    (case o_L_full => k_is)
    (case k_L_full => k_is)
    (case n_L_plus => k_is)
    (case l_L_plus => k_is)
    (case o_L_plus => k_is)
    (case k_L_plus => k_is)
    (case n_L_sum => k_is)
    (case l_L_sum => k_is)
    (case o_L_sum => k_is)
    (case k_L_sum => k_is)
    (case n_law => k_is)
    (case l_law => k_is)
    (case o_law => k_is)
    (case k_law => k_is)
    (case n_Growth => k_is)
    (case n_Growth_init => k_is)
    (case i_Growth_init => k_is)
    (case l_Growth_init => k_is)
    (case o_Growth_init => k_is)
    (case k_Growth_init => k_is)
    (case n_Growth_entry => k_is)
    (case i_Growth_entry => k_is)
    (case l_Growth_entry => k_is)
    (case o_Growth_entry => k_is)
    (case k_Growth_entry => k_is)
    (case n_Growth_branching => k_is)
    (case i_Growth_branching => k_is)
    (case l_Growth_branching => k_is)
    (case o_Growth_branching => k_is)
    (case k_Growth_branching => k_is)
    (case n_Growth_changes => k_is)
    (case i_Growth_changes => k_is)
    (case l_Growth_changes => k_is)
    (case o_Growth_changes => k_is)
    (case k_Growth_changes => k_is)
    (case n_Growth_weight => k_is)
    (case i_Growth_weight => k_is)
    (case l_Growth_weight => k_is)
    (case o_Growth_weight => k_is)
    (case k_Growth_weight => k_is)
    (case n_Growth_grow => k_is)
    (case i_Growth_grow => k_is)
    (case l_Growth_grow => k_is)
    (case o_Growth_grow => k_is)
    (case k_Growth_grow => k_is)
    (case pg_Growth => k_is)
    (case hd_Growth => k_is)
    (case po_Growth => k_is)
    (case sa_Growth => k_is)
    (case mk_Growth => k_is)
    (case kc_Growth => k_is)
    (case na_Growth_frame => k_is)
    (case na_Growth_replaced => k_is)
    (case na_Growth_table => k_is)
    (case na_Growth_text => k_is)
    (case n_abs => k_is)
    (case n_all => k_is)
    (case n_bool => k_is)
    (case n_int => k_is)
    (case n_isinstance => k_is)
    (case n_len => k_is)
    (case n_list => k_is)
    (case n_max => k_is)
    (case n_range => k_is)
    (case n_reversed => k_is)
    (case n_sum => k_is)
    (case n_tuple => k_is)
    (case n_NoFraction => k_is)
    (case n_NoText => k_is)
    (case n_NoTree => k_is)
    (case n_COUNTS => k_is)
    (case n_WORTH => k_is)
    (case n_WEIGHT => k_is)
    (case n_ONE => k_is)
    (case lk_ONE => k_is)
    (case x_NoFraction => k_exc)
    (case zga_NoFraction => k_is)
    (case zgt_NoFraction => k_is)
    (case zcl_NoFraction => k_is)
    (case zob_NoFraction => k_is)
    (case zbe_NoFraction => k_is)
    (case x_NoText => k_exc)
    (case zga_NoText => k_is)
    (case zgt_NoText => k_is)
    (case zcl_NoText => k_is)
    (case zob_NoText => k_is)
    (case zbe_NoText => k_is)
    (case x_NoTree => k_exc)
    (case zga_NoTree => k_is)
    (case zgt_NoTree => k_is)
    (case zcl_NoTree => k_is)
    (case zob_NoTree => k_is)
    (case zbe_NoTree => k_is)
#print axioms PySem.Challenge.cw_boughpress_k42_whole_all_trees_weighed_holds
