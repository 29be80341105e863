import PyProof.Rows.All
import Wide.All
import OpenK.AllK
import Wide.FinOn
import Lean
import PyProof.EqAt
import PyProof.EqKinds
import PyProof.TupleCall
import KE.KDictLaws
import KE.KIntText
import KE.KRevIter
import PyProof.Draws
import PyProof.EnumMake
import PyProof.JoinWalk
import PyProof.MinMaxWalk
import PyProof.NeKinds
import PyProof.Rows.CallKw2
import PyProof.Rows.SortWalk
import PyProof.Rows.StrPadFill
import PyProof.Rows.StrRev
import PyProof.SeqI3
import PyProof.SumAny
import PyProof.WalkInts
import PyProof.ZipIter
import PySem.Challenge.RW_boughpress_k35_trees_written
set_option Elab.async false
set_option linter.all false
set_option maxRecDepth 100000
namespace L2
open PySem PySem.Spec PyProof.Rows
abbrev Key := Sum Int Str
def keyIs : Key → Value → Bool
  | .inl k, v => Value.isInt k v
  | .inr x, v => Value.isStrOf x v
def keyH (w : World) : Key → Int
  | .inl k => hashInt k
  | .inr x => hashStr w x
theorem keyIs_shape : ∀ {k : Key} {v : Value}, keyIs k v = true → (∃ i t, k = Sum.inl i ∧ v = Value.int i t) ∨ (∃ x t, k = Sum.inr x ∧ v = Value.str x t)
  | .inl i, v, h => by
    obtain ⟨t, e⟩ := Value.isInt_shape (k := i) (v := v) h
    exact .inl ⟨i, t, rfl, e⟩
  | .inr x, v, h => by
    obtain ⟨t, e⟩ := Value.isStrOf_shape (x := x) (v := v) h
    exact .inr ⟨x, t, rfl, e⟩
theorem key_ll (a b : Int) : decide ((Sum.inl a : Key) = Sum.inl b) = (a == b) := by
  by_cases e : a = b
  · subst e; simp
  · have h : ¬ (Sum.inl a : Key) = Sum.inl b := fun q => e (Sum.inl.inj q)
    rw [decide_eq_false h]
    exact (beq_eq_false_iff_ne.mpr e).symm
theorem key_rr (a b : Str) : decide ((Sum.inr a : Key) = Sum.inr b) = decide (a = b) := by
  by_cases e : a = b
  · subst e; simp
  · have h : ¬ (Sum.inr a : Key) = Sum.inr b := fun q => e (Sum.inr.inj q)
    rw [decide_eq_false h, decide_eq_false e]
theorem key_lr (a : Int) (b : Str) : decide ((Sum.inl a : Key) = Sum.inr b) = false := decide_eq_false (fun q => nomatch q)
theorem key_rl (a : Str) (b : Int) : decide ((Sum.inr a : Key) = Sum.inl b) = false := decide_eq_false (fun q => nomatch q)
def mixKind (prog : Program) (w : World) : PySem.KeyKind prog w Key where
  is := keyIs
  hash := keyH w
  inj := fun v a b ha hb => by
    rcases keyIs_shape ha with ⟨i, t, rfl, rfl⟩ | ⟨x, t, rfl, rfl⟩
    · rcases keyIs_shape hb with ⟨j, u, rfl, e⟩ | ⟨y, u, rfl, e⟩
      · injection e with e1 _; rw [e1]
      · exact nomatch e
    · rcases keyIs_shape hb with ⟨j, u, rfl, e⟩ | ⟨y, u, rfl, e⟩
      · exact nomatch e
      · injection e with e1 _; rw [e1]
  byValue := fun k v h => by
    rcases keyIs_shape h with ⟨i, t, rfl, rfl⟩ | ⟨x, t, rfl, rfl⟩ <;> rfl
  pyHash := fun hv h => by
    rcases keyIs_shape hv with ⟨i, t, rfl, rfl⟩ | ⟨x, t, rfl, rfl⟩
    · exact wpAny_pyHash_int h
    · exact wpAny_pyHash_str h
  eqBool := fun hu hv h => by
    rcases keyIs_shape hu with ⟨i, t, rfl, rfl⟩ | ⟨x, t, rfl, rfl⟩
    · rcases keyIs_shape hv with ⟨j, u, rfl, rfl⟩ | ⟨y, u, rfl, rfl⟩
      · rw [key_ll] at h; exact wpAny_eqBool_int h
      · rw [key_lr] at h; exact SeqAt.EqAt.int_str i t y u _ _ _ _ h
    · rcases keyIs_shape hv with ⟨j, u, rfl, rfl⟩ | ⟨y, u, rfl, rfl⟩
      · rw [key_rl] at h; exact SeqAt.EqAt.str_int x t j u _ _ _ _ h
      · rw [key_rr] at h; exact wpAny_eqBool_str h
  «strs» := fun k x t v h => by
    rcases keyIs_shape h with ⟨i, u, rfl, e⟩ | ⟨y, u, rfl, e⟩
    · exact nomatch e
    · injection e with e1 _
      subst e1
      cases v <;> rfl
end L2
namespace L2
open PySem PySem.Spec PyProof.Rows
inductive V where
  | non | bl (b : Bool) | int (i : Int) | str (x : Str) | byt (b : Array UInt8) | flt (b : UInt64) | ref (a : Addr) | ty (n : String)
  deriving DecidableEq
def RelV : V → Value → Prop
  | .non, u => u = Value.none
  | .bl b, u => u = Value.bool b
  | .int i, u => ∃ t, u = Value.int i t
  | .str x, u => ∃ t, u = Value.str x t
  | .byt b, u => ∃ t, u = Value.bytes b t
  | .flt b, u => ∃ t, u = Value.float b t
  | .ref a, u => u = Value.ref a
  | .ty n, u => u = Value.type n
abbrev Vals : List V → List Value → Prop := Paired RelV
theorem Vals.length {xs : List V} {us : List Value} (r : Vals xs us) : xs.length = us.length := Paired.length r
theorem Vals.get : ∀ {xs : List V} {us : List Value} {i : Nat} {x : V}, Vals xs us → xs[i]? = some x → ∃ u, us[i]? = some u ∧ RelV x u
  | _, _, _, _, .nil, e => by simp at e
  | _, _, 0, _, .cons r _, e => by simp at e; subst e; exact ⟨_, rfl, r⟩
  | _, _, i + 1, x, .cons _ t, e => by
    obtain ⟨u, h1, h2⟩ := Vals.get (i := i) (x := x) t (by simpa using e)
    exact ⟨u, by simpa using h1, h2⟩
theorem Vals.set {x : V} {u : Value} (r : RelV x u) : ∀ {xs : List V} {us : List Value} (i : Nat), Vals xs us → Vals (xs.set i x) (us.set i u)
  | _, _, _, .nil => .nil
  | _, _, 0, .cons _ t => .cons r t
  | _, _, i + 1, .cons q t => .cons q (Vals.set r i t)
theorem Vals.append : ∀ {xs ys : List V} {us ws : List Value}, Vals xs us → Vals ys ws → Vals (xs ++ ys) (us ++ ws)
  | _, _, _, _, .nil, s => s
  | _, _, _, _, .cons r t, s => .cons r (Vals.append t s)
theorem Vals.take : ∀ {xs : List V} {us : List Value} (n : Nat), Vals xs us → Vals (xs.take n) (us.take n)
  | _, _, 0, _ => .nil
  | _, _, _ + 1, .nil => .nil
  | _, _, n + 1, .cons r t => .cons r (Vals.take n t)
theorem Vals.drop : ∀ {xs : List V} {us : List Value} (n : Nat), Vals xs us → Vals (xs.drop n) (us.drop n)
  | _, _, 0, r => r
  | _, _, _ + 1, .nil => .nil
  | _, _, n + 1, .cons _ t => Vals.drop n t
def RelO : Option V → Option Value → Prop
  | some v, some u => RelV v u
  | none, none => True
  | _, _ => False
def KV {κ : Type} : List (κ × V) → List (κ × Value) → Prop := Paired fun (p : κ × V) (q : κ × Value) => p.1 = q.1 ∧ RelV p.2 q.2
def kV : Key → V
  | .inl i => .int i
  | .inr x => .str x
inductive HO where
  | lst (xs : List V)
  | tup (xs : List V)
  | dK (kvs : List (Key × V)) | dT (kvs : List (List Key × V))
  | set (S : Int → Bool) (n : Nat)
  | ins (C dx : Addr) (fs : List (Str × V))
  | own (x : Addr)
  | xd (fs : List (Str × V))
  | met (f x : Addr)
  | rng (lo hi : Int)
  | frz (o : Obj) (u : HO)
  | tbl (ps : Array Value)
  | ext (φ : Heap → Prop)
abbrev Hp := Addr → Option HO
def upd (H : Hp) (a : Addr) (o : HO) : Hp := fun b => if b = a then some o else H b
theorem upd_same {H : Hp} {a : Addr} {o : HO} : upd H a o a = some o := by unfold upd; rw [if_pos rfl]
theorem upd_ne {H : Hp} {a b : Addr} {o : HO} (h : b ≠ a) : upd H a o b = H b := by unfold upd; rw [if_neg h]
theorem upd_upd {H : Hp} {a : Addr} {o u : HO} : upd (upd H a o) a u = upd H a u := by
  funext b; unfold upd; split <;> rfl
theorem ne_of_none {H : Hp} {a b : Addr} {o : HO} (h : H a = some o) (h' : H b = none) : a ≠ b := by
  intro e; subst e; rw [h] at h'; cases h'
section
variable (P : Program) (w : World)
def ObjOk (H : Hp) (h : Heap) (a : Addr) : HO → Prop
  | .lst xs => xs.length ≤ sizeLine ∧ ∃ (its : List Value) (n : Nat), Vals xs its ∧ h.get? a = some { cls := .type "list", data := .seq its.toArray n }
  | .tup xs => xs.length ≤ sizeLine ∧ ∃ its : List Value, Vals xs its ∧ IsTup h a its.toArray
  | .dK kvs => kvs.length ≤ sizeLine ∧ (a == sysModules) = false ∧ ∃ vs, KV kvs vs ∧ h.DictOf (mixKind P w) a vs
  | .dT kvs => kvs.length ≤ sizeLine ∧ (a == sysModules) = false ∧ ∃ xs : List (List Key × Addr × Value),
      Paired (fun (p : List Key × V) (q : List Key × Addr × Value) => p.1 = q.1 ∧ H q.2.1 = some (.tup (p.1.map kV)) ∧ RelV p.2 q.2.2) kvs xs ∧
      ∃ o es ep, h.get? a = some o ∧ o.ExactDict ∧ o.data = .dict es ep ∧ es.toList = xs.map (entryOfKey (tupleKind (mixKind P w))) ∧ (xs.map (·.1)).Nodup
  | .set S n => h.SetOf (intKind P w) a S n
  | .ins C dx fs => H dx = some (.own a) ∧ fs.length ≤ 1000 ∧ dx ≠ a ∧ h.get? a = some (PySem.W.instObj C dx) ∧
      ∃ mA, h.Ns1 dx mA ∧ (∀ f, RelO (fs.lookup f) (mA f)) ∧ PySem.Within mA (fs.map (·.1))
  | .own _ => ∃ o, h.get? a = some o
  | .xd fs => ∃ mA, h.Ns1 a mA ∧ ∀ f, RelO (fs.lookup f) (mA f)
  | .rng lo hi => ∃ t u v, h.get? a = some { cls := .type "range", data := .fields #[.int lo t, .int hi u, .int 1 v] }
  | .frz o u => h.get? a = some o ∧ ObjOk H h a u
  | .tbl ps => h.get? a = some { cls := .none, data := .fields ps }
  | .met f x => h.get? a = some (PySem.W.methodObj (.ref f) (.ref x))
  | .ext φ => φ h ∧ (∃ o, h.get? a = some o) ∧ ∀ h1 h2 : Heap, φ h1 → (∀ o, h1.get? a = some o → h2.get? a = some o) → φ h2
def HOk (H : Hp) (h : Heap) : Prop := ∀ a o, H a = some o → ObjOk P w H h a o
end
section
variable {P : Program} {w : World} {H H' : Hp} {h h' : Heap} {a : Addr} {o : HO}
theorem ObjOk.lt (x : ObjOk P w H h a o) : a < h.objs.size := by
  cases o with
  | lst xs => obtain ⟨_, _, _, _, e⟩ := x; exact Heap.lt_size e
  | tup xs => obtain ⟨_, _, _, p⟩ := x; exact p.lt
  | dK kvs => obtain ⟨_, _, _, _, o, _, _, e, _⟩ := x; exact Heap.lt_size e
  | dT kvs => obtain ⟨_, _, _, _, o, _, _, e, _⟩ := x; exact Heap.lt_size e
  | set S n => obtain ⟨o, _, _, _, e, _⟩ := x; exact Heap.lt_size e
  | ins C dx fs => obtain ⟨_, _, _, e, _⟩ := x; exact Heap.lt_size e
  | own y => obtain ⟨_, e⟩ := x; exact Heap.lt_size e
  | xd fs => obtain ⟨_, ⟨_, _, _, e, _⟩, _⟩ := x; exact Heap.lt_size e
  | rng lo hi => obtain ⟨_, _, _, e⟩ := x; exact Heap.lt_size e
  | frz ob u => obtain ⟨e, _⟩ := x; exact Heap.lt_size e
  | tbl ps => exact Heap.lt_size (show h.get? a = some _ from x)
  | met f y => exact Heap.lt_size (show h.get? a = some _ from x)
  | ext φ => obtain ⟨_, ⟨_, e⟩, _⟩ := x; exact Heap.lt_size e
theorem Paired.mapP {α β : Type} {F G : α → β → Prop} : ∀ {l₁ : List α} {l₂ : List β}, Paired F l₁ l₂ → (∀ a b, F a b → G a b) → Paired G l₁ l₂
  | _, _, .nil, _ => .nil
  | _, _, .cons r t, f => .cons (f _ _ r) (Paired.mapP t f)
theorem ObjOk.stay (x : ObjOk P w H h a o) (k : ∀ b u, (b = a ∨ H b = some (.own a)) → h.get? b = some u → h'.get? b = some u)
    (ho : ∀ b, H b = some (.own a) → H' b = some (.own a)) (ht : ∀ b xs, H b = some (.tup xs) → H' b = some (.tup xs)) : ObjOk P w H' h' a o := by
  induction o with
  | lst xs => obtain ⟨z, its, n, r, e⟩ := x; exact ⟨z, its, n, r, k _ _ (.inl rfl) e⟩
  | tup xs => obtain ⟨z, its, r, ob, e, c⟩ := x; exact ⟨z, its, r, ob, k _ _ (.inl rfl) e, c⟩
  | dK kvs => obtain ⟨z, y, vs, r, ob, es, ep, e, c⟩ := x; exact ⟨z, y, vs, r, ob, es, ep, k _ _ (.inl rfl) e, c⟩
  | dT kvs =>
    obtain ⟨z, y, xs, r, ob, es, ep, e, c⟩ := x
    exact ⟨z, y, xs, Paired.mapP r fun p q z => ⟨z.1, ht _ _ z.2.1, z.2.2⟩, ob, es, ep, k _ _ (.inl rfl) e, c⟩
  | set S n => obtain ⟨ob, es, ep, t, e, c⟩ := x; exact ⟨ob, es, ep, t, k _ _ (.inl rfl) e, c⟩
  | ins C dx fs =>
    obtain ⟨d, z, ne, e, mA, ⟨od, es, ep, e2, c⟩, r⟩ := x
    exact ⟨ho _ d, z, ne, k _ _ (.inl rfl) e, mA, ⟨od, es, ep, k _ _ (.inr d) e2, c⟩, r⟩
  | own y => obtain ⟨ob, e⟩ := x; exact ⟨ob, k _ _ (.inl rfl) e⟩
  | xd fs => obtain ⟨mA, ⟨od, es, ep, e, c⟩, r⟩ := x; exact ⟨mA, ⟨od, es, ep, k _ _ (.inl rfl) e, c⟩, r⟩
  | rng lo hi => obtain ⟨t, u, v, e⟩ := x; exact ⟨t, u, v, k _ _ (.inl rfl) e⟩
  | frz ob u ih => obtain ⟨e, q⟩ := x; exact ⟨k _ _ (.inl rfl) e, ih q⟩
  | tbl ps =>
    have e : h.get? a = some { cls := .none, data := .fields ps } := x
    show h'.get? a = some { cls := .none, data := .fields ps }
    exact k a _ (.inl rfl) e
  | met f y =>
    have e : h.get? a = some (PySem.W.methodObj (.ref f) (.ref y)) := x
    show h'.get? a = some (PySem.W.methodObj (.ref f) (.ref y))
    exact k a _ (.inl rfl) e
  | ext φ => obtain ⟨p, ⟨o, e⟩, st⟩ := x; exact ⟨st _ _ p fun o q => k _ _ (.inl rfl) q, ⟨o, k _ _ (.inl rfl) e⟩, st⟩
theorem HOk.lt (x : HOk P w H h) (e : H a = some o) : a < h.objs.size := (x a o e).lt
theorem HOk.fresh (x : HOk P w H h) (e : h.objs.size ≤ a) : H a = none := by
  cases q : H a with
  | none => rfl
  | some u => exact absurd (Nat.lt_of_lt_of_le (x.lt q) e) (Nat.lt_irrefl _)
theorem HOk.kept (x : HOk P w H h) (k : ∀ b u, h.get? b = some u → h'.get? b = some u) : HOk P w H h' := fun a o e =>
  (x a o e).stay (fun b u _ q => k b u q) (fun _ q => q) fun _ _ q => q
theorem HOk.laid (x : HOk P w H h) (k : ∀ b u, h.get? b = some u → h'.get? b = some u) (hp : h.objs.size ≤ a) (new : ObjOk P w (upd H a o) h' a o) : HOk P w (upd H a o) h' := fun b u e => by
  have hn := x.fresh hp
  by_cases hb : b = a
  · subst hb; rw [upd_same] at e; cases e; exact new
  · rw [upd_ne hb] at e
    exact (x b u e).stay (fun c v _ q => k c v q) (fun c q => by rw [upd_ne (ne_of_none q hn)]; exact q) fun c xs q => by rw [upd_ne (ne_of_none q hn)]; exact q
end
def Rd (H : Hp) (a : Addr) (u : HO) : Prop := H a = some u ∨ ∃ o, H a = some (.frz o u)
theorem Rd.of {H : Hp} {a : Addr} {u : HO} (h : H a = some u) : Rd H a u := .inl h
theorem Rd.ok {P : Program} {w : World} {H : Hp} {h : Heap} {a : Addr} {u : HO} (r : Rd H a u) (x : HOk P w H h) : ObjOk P w H h a u := by
  rcases r with r | ⟨o, r⟩
  · exact x a u r
  · obtain ⟨_, q⟩ := x a _ r
    exact q
def Mut : Option HO → Prop
  | some (.lst _) => True
  | some (.dK _) => True
  | some (.dT _) => True
  | some (.set _ _) => True
  | some (.ins _ _ _) => True
  | some (.ext _) => True
  | _ => False
section
variable {P : Program} {w : World} {H : Hp} {h h' : Heap} {x e : Addr} {o' : HO}
theorem HOk.write (ok : HOk P w H h) (mu : Mut (H x)) (he : e = x ∨ H e = some (.own x)) (k : ∀ b u, b ≠ e → h.get? b = some u → h'.get? b = some u) (heo : ∃ u, h'.get? e = some u)
    (new : ObjOk P w (upd H x o') h' x o') : HOk P w (upd H x o') h' := fun b u q => by
  have nown : ∀ c y, H c = some (.own y) → c ≠ x := fun c y r z => by subst z; rw [r] at mu; exact mu
  have ntup : ∀ c xs, H c = some (.tup xs) → c ≠ x := fun c xs r z => by subst z; rw [r] at mu; exact mu
  by_cases hb : b = x
  · subst hb; rw [upd_same] at q; cases q; exact new
  · rw [upd_ne hb] at q
    by_cases hbe : b = e
    · have q' : H b = some (.own x) := by
        rcases he with z | z
        · exact absurd (hbe.trans z) hb
        · rw [hbe]; exact z
      rw [q] at q'; cases q'
      obtain ⟨v, hv⟩ := heo
      exact ⟨v, by rw [hbe]; exact hv⟩
    · refine (ok b u q).stay (fun c v hc r => k c v ?_ r) (fun c r => by rw [upd_ne (nown c b r)]; exact r) fun c xs r => by rw [upd_ne (ntup c xs r)]; exact r
      rcases hc with rfl | hc
      · exact hbe
      · rintro rfl
        rcases he with z | z
        · exact nown c b hc z
        · rw [hc] at z; cases z; exact hb rfl
end
structure Un (fs ex : List Addr) (H H' : Hp) (h h' : Heap) : Prop where
  keep : ∀ b o, h.get? b = some o → H b = none → b ∉ fs → b ∉ ex → h'.get? b = some o
  slot : ∀ b o, h.get? b = some o → H b = none → b ∈ fs → b ∉ ex → ∃ sl, h'.get? b = some { o with slots := sl }
  free : ∀ b o, h.get? b = some o → H b = none → b ∉ ex → H' b = none
  there : ∀ b o, h.get? b = some o → b ∉ ex → ∃ o', h'.get? b = some o'
  tups : ∀ b xs, H b = some (.tup xs) → H' b = some (.tup xs)
  frzs : ∀ b o u, H b = some (.frz o u) → H' b = some (.frz o u)
  tbls : ∀ b ps, H b = some (.tbl ps) → ∃ more, H' b = some (.tbl (ps ++ more))
section
variable {fs fs' ex ex' : List Addr} {H H1 H2 : Hp} {h h1 h2 h' : Heap} {a x e : Addr} {o : HO}
theorem Un.any (u : Un fs ex H H1 h h1) {b : Addr} {ob : Obj} (q : h.get? b = some ob) (n : H b = none) (hx : b ∉ ex) : ∃ sl, h1.get? b = some { ob with slots := sl } := by
  by_cases hb : b ∈ fs
  · exact u.slot b ob q n hb hx
  · exact ⟨ob.slots, u.keep b ob q n hb hx⟩
theorem Un.trans (a : Un fs ex H H1 h h1) (b : Un fs ex H1 H2 h1 h2) : Un fs ex H H2 h h2 where
  keep := fun c ob q n hc hx => b.keep c ob (a.keep c ob q n hc hx) (a.free c ob q n hx) hc hx
  slot := fun c ob q n hc hx => by
    obtain ⟨sl, e1⟩ := a.slot c ob q n hc hx
    obtain ⟨sl', e2⟩ := b.slot c _ e1 (a.free c ob q n hx) hc hx
    exact ⟨sl', e2⟩
  free := fun c ob q n hx => by
    obtain ⟨o', e1⟩ := a.there c ob q hx
    exact b.free c o' e1 (a.free c ob q n hx) hx
  there := fun c ob q hx => by
    obtain ⟨o', e1⟩ := a.there c ob q hx
    exact b.there c o' e1 hx
  tups := fun c xs q => b.tups c xs (a.tups c xs q)
  frzs := fun c ob xs q => b.frzs c ob xs (a.frzs c ob xs q)
  tbls := fun c ps q => by
    obtain ⟨m1, e1⟩ := a.tbls c ps q
    obtain ⟨m2, e2⟩ := b.tbls c _ e1
    exact ⟨m1 ++ m2, by rw [e2, Array.append_assoc]⟩
theorem Un.kept (k : ∀ b u, h.get? b = some u → h'.get? b = some u) : Un fs ex H H h h' :=
  ⟨fun b ob q _ _ _ => k b ob q, fun b ob q _ _ _ => ⟨ob.slots, k b ob q⟩, fun _ _ _ n _ => n, fun b ob q _ => ⟨ob, k b ob q⟩, fun _ _ q => q, fun _ _ _ q => q, fun _ ps q => ⟨#[], by rw [q]; simp⟩⟩
theorem Un.refl : Un fs ex H H h h := Un.kept fun _ _ q => q
theorem Un.laid (k : ∀ b u, h.get? b = some u → h'.get? b = some u) (hp : h.objs.size ≤ a) (hn : H a = none) : Un fs ex H (upd H a o) h h' where
  keep := fun b u q _ _ _ => k b u q
  slot := fun b u q _ _ _ => ⟨u.slots, k b u q⟩
  free := fun b u q n _ => by rw [upd_ne (Nat.ne_of_lt (Nat.lt_of_lt_of_le (Heap.lt_size q) hp))]; exact n
  there := fun b u q _ => ⟨u, k b u q⟩
  tups := fun b xs q => by rw [upd_ne (ne_of_none q hn)]; exact q
  frzs := fun b u xs q => by rw [upd_ne (ne_of_none q hn)]; exact q
  tbls := fun b ps q => ⟨#[], by rw [upd_ne (ne_of_none q hn), q]; simp⟩
theorem Un.write (mu : Mut (H x)) (he : e = x ∨ H e = some (.own x)) (k : ∀ b u, b ≠ e → h.get? b = some u → h'.get? b = some u) (heo : ∃ u, h'.get? e = some u) : Un fs ex H (upd H x o) h h' := by
  have hx : ∀ b, H b = none → b ≠ x := fun b n z => by subst z; rw [n] at mu; exact mu
  have hb : ∀ b, H b = none → b ≠ e := fun b n z => by
    subst z
    rcases he with r | r
    · exact hx b n r
    · rw [n] at r; cases r
  have hm : ∀ b u, H b = some u → ¬ Mut (some u) → b ≠ x := fun b u q nm z => by subst z; rw [q] at mu; exact nm mu
  refine ⟨fun b u q n _ _ => k b u (hb b n) q, fun b u q n _ _ => ⟨u.slots, k b u (hb b n) q⟩, fun b u q n _ => by rw [upd_ne (hx b n)]; exact n, fun b u q _ => ?_,
    fun b xs q => by rw [upd_ne (hm b _ q fun z => z)]; exact q, fun b u xs q => by rw [upd_ne (hm b _ q fun z => z)]; exact q, fun b ps q => ⟨#[], by rw [upd_ne (hm b _ q fun z => z), q]; simp⟩⟩
  by_cases hbe : b = e
  · subst hbe; exact heo
  · exact ⟨u, k b u hbe q⟩
theorem Un.mono (u : Un fs ex H H1 h h1) (hs : ∀ b ∈ fs, b ∈ fs') (hx : ∀ b ∈ ex, b ∈ ex') : Un fs' ex' H H1 h h1 :=
  ⟨fun b ob q n hb he => u.keep b ob q n (fun z => hb (hs b z)) fun z => he (hx b z), fun _ _ q n _ he => u.any q n fun z => he (hx _ z), fun b ob q n he => u.free b ob q n fun z => he (hx b z), fun b ob q he => u.there b ob q fun z => he (hx b z), u.tups, u.frzs, u.tbls⟩
end
def trk (h : Heap) (H : Hp) : List Addr := (List.range h.objs.size).filter fun a => (H a).isSome
def hidT (h : Heap) (H : Hp) : Heap := PySem.W.hideAll h (trk h H)
theorem hidT_size (h : Heap) (H : Hp) : (hidT h H).objs.size = h.objs.size := PySem.W.hideAll_size _ _
theorem hidT_get {h : Heap} {H : Hp} {b : Addr} {o : Obj} (e : h.get? b = some o) (n : H b = none) : (hidT h H).get? b = some o :=
  PySem.W.hideAll_get _ e fun hm => by
    have q : (H b).isSome = true := (List.mem_filter.mp hm).2
    rw [n] at q; simp at q
theorem of_hidT {h : Heap} {H : Hp} {b : Addr} {o : Obj} (e : (hidT h H).get? b = some o) : h.get? b = some o ∧ H b = none := by
  have e' : h.get? b = some o := PySem.W.of_hideAll (trk h H) e
  refine ⟨e', ?_⟩
  cases q : H b with
  | none => rfl
  | some x =>
    have hm : b ∈ trk h H := List.mem_filter.mpr ⟨List.mem_range.mpr (Heap.lt_size e'), by simp [q]⟩
    have z : (hidT h H).get? b = none := PySem.W.hideAll_none (trk h H) hm
    rw [z] at e; cases e
def allNews (g h : Heap) (L : Addr) : List (Addr × Obj) := (List.range h.objs.size).filterMap fun a => if a = L ∨ (g.get? a).isSome = true then none else (h.get? a).map fun o => (a, o)
def rest (g h : Heap) (L d : Addr) : List (Addr × Obj) := (allNews g h L).filter fun p => decide (p.1 ≠ d)
end L2
namespace L2
open PySem PySem.Spec PyProof.Rows
structure Mod (K : PySem.W.Frag) (mg : Str → Option Value) (base : Heap) : Prop where
  kin : K.In base
  glob : base.Ns mainGlobals mg
  blt : ∃ mb, base.Ns builtinsNs mb ∧ ∀ x : Str, x ≠ "__name__" → mb x = bootBuiltins x
  nolimit : base.NoLimit
structure Cx where
  prog : Program
  w : World
  K : PySem.W.Frag
  mg : Str → Option Value
  base : Heap
  A : Around
  N : List Str
  s₀ : Shared
  H₀ : Hp
  env : Env
  outer : List Env
  stack : List Env
  ex : List Addr
  fn : Str → Bool
  calm : Bool
  pn : List (Addr × Obj)
  xe : Value → Shared → Prop
def frs (l : List Env) : List Addr := l.filterMap (·.frame)
abbrev Cx.fs (X : Cx) : List Addr := frs X.outer
def Vis (sc : Scope) (x : Str) : Prop := sc.names.lookup x = some .local ∨ sc.names.lookup x = some .cell ∨ sc.names.lookup x = some .free
def Loc (sc : Scope) (x : Str) : Prop := sc.names.lookup x = some .local ∨ sc.names.lookup x = some .cell
def Look (env : Env) (h : Heap) (m : Str → Option Value) (x : Str) (u : Value) : Prop :=
  (env.kindOf x = some .local ∧ m x = some u) ∨ ((env.kindOf x = some .cell ∨ env.kindOf x = some .free) ∧ ∃ c, env.cells.lookup x = some c ∧ h.IsCell c (some u))
structure Cx.Ok (X : Cx) : Prop where
  mod : Mod X.K X.mg X.base
  kind : X.env.scope.kind = .function
  glob : X.env.globals = mainGlobals
  blt : X.env.builtins = builtinsNs
  above : X.s₀.heap.objs.size ≤ X.env.locals
  inj : ∀ x y c, X.env.cells.lookup x = some c → X.env.cells.lookup y = some c → x = y
  has : ∀ x, (X.env.kindOf x = some .cell ∨ X.env.kindOf x = some .free) → ∃ c, X.env.cells.lookup x = some c
  cab : ∀ x c, X.fn x = true → X.env.cells.lookup x = some c → X.s₀.heap.objs.size ≤ c
  hd : X.calm = true → X.A.handled = none
  frames : X.A.frames = some X.stack
  stk : X.stack = X.outer ∨ (X.stack = X.env :: X.outer ∧ X.env.frame = some X.env.locals)
  exf : ∀ b ∈ X.ex, b ≠ X.env.locals ∧ ∀ x c, X.env.cells.lookup x = some c → c ≠ b
  bs : ∀ b o, X.base.get? b = some o → X.s₀.heap.get? b = some o ∧ X.H₀ b = none
  bsz : X.base.objs.size ≤ X.s₀.heap.objs.size
  noex : ∀ b o, X.base.get? b = some o → b ∉ X.ex
  exfs : ∀ b ∈ X.ex, b ∉ X.fs
  funs : X.s₀.heap.FunFrames X.base X.outer
  frf : ∀ b ∈ X.fs, X.H₀ b = none
structure Inv (X : Cx) (pins : List (Addr × Obj)) (σ : List (Option V)) (H : Hp) (s : Shared) : Prop where
  ok : X.Ok
  os : s.os = X.s₀.os
  bare : AllBare s.gens
  base : Un X.fs X.ex X.H₀ H X.s₀.heap s.heap
  loc : ∃ m, s.heap.Ns X.env.locals m ∧ ∀ (i : Nat) (x : Str) (v : V), X.N[i]? = some x → σ[i]? = some (some v) → Vis X.env.scope x → ∃ u, RelV v u ∧ Look X.env s.heap m x u
  cell : ∀ x c, X.env.cells.lookup x = some c → ∃ v, s.heap.IsCell c v
  free : H X.env.locals = none
  freeC : ∀ x c, X.env.cells.lookup x = some c → H c = none
  pin : ∀ p ∈ X.pn ++ pins, s.heap.get? p.1 = some p.2 ∧ H p.1 = none ∧ p.1 ≠ X.env.locals ∧ p.1 ∉ X.fs ∧ ∀ v, p.2.data ≠ .cell v
  hok : HOk X.prog X.w H s.heap
  len : σ.length = X.N.length
section
variable {X : Cx} {pins : List (Addr × Obj)} {σ : List (Option V)} {H H' : Hp} {s : Shared} {h' : Heap}
theorem Cx.Ok.nofr (ok : X.Ok) {b : Addr} {o : Obj} (e : X.base.get? b = some o) : b ∉ X.fs := fun hb => by
  have := (ok.funs.mem hb).1
  rw [e] at this; cases this
theorem Inv.bs (I : Inv X pins σ H s) : ∀ b o, X.base.get? b = some o → s.heap.get? b = some o ∧ H b = none := fun b o e =>
  ⟨I.base.keep b o (I.ok.bs b o e).1 (I.ok.bs b o e).2 (I.ok.nofr e) (I.ok.noex b o e), I.base.free b o (I.ok.bs b o e).1 (I.ok.bs b o e).2 (I.ok.noex b o e)⟩
theorem Inv.bk (I : Inv X pins σ H s) : ∀ b o, X.base.get? b = some o → s.heap.get? b = some o := fun b o e => (I.bs b o e).1
theorem Inv.mod (I : Inv X pins σ H s) : Mod X.K X.mg X.base := I.ok.mod
theorem Inv.kIn (I : Inv X pins σ H s) : X.K.In s.heap := I.ok.mod.kin.keeps I.bk
theorem Inv.nolimit (I : Inv X pins σ H s) : s.heap.NoLimit := I.ok.mod.nolimit.keeps I.bk
theorem Inv.lt (I : Inv X pins σ H s) : X.env.locals < s.heap.objs.size := let ⟨_, hn, _⟩ := I.loc; hn.lt
theorem Inv.sz (I : Inv X pins σ H s) : X.s₀.heap.objs.size ≤ s.heap.objs.size := Nat.le_trans I.ok.above (Nat.le_of_lt I.lt)
theorem Inv.nofs (I : Inv X pins σ H s) {a : Addr} (h : s.heap.objs.size ≤ a) : a ∉ X.fs := fun hb => by
  obtain ⟨_, o, ho, _⟩ := I.ok.funs.mem hb
  exact absurd (Nat.lt_of_lt_of_le (Heap.lt_size ho) (Nat.le_trans I.sz h)) (Nat.lt_irrefl _)
theorem Inv.cne (I : Inv X pins σ H s) : ∀ x c, X.env.cells.lookup x = some c → c ≠ X.env.locals := fun x c e z => by
  obtain ⟨v, o, ho, hd⟩ := I.cell x c e
  obtain ⟨m, ⟨o', es, ep, ho', hd', _⟩, _⟩ := I.loc
  rw [z, ho'] at ho; cases ho; rw [hd'] at hd; cases hd
theorem Inv.funs (I : Inv X pins σ H s) : s.heap.FunFrames X.base X.outer := by
  have all : ∀ (l : List Env), (∀ b ∈ frs l, b ∈ X.fs) → X.s₀.heap.FunFrames X.base l → s.heap.FunFrames X.base l := by
    intro l
    induction l with
    | nil => intro _ _; trivial
    | cons env r ih =>
      intro hs hl
      obtain ⟨hk, ⟨L, o, hf, hn, ho, hd⟩, hr⟩ := hl
      have hL : L ∈ X.fs := hs L (by unfold frs; rw [List.filterMap_cons, hf]; exact List.mem_cons_self)
      obtain ⟨sl, e⟩ := I.base.slot L o ho (I.ok.frf L hL) hL fun z => I.ok.exfs L z hL
      exact ⟨hk, ⟨L, _, hf, hn, e, hd⟩, ih (fun b hb => hs b (by unfold frs; rw [List.filterMap_cons, hf]; exact List.mem_cons_of_mem _ hb)) hr⟩
  exact all X.outer (fun _ hb => hb) I.ok.funs
theorem Inv.stack (I : Inv X pins σ H s) : s.heap.FunFrames X.base X.stack := by
  rcases I.ok.stk with e | ⟨e, hf⟩
  · rw [e]; exact I.funs
  · rw [e]
    obtain ⟨m, hn, _⟩ := I.loc
    refine .cons (by rw [I.ok.kind]; decide) hf hn ?_ I.funs
    exact Heap.get?_none_of_le (Nat.le_trans I.ok.bsz I.ok.above)
theorem Inv.stkSub (I : Inv X pins σ H s) : ∀ b ∈ frs X.stack, b ∈ X.env.locals :: X.fs := fun b hb => by
  rcases I.ok.stk with e | ⟨e, hf⟩
  · rw [e] at hb; exact List.mem_cons_of_mem _ hb
  · rw [e] at hb
    unfold frs at hb
    rw [List.filterMap_cons, hf] at hb
    exact hb
theorem Inv.stkFree (I : Inv X pins σ H s) : ∀ b ∈ frs X.stack, H b = none := fun b hb => by
  rcases List.mem_cons.mp (I.stkSub b hb) with e | hb
  · rw [e]; exact I.free
  · obtain ⟨_, o, ho, _⟩ := I.ok.funs.mem hb
    exact I.base.free b o ho (I.ok.frf b hb) fun z => I.ok.exfs b z hb
theorem Inv.step {g' : Array GenState} {t' : Nat} {d' : Drawn} {ch : List Addr} (I : Inv X pins σ H s)
    (hch : ∀ b ∈ ch, (b ∈ X.ex ∨ X.s₀.heap.objs.size ≤ b) ∧ b ≠ X.env.locals ∧ (∀ x c, X.env.cells.lookup x = some c → c ≠ b) ∧ ∀ p ∈ X.pn ++ pins, p.1 ≠ b)
    (keep : ∀ b o, b ≠ X.env.locals → b ∉ X.fs → b ∉ ch → s.heap.get? b = some o → H b = none → h'.get? b = some o)
    (slot : ∀ b o, b ≠ X.env.locals → b ∈ X.fs → b ∉ ch → s.heap.get? b = some o → H b = none → ∃ sl, h'.get? b = some { o with slots := sl }) (free : ∀ b o, b ∉ ch → s.heap.get? b = some o → H b = none → H' b = none)
    (there : ∀ b o, b ∉ ch → s.heap.get? b = some o → ∃ o', h'.get? b = some o')
    (tups : ∀ b xs, H b = some (.tup xs) → H' b = some (.tup xs)) (frzs : ∀ b o u, H b = some (.frz o u) → H' b = some (.frz o u)) (tbls : ∀ b ps, H b = some (.tbl ps) → ∃ more, H' b = some (.tbl (ps ++ more)))
    (ns : ∀ m, s.heap.Ns X.env.locals m → h'.Ns X.env.locals m) (hok : HOk X.prog X.w H' h') (hg : AllBare g') :
    Inv X pins σ H' { s with heap := h', gens := g', drawn := d', toks := t' } := by
  have neL : ∀ b o, X.s₀.heap.get? b = some o → b ≠ X.env.locals := fun b o e => Nat.ne_of_lt (Nat.lt_of_lt_of_le (Heap.lt_size e) I.ok.above)
  have neC : ∀ b o, X.s₀.heap.get? b = some o → b ∉ X.ex → b ∉ ch := fun b o e hx hb => by
    rcases (hch b hb).1 with z | z
    · exact hx z
    · exact absurd (Nat.lt_of_lt_of_le (Heap.lt_size e) z) (Nat.lt_irrefl _)
  have cellK : ∀ x c, X.env.cells.lookup x = some c → ∀ v, s.heap.IsCell c v → h'.IsCell c v := fun x c e v ⟨o, ho, hd⟩ => by
    have nch : c ∉ ch := fun z => (hch c z).2.2.1 x c e rfl
    by_cases hc : c ∈ X.fs
    · obtain ⟨sl, q⟩ := slot c o (I.cne x c e) hc nch ho (I.freeC x c e)
      exact ⟨_, q, hd⟩
    · exact ⟨o, keep c o (I.cne x c e) hc nch ho (I.freeC x c e), hd⟩
  refine ⟨I.ok, I.os, hg, ⟨fun b o e n hb hx => ?_, fun b o e n hb hx => ?_, fun b o e n hx => ?_, fun b o e hx => ?_, fun b xs e => tups b xs (I.base.tups b xs e), fun b o xs e => frzs b o xs (I.base.frzs b o xs e), fun b ps e => ?_⟩, ?_, fun x c e => ?_, ?_, fun x c e => ?_, fun p hp => ?_, hok, I.len⟩
  · exact keep b o (neL b o e) hb (neC b o e hx) (I.base.keep b o e n hb hx) (I.base.free b o e n hx)
  · obtain ⟨sl, e1⟩ := I.base.slot b o e n hb hx
    obtain ⟨sl', e2⟩ := slot b _ (neL b o e) hb (neC b o e hx) e1 (I.base.free b o e n hx)
    exact ⟨sl', e2⟩
  · obtain ⟨o', e1⟩ := I.base.there b o e hx
    exact free b o' (neC b o e hx) e1 (I.base.free b o e n hx)
  · obtain ⟨o', e1⟩ := I.base.there b o e hx
    exact there b o' (neC b o e hx) e1
  · obtain ⟨m1, e1⟩ := I.base.tbls b ps e
    obtain ⟨m2, e2⟩ := tbls b _ e1
    exact ⟨m1 ++ m2, by rw [e2, Array.append_assoc]⟩
  · obtain ⟨m, hn, hl⟩ := I.loc
    refine ⟨m, ns m hn, fun i x v e1 e2 e3 => ?_⟩
    obtain ⟨u, r, l⟩ := hl i x v e1 e2 e3
    refine ⟨u, r, ?_⟩
    rcases l with l | ⟨k, c, e, z⟩
    · exact .inl l
    · exact .inr ⟨k, c, e, cellK x c e _ z⟩
  · obtain ⟨v, z⟩ := I.cell x c e
    exact ⟨v, cellK x c e v z⟩
  · obtain ⟨m, ⟨o, _, _, ho, _⟩, _⟩ := I.loc
    exact free _ o (fun z => (hch _ z).2.1 rfl) ho I.free
  · obtain ⟨v, o, ho, hd⟩ := I.cell x c e
    exact free c o (fun z => (hch c z).2.2.1 x c e rfl) ho (I.freeC x c e)
  · obtain ⟨e, n, ne, nf, d⟩ := I.pin p hp
    have nch : p.1 ∉ ch := fun z => (hch p.1 z).2.2.2 p hp rfl
    exact ⟨keep p.1 p.2 ne nf nch e n, free p.1 p.2 nch e n, ne, nf, d⟩
theorem Inv.un {t' : Nat} (I : Inv X pins σ H s) (u : Un X.fs [] H H' s.heap h') (hok : HOk X.prog X.w H' h') : Inv X pins σ H' { s with heap := h', toks := t' } := by
  obtain ⟨m, ⟨o, es, ep, ho, r⟩, _⟩ := id I.loc
  obtain ⟨sl, hL⟩ := u.any ho I.free (by simp)
  exact I.step (g' := s.gens) (d' := s.drawn) (ch := []) (fun _ z => nomatch z) (fun b o _ hb _ e n => u.keep b o e n hb (by simp)) (fun b o _ hb _ e n => u.slot b o e n hb (by simp)) (fun b o _ e n => u.free b o e n (by simp)) (fun b o _ e => u.there b o e (by simp)) u.tups u.frzs u.tbls (fun m' hm => by
    obtain ⟨o', es', ep', ho', r'⟩ := hm
    rw [ho] at ho'; cases ho'
    exact ⟨_, es', ep', hL, r'⟩) hok I.bare
theorem Inv.call {g' : Array GenState} {t' : Nat} {d' : Drawn} {ch : List Addr} (I : Inv X pins σ H s) (u : Un (frs X.stack) ch H H' s.heap h') (hok : HOk X.prog X.w H' h') (hg : AllBare g')
    (hch : ∀ b ∈ ch, (b ∈ X.ex ∨ X.s₀.heap.objs.size ≤ b) ∧ b ≠ X.env.locals ∧ (∀ x c, X.env.cells.lookup x = some c → c ≠ b) ∧ ∀ p ∈ X.pn ++ pins, p.1 ≠ b) :
    Inv X pins σ H' { s with heap := h', gens := g', drawn := d', toks := t' } := by
  obtain ⟨m, ⟨o, es, ep, ho, r⟩, _⟩ := id I.loc
  obtain ⟨sl, hL⟩ := u.any ho I.free fun z => (hch _ z).2.1 rfl
  exact I.step (ch := ch) hch (fun b o hL hb hc e n => u.keep b o e n (fun z => (List.mem_cons.mp (I.stkSub b z)).elim hL hb) hc) (fun b o _ _ hc e n => u.any e n hc) (fun b o hc e n => u.free b o e n hc) (fun b o hc e => u.there b o e hc) u.tups u.frzs u.tbls (fun m' hm => by
    obtain ⟨o', es', ep', ho', r'⟩ := hm
    rw [ho] at ho'; cases ho'
    exact ⟨_, es', ep', hL, r'⟩) hok hg
theorem Inv.turned {t' : Nat} {it : Addr} (I : Inv X pins σ H s) (k : ∀ b o, b ≠ it → s.heap.get? b = some o → h'.get? b = some o) (hn : H it = none) (hL : it ≠ X.env.locals)
    (h1 : it ∈ X.ex ∨ X.s₀.heap.objs.size ≤ it) (h2 : ∀ x c, X.env.cells.lookup x = some c → c ≠ it) (h3 : ∀ p ∈ X.pn ++ pins, p.1 ≠ it) : Inv X pins σ H { s with heap := h', toks := t' } := by
  have nit : ∀ b u, H b = some u → b ≠ it := fun b u e z => by rw [z, hn] at e; cases e
  refine I.step (g' := s.gens) (d' := s.drawn) (ch := [it]) (fun b hb => ?_) (fun b o _ _ hc e _ => k b o (fun z => hc (by simp [z])) e) (fun b o _ _ hc e _ => ⟨o.slots, k b o (fun z => hc (by simp [z])) e⟩) (fun _ _ _ _ n => n)
    (fun b o hc e => ⟨o, k b o (fun z => hc (by simp [z])) e⟩) (fun _ _ e => e) (fun _ _ _ e => e) (fun b ps e => ⟨#[], by rw [e]; simp⟩) (fun m hm => ?_) (fun b u e => ?_) I.bare
  · have e : b = it := by simpa using hb
    subst e
    exact ⟨h1, hL, h2, h3⟩
  · obtain ⟨o, es, ep, ho, r⟩ := hm
    exact ⟨o, es, ep, k _ o (Ne.symm hL) ho, r⟩
  · refine (I.hok b u e).stay (fun c v hc q => k c v ?_ q) (fun _ q => q) fun _ _ q => q
    rcases hc with z | z
    · rw [z]; exact nit b u e
    · exact nit c _ z
theorem Inv.tok (I : Inv X pins σ H s) (t : Nat) : Inv X pins σ H { s with toks := t } := I.un (h' := s.heap) (t' := t) Un.refl I.hok
theorem Inv.kept {t' : Nat} (I : Inv X pins σ H s) (k : ∀ b u, s.heap.get? b = some u → h'.get? b = some u) : Inv X pins σ H { s with heap := h', toks := t' } := I.un (Un.kept k) (I.hok.kept k)
theorem Inv.laid {a : Addr} {o : HO} {t' : Nat} (I : Inv X pins σ H s) (k : ∀ b u, s.heap.get? b = some u → h'.get? b = some u) (hp : s.heap.objs.size ≤ a) (new : ObjOk X.prog X.w (upd H a o) h' a o) :
    Inv X pins σ (upd H a o) { s with heap := h', toks := t' } := I.un (Un.laid k hp (I.hok.fresh hp)) (I.hok.laid k hp new)
theorem Inv.write {x e : Addr} {o : HO} {t' : Nat} (I : Inv X pins σ H s) (mu : Mut (H x)) (he : e = x ∨ H e = some (.own x)) (k : ∀ b u, b ≠ e → s.heap.get? b = some u → h'.get? b = some u) (heo : ∃ u, h'.get? e = some u)
    (new : ObjOk X.prog X.w (upd H x o) h' x o) : Inv X pins σ (upd H x o) { s with heap := h', toks := t' } := I.un (Un.write mu he k heo) (I.hok.write mu he k heo new)
theorem Inv.pins_of {pins' : List (Addr × Obj)} (I : Inv X pins σ H s) (h : ∀ p ∈ pins', s.heap.get? p.1 = some p.2 ∧ H p.1 = none ∧ p.1 ≠ X.env.locals ∧ p.1 ∉ X.fs ∧ ∀ v, p.2.data ≠ .cell v) : Inv X pins' σ H s :=
  ⟨I.ok, I.os, I.bare, I.base, I.loc, I.cell, I.free, I.freeC, fun p hp => (List.mem_append.mp hp).elim (fun z => I.pin p (List.mem_append_left _ z)) (h p), I.hok, I.len⟩
theorem nodup_ix {N : List Str} (hN : N.Nodup) {i j : Nat} {x : Str} (a : N[i]? = some x) (b : N[j]? = some x) : i = j := by
  obtain ⟨h1, e1⟩ := List.getElem?_eq_some_iff.mp a
  obtain ⟨h2, e2⟩ := List.getElem?_eq_some_iff.mp b
  exact (List.getElem_inj hN).mp (e1.trans e2.symm)
theorem store_ok2 {M : Model} {A : Around} {E : Value → Shared → Prop} {i : Nat} {x : Str} {v : V} {u : Value} {Q : Unit → Shared → Prop} (I : Inv X pins σ H s) (hN : X.N.Nodup) (hi : X.N[i]? = some x) (hx : Loc X.env.scope x) (r : RelV v u)
    (h : ∀ s', Inv X pins (σ.set i (some v)) H s' → (∃ a, Heap.SameBut a s.heap s'.heap ∧ (a = X.env.locals ∨ X.env.cells.lookup x = some a)) → Q () s') (hf : X.fn x = true ∨ X.env.scope.names.lookup x = some .local := by first | exact .inl rfl | exact .inr rfl | assumption) : wpAny M A (storeName X.env x u) Q E s := by
  obtain ⟨m, hn, hl⟩ := id I.loc
  have hcls : (X.env.scope.kind == .class || (X.env.scope.kind == .module && X.env.locals != X.env.globals)) = false := by rw [I.ok.kind]; rfl
  have hiσ : i < σ.length := by rw [I.len]; exact (List.getElem?_eq_some_iff.mp hi).1
  have cne := I.cne
  have tracked : ∀ {a : Addr} {h' : Heap}, (∃ o, s.heap.get? a = some o ∧ H a = none) → Heap.SameBut a s.heap h' → HOk X.prog X.w H h' := fun {a h'} ha hs b ob e => by
    obtain ⟨_, _, hfree⟩ := ha
    refine (I.hok b ob e).stay (fun c w' hc q => (hs.2 c ?_).trans q) (fun _ q => q) fun _ _ q => q
    rintro rfl
    rcases hc with rfl | hc
    · rw [hfree] at e; cases e
    · rw [hfree] at hc; cases hc
  rcases hx with hk | hk
  · refine wpAny_storeName_local hk hn (fun h' hn' hs => ?_) hcls
    obtain ⟨oL, _, _, hoL, _⟩ := id hn
    refine h _ ⟨I.ok, I.os, I.bare, ⟨fun b o e n hb hx => ?_, fun b o e n hb hx => ?_, I.base.free, fun b o e hx => ?_, I.base.tups, I.base.frzs, I.base.tbls⟩, ⟨_, hn', fun j y v' e1 e2 e3 => ?_⟩, fun y c e => ?_, I.free, I.freeC, fun p hp => ?_, tracked ⟨oL, hoL, I.free⟩ hs, by simpa using I.len⟩ ⟨_, hs, .inl rfl⟩
    · exact (hs.2 b (Nat.ne_of_lt (Nat.lt_of_lt_of_le (Heap.lt_size e) I.ok.above))).trans (I.base.keep b o e n hb hx)
    · obtain ⟨sl, e1⟩ := I.base.slot b o e n hb hx
      exact ⟨sl, (hs.2 b (Nat.ne_of_lt (Nat.lt_of_lt_of_le (Heap.lt_size e) I.ok.above))).trans e1⟩
    · obtain ⟨o', e1⟩ := I.base.there b o e hx
      exact ⟨o', (hs.2 b (Nat.ne_of_lt (Nat.lt_of_lt_of_le (Heap.lt_size e) I.ok.above))).trans e1⟩
    · by_cases hj : j = i
      · subst hj
        rw [hi] at e1; cases e1
        rw [List.getElem?_set_self hiσ] at e2
        cases e2
        exact ⟨u, r, .inl ⟨hk, by simp⟩⟩
      · rw [List.getElem?_set_ne (Ne.symm hj)] at e2
        obtain ⟨u', r', q⟩ := hl j y v' e1 e2 e3
        refine ⟨u', r', ?_⟩
        rcases q with ⟨k, e⟩ | ⟨k, c, e, z⟩
        · refine .inl ⟨k, ?_⟩
          have : y ≠ x := fun e => hj (nodup_ix hN e1 (e ▸ hi))
          simp [this, e]
        · exact .inr ⟨k, c, e, z.sameBut hs (cne y c e)⟩
    · obtain ⟨w', z⟩ := I.cell y c e
      exact ⟨w', z.sameBut hs (cne y c e)⟩
    · obtain ⟨e, n, ne, nf, d⟩ := I.pin p hp
      exact ⟨(hs.2 p.1 ne).trans e, n, ne, nf, d⟩
  · have hfn : X.fn x = true := by
      rcases hf with z | z
      · exact z
      · rw [z] at hk; cases hk
    obtain ⟨c, hc⟩ := I.ok.has x (.inl hk)
    obtain ⟨w', z⟩ := I.cell x c hc
    refine wpAny_storeName_cell I.ok.kind hk hc z (fun h' hc' hs => ?_)
    obtain ⟨oc, hoc, hocd⟩ := id z
    refine h { s with heap := h' } ⟨I.ok, I.os, I.bare, ⟨fun b o e n hb hx => ?_, fun b o e n hb hx => ?_, I.base.free, fun b o e hx => ?_, I.base.tups, I.base.frzs, I.base.tbls⟩, ⟨m, hn.sameBut hs (Ne.symm (cne x c hc)), fun j y v' e1 e2 e3 => ?_⟩, fun y c' e => ?_, I.free, I.freeC, fun p hp => ?_, tracked ⟨oc, hoc, I.freeC x c hc⟩ hs, by simpa using I.len⟩ ⟨c, hs, .inr hc⟩
    · exact (hs.2 b (Nat.ne_of_lt (Nat.lt_of_lt_of_le (Heap.lt_size e) (I.ok.cab x c hfn hc)))).trans (I.base.keep b o e n hb hx)
    · obtain ⟨sl, e1⟩ := I.base.slot b o e n hb hx
      exact ⟨sl, (hs.2 b (Nat.ne_of_lt (Nat.lt_of_lt_of_le (Heap.lt_size e) (I.ok.cab x c hfn hc)))).trans e1⟩
    · obtain ⟨o', e1⟩ := I.base.there b o e hx
      exact ⟨o', (hs.2 b (Nat.ne_of_lt (Nat.lt_of_lt_of_le (Heap.lt_size e) (I.ok.cab x c hfn hc)))).trans e1⟩
    · by_cases hj : j = i
      · subst hj
        rw [hi] at e1; cases e1
        rw [List.getElem?_set_self hiσ] at e2
        cases e2
        exact ⟨u, r, .inr ⟨.inl hk, c, hc, hc'⟩⟩
      · rw [List.getElem?_set_ne (Ne.symm hj)] at e2
        obtain ⟨u', r', q⟩ := hl j y v' e1 e2 e3
        refine ⟨u', r', ?_⟩
        rcases q with q | ⟨k, c', e, z'⟩
        · exact .inl q
        · refine .inr ⟨k, c', e, z'.sameBut hs ?_⟩
          rintro rfl
          exact hj (nodup_ix hN e1 (I.ok.inj _ _ _ e hc ▸ hi))
    · by_cases hcc : c' = c
      · subst hcc; exact ⟨_, hc'⟩
      · obtain ⟨w2, z2⟩ := I.cell y c' e
        exact ⟨w2, z2.sameBut hs hcc⟩
    · obtain ⟨e, n, ne, nf, d⟩ := I.pin p hp
      refine ⟨(hs.2 p.1 ?_).trans e, n, ne, nf, d⟩
      intro q
      rw [q, hoc] at e
      have q' : oc = p.2 := Option.some.inj e
      exact d w' (by rw [← q']; exact hocd)
theorem store_ok {M : Model} {A : Around} {E : Value → Shared → Prop} {i : Nat} {x : Str} {v : V} {u : Value} {Q : Unit → Shared → Prop} (I : Inv X pins σ H s) (hN : X.N.Nodup) (hi : X.N[i]? = some x) (hx : Loc X.env.scope x) (r : RelV v u)
    (h : ∀ s', Inv X pins (σ.set i (some v)) H s' → Q () s') (hf : X.fn x = true ∨ X.env.scope.names.lookup x = some .local := by first | exact .inl rfl | exact .inr rfl | assumption) : wpAny M A (storeName X.env x u) Q E s :=
  store_ok2 I hN hi hx r (fun s' I' _ => h s' I') hf
theorem Inv.call' {s' : Shared} {ch : List Addr} (I : Inv X pins σ H s) (ho : s'.os = s.os) (u : Un (frs X.stack) ch H H' s.heap s'.heap) (hok : HOk X.prog X.w H' s'.heap) (hg : AllBare s'.gens)
    (hch : ∀ b ∈ ch, (b ∈ X.ex ∨ X.s₀.heap.objs.size ≤ b) ∧ b ≠ X.env.locals ∧ (∀ x c, X.env.cells.lookup x = some c → c ≠ b) ∧ ∀ p ∈ X.pn ++ pins, p.1 ≠ b) : Inv X pins σ H' s' := by
  obtain ⟨h', g', d', t', o'⟩ := s'
  have e : o' = s.os := ho
  subst e
  exact I.call (g' := g') (t' := t') (d' := d') u hok hg hch
end
abbrev XK := Value → Option Addr → Hp → Prop
abbrev St := List (Option V)
abbrev VK := V → Hp → Prop
abbrev TE := St → Hp → VK → Prop
abbrev TT := St → Hp → (Bool → Hp → Prop) → Prop
abbrev TA := St → Hp → (List V → Hp → Prop) → Prop
structure Ends where
  nx : St → Hp → Prop
  rt : VK
  bk : St → Hp → Prop := fun _ _ => False
  ct : St → Hp → Prop := fun _ _ => False
abbrev TS := Ends → St → Hp → Prop
def EP (X : Cx) (pins : List (Addr × Obj)) (σ : St) (Q : VK) (u : Value) (s' : Shared) : Prop := ∃ v H', Inv X pins σ H' s' ∧ RelV v u ∧ Q v H'
def TP (X : Cx) (pins : List (Addr × Obj)) (σ : St) (Q : Bool → Hp → Prop) (b : Bool) (s' : Shared) : Prop := ∃ H', Inv X pins σ H' s' ∧ Q b H'
def AP (X : Cx) (pins : List (Addr × Obj)) (σ : St) (Q : List V → Hp → Prop) (us : List Value) (s' : Shared) : Prop := ∃ vs H', Inv X pins σ H' s' ∧ Vals vs us ∧ Q vs H'
def SP (X : Cx) (pins : List (Addr × Obj)) (D : Ends) (f : Flow) (s' : Shared) : Prop :=
  match f with
  | .next => ∃ σ' H', Inv X pins σ' H' s' ∧ D.nx σ' H'
  | .brk => ∃ σ' H', Inv X pins σ' H' s' ∧ D.bk σ' H'
  | .cont => ∃ σ' H', Inv X pins σ' H' s' ∧ D.ct σ' H'
  | .ret u => ∃ v σ' H', Inv X pins σ' H' s' ∧ RelV v u ∧ D.rt v H'
def PE (X : Cx) (e : Expr) (t : TE) : Prop :=
  ∀ (pins : List (Addr × Obj)) (s : Shared) (σ : St) (H : Hp) (Q : VK), Inv X pins σ H s → t σ H Q → wpAny (model X.prog X.w) X.A (eval e X.env) (EP X pins σ Q) X.xe s
def PT (X : Cx) (e : Expr) (t : TT) : Prop :=
  ∀ (pins : List (Addr × Obj)) (s : Shared) (σ : St) (H : Hp) (Q : Bool → Hp → Prop), Inv X pins σ H s → t σ H Q → wpAny (model X.prog X.w) X.A (isTrue e X.env (eval e X.env)) (TP X pins σ Q) X.xe s
def PW (X : Cx) (e : Expr) (t : TT) : Prop :=
  ∀ (whole : Sem Value) (pins : List (Addr × Obj)) (s : Shared) (σ : St) (H : Hp) (Q : Bool → Hp → Prop), Inv X pins σ H s → t σ H Q → wpAny (model X.prog X.w) X.A (isTrue e X.env whole) (TP X pins σ Q) X.xe s
theorem PW.pt {X : Cx} {e : Expr} {t : TT} (h : PW X e t) : PT X e t := h _
def PA (X : Cx) (es : List Expr) (t : TA) : Prop :=
  ∀ (pos : Pos) (pins : List (Addr × Obj)) (s : Shared) (σ : St) (H : Hp) (Q : List V → Hp → Prop), Inv X pins σ H s → t σ H Q → wpAny (model X.prog X.w) X.A (spliced (backTo pos (starEach es X.env))) (AP X pins σ Q) X.xe s
def PS (X : Cx) (st : Stmt) (t : TS) : Prop :=
  ∀ (pins : List (Addr × Obj)) (s : Shared) (σ : St) (H : Hp) (D : Ends), Inv X pins σ H s → t D σ H → wpAny (model X.prog X.w) X.A (exec st X.env) (SP X pins D) X.xe s
def PSs (X : Cx) (st : List Stmt) (t : TS) : Prop :=
  ∀ (pins : List (Addr × Obj)) (s : Shared) (σ : St) (H : Hp) (D : Ends), Inv X pins σ H s → t D σ H → wpAny (model X.prog X.w) X.A (execs st X.env) (SP X pins D) X.xe s
theorem thn {α : Type} {t : Sem α} {Q Q' : α → Shared → Prop} {M : Model} {A : Around} {E : Value → Shared → Prop} {s : Shared} (h : wpAny M A t Q E s) (hQ : ∀ a s, Q a s → Q' a s) : wpAny M A t Q' E s := wpAny_mono h hQ fun _ _ x => x
end L2
namespace L2
open PySem PySem.Spec PyProof.Rows
section
variable {X : Cx}
def tVar (i : Nat) : TE := fun σ H Q => ∃ v, σ[i]? = some (some v) ∧ Q v H
def tC (v : V) : TE := fun _ H Q => Q v H
theorem pe_var {i : Nat} {x : Str} {pos : Pos} (hN : X.N[i]? = some x) (hv : Vis X.env.scope x) (hd : (x == ("__debug__" : Str)) = false := by decide) (hcd : (x == ("__classdict__" : Str)) = false := by decide) : PE X (.Name x pos) (tVar i) := by
  intro pins s σ H Q I h
  obtain ⟨v, e, h⟩ := h
  obtain ⟨m, hn, hl⟩ := I.loc
  obtain ⟨u, r, l⟩ := hl i x v hN e hv
  have fin : EP X pins σ Q u s := ⟨v, H, I, r, h⟩
  rcases l with ⟨hk, hm⟩ | ⟨hk, c, hc, hcell⟩
  · exact wpAny_Name (wpAny_loadName_local I.ok.kind hk hn hm fin) hd
  · rcases hk with hk | hk
    · exact wpAny_Name (wpAny_loadName_cell I.ok.kind hk hc hcell fin) hd
    · exact wpAny_Name (wpAny_loadName_free I.ok.kind hk hc hcell fin hcd) hd
theorem pe_int {i j pos} : PE X (.Constant (.int i) j pos) (tC (.int i)) := fun _ _ _ H _ I h => wpAny_Constant_int ⟨.int i, H, I.tok _, ⟨_, rfl⟩, h⟩
theorem pe_bl {b j pos} : PE X (.Constant (.bool b) j pos) (tC (.bl b)) := fun _ _ _ H _ I h => Constant_bool ⟨.bl b, H, I, rfl, h⟩
theorem pe_non {j pos} : PE X (.Constant .none j pos) (tC .non) := fun _ _ _ H _ I h => Constant_none ⟨.non, H, I, rfl, h⟩
theorem pe_str {x j pos} : PE X (.Constant (.str x) j pos) (tC (.str x)) := fun _ _ _ H _ I h => Calls.Constant_str ⟨.str x, H, I.tok _, ⟨_, rfl⟩, h⟩
def Gl (X : Cx) (x : Str) : Prop := X.env.kindOf x = some .globalImplicit
theorem ld_glob {E : Value → Shared → Prop} {pins : List (Addr × Obj)} {s : Shared} {σ : St} {H : Hp} {x : Str} {u : Value} {pos : Pos} {Q : Value → Shared → Prop} (I : Inv X pins σ H s) (hg : Gl X x) (hm : X.mg x = some u) (h : Q u s)
    (hd : (x == ("__debug__" : Str)) = false := by decide) : wpAny (model X.prog X.w) X.A (eval (.Name x pos) X.env) Q E s :=
  Calls.Name_function_global I.ok.kind hg (Calls.loadGlobal_global (by rw [I.ok.glob]; exact I.mod.glob.keeps I.bk) hm h) hd
theorem ld_blt {E : Value → Shared → Prop} {pins : List (Addr × Obj)} {s : Shared} {σ : St} {H : Hp} {x : Str} {u : Value} {pos : Pos} {Q : Value → Shared → Prop} (I : Inv X pins σ H s) (hg : Gl X x) (hm : X.mg x = none) (hv : bootBuiltins x = some u) (h : Q u s)
    (hn : x ≠ "__name__" := by decide) (hd : (x == ("__debug__" : Str)) = false := by decide) : wpAny (model X.prog X.w) X.A (eval (.Name x pos) X.env) Q E s := by
  obtain ⟨mb, h1, h2⟩ := I.mod.blt
  exact Calls.Name_function_global I.ok.kind hg (Calls.loadGlobal_builtin (by rw [I.ok.glob]; exact I.mod.glob.keeps I.bk) hm (by rw [I.ok.blt]; exact h1.keeps I.bk) ((h2 x hn).trans hv) h) hd
theorem pe_glob {x : Str} {v : V} {u : Value} {pos : Pos} (hg : Gl X x) (hm : X.mg x = some u) (r : RelV v u) (hd : (x == ("__debug__" : Str)) = false := by decide) : PE X (.Name x pos) (tC v) :=
  fun _ _ _ H _ I h => ld_glob I hg hm ⟨v, H, I, r, h⟩ hd
theorem pe_bltn {x : Str} {v : V} {u : Value} {pos : Pos} (hg : Gl X x) (hm : X.mg x = none) (hv : bootBuiltins x = some u) (r : RelV v u) (hn : x ≠ "__name__" := by decide) (hd : (x == ("__debug__" : Str)) = false := by decide) : PE X (.Name x pos) (tC v) :=
  fun _ _ _ H _ I h => ld_blt I hg hm hv ⟨v, H, I, r, h⟩ hn hd
variable {a b : Expr} {ta tb : TE} {pos : Pos}
def PC (X : Cx) (op : CmpOp) (a b : Expr) (t : TE) : Prop :=
  ∀ (pins : List (Addr × Obj)) (s : Shared) (σ : St) (H : Hp) (Q : VK), Inv X pins σ H s → t σ H Q →
    wpAny (model X.prog X.w) X.A (eval a X.env) (fun v s₁ => wpAny (model X.prog X.w) X.A (eval b X.env) (fun u s₂ => wpAny (model X.prog X.w) X.A (compareOp op v u) (EP X pins σ Q) X.xe s₂) X.xe s₁) X.xe s
theorem nobehind (b : Expr) {op : CmpOp} (h : op ≠ .In) (h2 : op ≠ .NotIn) : behindInMarks op b = false := by
  have e1 : (op == CmpOp.In) = false := by cases op <;> first | rfl | exact absurd rfl h
  have e2 : (op == CmpOp.NotIn) = false := by cases op <;> first | rfl | exact absurd rfl h2
  cases b <;> simp [behindInMarks, e1, e2]
def tIsN (ta : TE) : TE := fun σ H Q => ta σ H fun x H1 => Q (.bl (decide (x = .non))) H1
def tNotN (ta : TE) : TE := fun σ H Q => ta σ H fun x H1 => Q (.bl (!decide (x = .non))) H1
theorem RelV.none_iff {x : V} {v : Value} (r : RelV x v) : (v == Value.none) = decide (x = .non) := by
  cases x with
  | non => cases r; rfl
  | bl _ => cases r; rfl
  | int _ => obtain ⟨t, rfl⟩ := r; rfl
  | str _ => obtain ⟨t, rfl⟩ := r; rfl
  | byt _ => obtain ⟨t, rfl⟩ := r; rfl
  | flt _ => obtain ⟨t, rfl⟩ := r; rfl
  | ref _ => cases r; rfl
  | ty _ => cases r; rfl
theorem pc_isN {j pos'} (ha : PE X a ta) : PC X .Is a (.Constant .none j pos') (tIsN ta) := by
  intro pins s σ H Q I h
  refine thn (ha pins s σ H _ I h) fun v s1 ⟨x, H1, I1, r1, q1⟩ => ?_
  exact Constant_none (is_none_gen ⟨.bl _, H1, I1, by rw [r1.none_iff]; rfl, q1⟩)
theorem pc_notN {j pos'} (ha : PE X a ta) : PC X .IsNot a (.Constant .none j pos') (tNotN ta) := by
  intro pins s σ H Q I h
  refine thn (ha pins s σ H _ I h) fun v s1 ⟨x, H1, I1, r1, q1⟩ => ?_
  exact Constant_none (isnot_none_gen ⟨.bl _, H1, I1, by rw [r1.none_iff]; rfl, q1⟩)
def tB (t : TE) : TT := fun σ H Q => t σ H fun x H1 => ∃ c, x = .bl c ∧ Q c H1
theorem pt_cmp {op : CmpOp} {t : TE} (h : PC X op a b t) (h1 : behindInMarks op b = false := by first | exact nobehind _ (by decide) (by decide) | rfl) : PT X (.Compare a [op] [b] pos) (tB t) := by
  intro pins s σ H Q I hw
  refine wpAny_isTrue_Compare1 (thn (h pins s σ H _ I hw) fun v s1 h1 => thn h1 fun u s2 h2 => thn h2 fun c s3 ⟨x, H1, I1, r1, q1⟩ => ?_) h1
  obtain ⟨d, rfl, q⟩ := q1
  cases r1
  exact wpAny_truthy_bool ⟨H1, I1, q⟩
theorem pt_val {e : Expr} {t : TE} (h : PE X e t) (he : ∀ whole, isTrue e X.env whole = (do let v ← whole; standAt e.pos; holding [v] (truthy v)) := by intro _; rfl) : PT X e (tB t) := by
  intro pins s σ H Q I hw
  refine isTrue_plain (thn (h pins s σ H _ I hw) fun v s1 ⟨x, H1, I1, r1, q1⟩ => ?_) (he _)
  obtain ⟨d, rfl, q⟩ := q1
  cases r1
  exact wpAny_truthy_bool ⟨H1, I1, q⟩
variable {tA tB' : TT} {rest : List Expr}
def tAnd (t u : TT) : TT := fun σ H Q => t σ H fun c H1 => if c = true then u σ H1 Q else Q false H1
def tOr (t u : TT) : TT := fun σ H Q => t σ H fun c H1 => if c = true then Q true H1 else u σ H1 Q
def tNot (t : TT) : TT := fun σ H Q => t σ H fun c H1 => Q (!c) H1
theorem pw_and1 (ha : PT X a tA) : PW X (.BoolOp .And [a] pos) tA := by
  intro wh pins s σ H Q I h
  refine isTrue_and (thn (ha pins s σ H Q I h) fun c s1 e => ?_)
  cases c with
  | true => exact isTrue_and_nil e
  | false => exact e
theorem pw_or1 (ha : PT X a tA) : PW X (.BoolOp .Or [a] pos) tA := by
  intro wh pins s σ H Q I h
  refine isTrue_or (thn (ha pins s σ H Q I h) fun c s1 e => ?_)
  cases c with
  | false => exact isTrue_or_nil e
  | true => exact e
theorem pw_and (ha : PT X a tA) (hb : PW X (.BoolOp .And (b :: rest) pos) tB') : PW X (.BoolOp .And (a :: b :: rest) pos) (tAnd tA tB') := by
  intro wh pins s σ H Q I h
  refine isTrue_and (thn (ha pins s σ H _ I h) fun c s1 ⟨H1, I1, q1⟩ => ?_)
  cases c with
  | true => exact hb wh pins s1 σ H1 Q I1 q1
  | false => exact ⟨H1, I1, q1⟩
theorem pw_or (ha : PT X a tA) (hb : PW X (.BoolOp .Or (b :: rest) pos) tB') : PW X (.BoolOp .Or (a :: b :: rest) pos) (tOr tA tB') := by
  intro wh pins s σ H Q I h
  refine isTrue_or (thn (ha pins s σ H _ I h) fun c s1 ⟨H1, I1, q1⟩ => ?_)
  cases c with
  | true => exact ⟨H1, I1, q1⟩
  | false => exact hb wh pins s1 σ H1 Q I1 q1
theorem pt_not (ha : PT X a tA) : PT X (.UnaryOp .Not a pos) (tNot tA) := by
  intro pins s σ H Q I h
  exact isTrue_not (ha pins s σ H (fun c H1 => Q (!c) H1) I h)
def tAndV (ta tb : TE) : TE := fun σ H Q => ta σ H fun x H1 => ∃ c, x = .bl c ∧ if c = true then tb σ H1 Q else Q (.bl false) H1
theorem pe_one {op} {t : TE} (h : PE X a t) : PE X (.BoolOp op [a] pos) t := fun pins s σ H Q I hw => BoolOp_one (h pins s σ H Q I hw)
theorem pe_and (ha : PE X a ta) (hb : PE X (.BoolOp .And (b :: rest) pos) tb) : PE X (.BoolOp .And (a :: b :: rest) pos) (tAndV ta tb) := by
  intro pins s σ H Q I h
  refine BoolOp_and (thn (ha pins s σ H _ I h) fun v s1 ⟨x, H1, I1, r1, q1⟩ => ?_)
  obtain ⟨c, rfl, q1⟩ := q1
  cases r1
  refine wpAny_truthy_bool ?_
  cases c with
  | true => exact hb pins s1 σ H1 Q I1 q1
  | false => exact ⟨.bl false, H1, I1, rfl, q1⟩
end
end L2
namespace L2
open PySem PySem.Spec PyProof.Rows
def SqL (K : PySem.W.Frag) (H : Hp) (a : Addr) (xs : List V) : Prop :=
  Rd H a (.lst xs) ∨
    ∃ (o : Obj) (its : Array Value) (n : Nat), K.lookup a = some o ∧ o.cls = .type "list" ∧ o.dict = none ∧ o.data = .seq its n ∧ its.size ≤ sizeLine ∧ Vals xs its.toList
def SqT (K : PySem.W.Frag) (H : Hp) (a : Addr) (xs : List V) : Prop :=
  Rd H a (.tup xs) ∨
    ∃ (o : Obj) (its : Array Value) (n : Nat), K.lookup a = some o ∧ o.cls = .type "tuple" ∧ o.data = .seq its n ∧ its.size ≤ sizeLine ∧ Vals xs its.toList
def absV : Value → Option V
  | .none => some .non
  | .bool b => some (.bl b)
  | .int i _ => some (.int i)
  | .str x _ => some (.str x)
  | .bytes b _ => some (.byt b)
  | .float b _ => some (.flt b)
  | .ref a => some (.ref a)
  | .type n => some (.ty n)
  | _ => none
theorem RelV.abs {x : V} {u : Value} (r : RelV x u) : absV u = some x := by
  cases x with
  | non => cases r; rfl
  | bl _ => cases r; rfl
  | int _ => obtain ⟨t, rfl⟩ := r; rfl
  | str _ => obtain ⟨t, rfl⟩ := r; rfl
  | byt _ => obtain ⟨t, rfl⟩ := r; rfl
  | flt _ => obtain ⟨t, rfl⟩ := r; rfl
  | ref _ => cases r; rfl
  | ty _ => cases r; rfl
theorem RelV.inj {x y : V} {u : Value} (r : RelV x u) (q : RelV y u) : x = y := Option.some.inj (r.abs.symm.trans q.abs)
theorem Vals.inj : ∀ {xs ys : List V} {us : List Value}, Vals xs us → Vals ys us → xs = ys
  | _, _, _, .nil, .nil => rfl
  | _, _, _, .cons r t, .cons r' t' => by rw [r.inj r', Vals.inj t t']
section
variable {X : Cx} {pins : List (Addr × Obj)} {σ : St} {H : Hp} {s : Shared} {a : Addr} {xs ys : List V}
theorem SqL.of {K : PySem.W.Frag} (h : H a = some (.lst xs)) : SqL K H a xs := .inl (.inl h)
theorem SqT.of {K : PySem.W.Frag} (h : H a = some (.tup xs)) : SqT K H a xs := .inl (.inl h)
theorem Inv.list (I : Inv X pins σ H s) (h : SqL X.K H a xs) : ∃ its : List Value, Vals xs its ∧ PlainL s.heap a its.toArray ∧ xs.length ≤ sizeLine := by
  rcases h with h | ⟨o, its, n, hk, hc, hd, hs, hz, r⟩
  · obtain ⟨z, its, n, r, e⟩ := h.ok I.hok
    exact ⟨its, r, ⟨_, n, e, rfl, rfl, rfl⟩, z⟩
  · refine ⟨its.toList, r, ⟨o, n, I.kIn a o hk, hc, hd, by simpa using hs⟩, ?_⟩
    have e := r.length
    simp only [Array.length_toList] at e
    omega
theorem Inv.tuple (I : Inv X pins σ H s) (h : SqT X.K H a xs) : ∃ its : List Value, Vals xs its ∧ IsTup s.heap a its.toArray ∧ xs.length ≤ sizeLine := by
  rcases h with h | ⟨o, its, n, hk, hc, hs, hz, r⟩
  · obtain ⟨z, its, r, p⟩ := h.ok I.hok
    exact ⟨its, r, p, z⟩
  · refine ⟨its.toList, r, ⟨o, I.kIn a o hk, hc, n, by simpa using hs⟩, ?_⟩
    have e := r.length
    simp only [Array.length_toList] at e
    omega
theorem Inv.list_inj (I : Inv X pins σ H s) (h : SqL X.K H a xs) (h' : SqL X.K H a ys) : xs = ys := by
  obtain ⟨its, r, ⟨o, n, e, _, _, d⟩, _⟩ := I.list h
  obtain ⟨its', r', ⟨o', n', e', _, _, d'⟩, _⟩ := I.list h'
  rw [e] at e'; cases e'
  rw [d] at d'
  injection d' with d1 _
  have : its = its' := by simpa using congrArg Array.toList d1
  subst this
  exact r.inj r'
theorem Inv.tuple_inj (I : Inv X pins σ H s) (h : SqT X.K H a xs) (h' : SqT X.K H a ys) : xs = ys := by
  obtain ⟨its, r, ⟨o, e, _, n, d⟩, _⟩ := I.tuple h
  obtain ⟨its', r', ⟨o', e', _, n', d'⟩, _⟩ := I.tuple h'
  rw [e] at e'; cases e'
  rw [d] at d'
  injection d' with d1 _
  have : its = its' := by simpa using congrArg Array.toList d1
  subst this
  exact r.inj r'
end
abbrev Cx.wish (X : Cx) (E : Value → Shared → Prop) : Cx := { X with xe := E }
abbrev Cx.nox (X : Cx) : Cx := X.wish fun _ _ => False
theorem Cx.Ok.wish {X : Cx} (ok : X.Ok) (E : Value → Shared → Prop) : (X.wish E).Ok :=
  ⟨ok.mod, ok.kind, ok.glob, ok.blt, ok.above, ok.inj, ok.has, ok.cab, ok.hd, ok.frames, ok.stk, ok.exf, ok.bs, ok.bsz, ok.noex, ok.exfs, ok.funs, ok.frf⟩
theorem Cx.Ok.unwish {X : Cx} {E : Value → Shared → Prop} (ok : (X.wish E).Ok) : X.Ok :=
  ⟨ok.mod, ok.kind, ok.glob, ok.blt, ok.above, ok.inj, ok.has, ok.cab, ok.hd, ok.frames, ok.stk, ok.exf, ok.bs, ok.bsz, ok.noex, ok.exfs, ok.funs, ok.frf⟩
section
variable {X : Cx} {pins : List (Addr × Obj)} {σ : St} {H : Hp} {s : Shared} {E : Value → Shared → Prop}
theorem Inv.wish (I : Inv X pins σ H s) (E : Value → Shared → Prop) : Inv (X.wish E) pins σ H s := ⟨I.ok.wish E, I.os, I.bare, I.base, I.loc, I.cell, I.free, I.freeC, I.pin, I.hok, I.len⟩
theorem Inv.unwish (I : Inv (X.wish E) pins σ H s) : Inv X pins σ H s := ⟨I.ok.unwish, I.os, I.bare, I.base, I.loc, I.cell, I.free, I.freeC, I.pin, I.hok, I.len⟩
theorem SP.unwish {D : Ends} {f : Flow} {s' : Shared} (h : SP (X.wish E) pins D f s') : SP X pins D f s' := by
  cases f with
  | next => obtain ⟨σ', H', I, q⟩ := h; exact ⟨σ', H', I.unwish, q⟩
  | brk => obtain ⟨σ', H', I, q⟩ := h; exact ⟨σ', H', I.unwish, q⟩
  | cont => obtain ⟨σ', H', I, q⟩ := h; exact ⟨σ', H', I.unwish, q⟩
  | ret u => obtain ⟨v, σ', H', I, r, q⟩ := h; exact ⟨v, σ', H', I.unwish, r, q⟩
theorem PE.nox {e : Expr} {t : TE} (h : PE X.nox e t) : PE X e t := fun pins s σ H Q I hw =>
  wpAny_mono (h pins s σ H Q (I.wish _) hw) (fun _ _ ⟨v, H', I', r, q⟩ => ⟨v, H', I'.unwish, r, q⟩) fun _ _ z => False.elim z
theorem PT.nox {e : Expr} {t : TT} (h : PT X.nox e t) : PT X e t := fun pins s σ H Q I hw =>
  wpAny_mono (h pins s σ H Q (I.wish _) hw) (fun _ _ ⟨H', I', q⟩ => ⟨H', I'.unwish, q⟩) fun _ _ z => False.elim z
theorem PSs.nox {st : List Stmt} {t : TS} (h : PSs X.nox st t) : PSs X st t := fun pins s σ H D I hw =>
  wpAny_mono (h pins s σ H D (I.wish _) hw) (fun _ _ q => q.unwish) fun _ _ z => False.elim z
end
section
variable {X : Cx} {st : Stmt} {rest : List Stmt} {t u : TS} {e : Expr} {te : TE} {pos : Pos}
def tNext : TS := fun D σ H => D.nx σ H
def tSeq (t u : TS) : TS := fun D σ H => t { D with nx := u D } σ H
theorem pss_nil : PSs X [] tNext := fun _ _ σ H _ I h => wpAny_execs_nil ⟨σ, H, I, h⟩
theorem pss_cons (h1 : PS X st t) (h2 : PSs X rest u) : PSs X (st :: rest) (tSeq t u) := by
  intro pins s σ H D I h
  refine wpAny_execs_cons (thn (h1 pins s σ H { D with nx := u D } I h) fun f s1 q => ?_)
  cases f with
  | next =>
    obtain ⟨σ', H', I', q⟩ := q
    exact h2 pins s1 σ' H' D I' q
  | ret v => exact q
  | brk => exact q
  | cont => exact q
theorem pss_one (h1 : PS X st t) : PSs X [st] t := by
  intro pins s σ H D I h
  refine wpAny_execs_cons (thn (h1 pins s σ H D I h) fun f s1 q => ?_)
  cases f with
  | next => exact wpAny_execs_nil q
  | ret v => exact q
  | brk => exact q
  | cont => exact q
theorem Inv.quiet {pins : List (Addr × Obj)} {σ : St} {H : Hp} {s : Shared} (I : Inv X pins σ H s) : interactive X.env = false := by simp [interactive, I.ok.kind]
def tDrop (te : TE) : TS := fun D σ H => te σ H fun _ H1 => D.nx σ H1
theorem ps_expr (he : PE X e te) (hs : swapsWith e none pos.line X.env = pure false := by rfl) : PS X (.Expr e pos) (tDrop te) := by
  intro pins s σ H D I h
  exact wpAny_Expr_any (thn (he pins s σ H _ I h) fun v s1 ⟨x, H1, I1, r1, q1⟩ => ⟨σ, H1, I1, q1⟩) I.quiet hs
def tRet (te : TE) : TS := fun D σ H => te σ H D.rt
theorem ps_ret (he : PE X e te) : PS X (.Return (some e) pos) (tRet te) := by
  intro pins s σ H D I h
  exact wpAny_Return_some (thn (he pins s σ H _ I h) fun v s1 ⟨x, H1, I1, r1, q1⟩ => ⟨x, σ, H1, I1, r1, q1⟩)
def tIfS (c : TT) (t u : TS) : TS := fun D σ H => c σ H fun b H1 => if b = true then t D σ H1 else u D σ H1
theorem ps_if {c : Expr} {a b : List Stmt} {tc : TT} (hc : PT X c tc) (ha : PSs X a t) (hb : PSs X b u) : PS X (.If c a b pos) (tIfS tc t u) := by
  intro pins s σ H D I h
  refine wpAny_If (thn (hc pins s σ H _ I h) fun d s1 ⟨H1, I1, q1⟩ => ?_)
  cases d with
  | true => exact ha pins s1 σ H1 D I1 q1
  | false => exact hb pins s1 σ H1 D I1 q1
end
abbrev TG := V → St → Hp → (St → Hp → Prop) → Prop
abbrev TGs := List V → St → Hp → (St → Hp → Prop) → Prop
def PG (X : Cx) (target : Expr) (t : TG) : Prop :=
  ∀ (pins : List (Addr × Obj)) (s : Shared) (σ : St) (H : Hp) (v : V) (u : Value) (Q : St → Hp → Prop), Inv X pins σ H s → RelV v u → t v σ H Q →
    wpAny (model X.prog X.w) X.A (assign target X.env u) (fun _ s' => ∃ σ' H', Inv X pins σ' H' s' ∧ Q σ' H') X.xe s
def PGs (X : Cx) (ts : List Expr) (t : TGs) : Prop :=
  ∀ (pins : List (Addr × Obj)) (s : Shared) (σ : St) (H : Hp) (vs : List V) (us : List Value) (Q : St → Hp → Prop), Inv X pins σ H s → Vals vs us → t vs σ H Q →
    wpAny (model X.prog X.w) X.A (assignInOrder ((assignEach ts X.env).map (·.2)) us) (fun _ s' => ∃ σ' H', Inv X pins σ' H' s' ∧ Q σ' H') X.xe s
abbrev TSet := V → V → V → Hp → (Hp → Prop) → Prop
def PSet (X : Cx) (t : TSet) : Prop :=
  ∀ (pins : List (Addr × Obj)) (s : Shared) (σ : St) (H : Hp) (o i v : V) (ov iv u : Value) (Q : Hp → Prop), Inv X pins σ H s → RelV o ov → RelV i iv → RelV v u → t o i v H Q →
    wpAny (model X.prog X.w) X.A (setItem ov iv u) (fun _ s' => ∃ H', Inv X pins σ H' s' ∧ Q H') X.xe s
abbrev TIp := V → V → Hp → VK → Prop
def PIp (X : Cx) (op : Operator) (t : TIp) : Prop :=
  ∀ (pins : List (Addr × Obj)) (s : Shared) (σ : St) (H : Hp) (x y : V) (v u : Value) (Q : VK), Inv X pins σ H s → RelV x v → RelV y u → t x y H Q →
    wpAny (model X.prog X.w) X.A (inplaceOp op v u) (EP X pins σ Q) X.xe s
section
variable {X : Cx} {pos : Pos}
def gName (i : Nat) : TG := fun v σ H Q => Q (σ.set i (some v)) H
theorem pg_name {i : Nat} {x : Str} (hN : X.N.Nodup) (hi : X.N[i]? = some x) (hx : Loc X.env.scope x) (hf : X.fn x = true ∨ X.env.scope.names.lookup x = some .local := by first | exact .inl rfl | exact .inr rfl | assumption) : PG X (.Name x pos) (gName i) := by
  intro pins s σ H v u Q I r h
  exact wpAny_assign_Name (store_ok I hN hi hx r (fun s' I' => ⟨_, H, I', h⟩) hf)
def gNil : TGs := fun vs σ H Q => vs = [] ∧ Q σ H
def gCons (t : TG) (u : TGs) : TGs := fun vs σ H Q => ∃ v r, vs = v :: r ∧ t v σ H fun σ' H' => u r σ' H' Q
theorem pgs_nil : PGs X [] gNil := by
  intro pins s σ H vs us Q I r h
  obtain ⟨e, h⟩ := h
  subst e
  cases r
  exact assignInOrder_nil ⟨σ, H, I, h⟩
theorem pgs_cons {e : Expr} {es : List Expr} {t : TG} {u : TGs} (h1 : PG X e t) (h2 : PGs X es u)
    (hs : (assignEach (e :: es) X.env).map (·.2) = assign e X.env :: (assignEach es X.env).map (·.2) := by rfl) : PGs X (e :: es) (gCons t u) := by
  intro pins s σ H vs us Q I r h
  obtain ⟨v, vr, e1, h⟩ := h
  subst e1
  cases r with
  | cons r rr =>
    rw [hs]
    refine assignInOrder_cons (thn (h1 pins s σ H _ _ _ I r h) fun _ s1 ⟨σ1, H1, I1, q1⟩ => ?_)
    exact h2 pins s1 σ1 H1 _ _ Q I1 rr q1
def gTup (K : PySem.W.Frag) (n : Nat) (t : TGs) : TG := fun v σ H Q => ∃ a xs, v = .ref a ∧ SqT K H a xs ∧ xs.length = n ∧ t xs σ H Q
theorem pg_tup {es : List Expr} {k : Nat} {t : TGs} {n : Nat} (hc : X.calm = true) (h : PGs X es t)
    (hn : (assignEach es X.env).length = n := by rfl) (hst : (assignEach es X.env).findIdx? (·.1) = none := by rfl) : PG X (.Tuple es k pos) (gTup X.K n t) := by
  intro pins s σ H v u Q I r hw
  obtain ⟨a, xs, e1, hq, hl, hw⟩ := hw
  subst e1
  cases r
  obtain ⟨its, rv, ht, hz⟩ := I.tuple hq
  refine assign_Tuple_tuple (I.ok.hd hc) ht (by simp [hn, ← hl, rv.length]) hst fun h' hx => ?_
  have I1 : Inv X pins σ H { s with heap := h' } := I.kept (t' := s.toks) fun b o e => hx b o (Nat.ne_of_lt (Heap.lt_size e)) e
  exact h pins _ σ H xs _ Q I1 (by simpa using rv) hw
def gSub (to ti : TE) (t : TSet) : TG := fun v σ H Q => to σ H fun o H1 => ti σ H1 fun i H2 => t o i v H2 fun H3 => Q σ H3
theorem pg_sub {o i : Expr} {to ti : TE} {t : TSet} (ho : PE X o to) (hi : PE X i ti) (hs : PSet X t)
    (ha : ∀ v, assign (.Subscript o i pos) X.env v = (do
      let ov ← holding [v] (eval o X.env)
      let iv ← holding [v, ov] (eval i X.env)
      standAt pos
      holding [v, ov, iv] (setItem ov iv v)
      release [v, ov, iv] []) := by intro _; rfl) : PG X (.Subscript o i pos) (gSub to ti t) := by
  intro pins s σ H v u Q I r h
  rw [ha]
  refine wpAny_bind (wpAny_holding (thn (ho pins s σ H _ I h) fun ov s1 ⟨x, H1, I1, r1, q1⟩ => ?_))
  refine wpAny_bind (wpAny_holding (thn (hi pins s1 σ H1 _ I1 q1) fun iv s2 ⟨y, H2, I2, r2, q2⟩ => ?_))
  refine wpAny_bind (wpAny_standAt (wpAny_bind (wpAny_holding (thn (hs pins s2 σ H2 x y v ov iv u _ I2 r1 r2 r q2) fun _ s3 ⟨H3, I3, q3⟩ => ?_))))
  exact wpAny_release ⟨σ, H3, I3, q3⟩
def tAsg (te : TE) (g : TG) : TS := fun D σ H => te σ H fun x H1 => g x σ H1 D.nx
theorem ps_asg {tg e : Expr} {te : TE} {g : TG} (he : PE X e te) (hg : PG X tg g) (hs : swapsWithSole [tg] e pos.line X.env = pure false := by rfl) (hw : swappedStores [tg] e X.env = pure none := by rfl)
    (h1 : (assignEach [tg] X.env).map (·.2) = [assign tg X.env] := by rfl) : PS X (.Assign [tg] e pos) (tAsg te g) := by
  intro pins s σ H D I h
  refine wpAny_Assign_stores (thn (he pins s σ H _ I h) fun v s1 ⟨x, H1, I1, r1, q1⟩ => ?_) hs hw
  rw [h1]
  exact thn (hg pins s1 σ H1 x v _ I1 r1 q1) fun _ s2 q => q
theorem ps_set {i : Nat} {x : Str} {e : Expr} {te : TE} {pos' : Pos} (hN : X.N.Nodup) (hi : X.N[i]? = some x) (hx : Loc X.env.scope x) (he : PE X e te) (hs : swapsWith e (some (.Name x pos')) pos.line X.env = pure false := by rfl) (hf : X.fn x = true ∨ X.env.scope.names.lookup x = some .local := by first | exact .inl rfl | exact .inr rfl | assumption) :
    PS X (.Assign [.Name x pos'] e pos) (tAsg te (gName i)) := by
  intro pins s σ H D I h
  refine wpAny_Assign_Name (thn (he pins s σ H _ I h) fun v s1 ⟨y, H1, I1, r1, q1⟩ => ?_) hs
  exact store_ok I1 hN hi hx r1 (fun s2 I2 => ⟨_, H1, I2, q1⟩) hf
def tAug (i : Nat) (te : TE) (ti : TIp) : TS := fun D σ H => ∃ x, σ[i]? = some (some x) ∧ te σ H fun y H1 => ti x y H1 fun z H2 => D.nx (σ.set i (some z)) H2
theorem ps_aug {i : Nat} {x : Str} {e : Expr} {te : TE} {op : Operator} {ti : TIp} {pos' : Pos} (hN : X.N.Nodup) (hi : X.N[i]? = some x) (hx : Loc X.env.scope x) (he : PE X e te) (ho : PIp X op ti) (hf : X.fn x = true ∨ X.env.scope.names.lookup x = some .local := by first | exact .inl rfl | exact .inr rfl | assumption) :
    PS X (.AugAssign (.Name x pos') op e pos) (tAug i te ti) := by
  intro pins s σ H D I h
  obtain ⟨v, e1, h⟩ := h
  obtain ⟨m, hn, hl⟩ := I.loc
  have vis : Vis X.env.scope x := by rcases hx with k | k; exact .inl k; exact .inr (.inl k)
  obtain ⟨u, r, l⟩ := hl i x v hi e1 vis
  refine wpAny_AugAssign_Name ?_
  have go : wpAny (model X.prog X.w) X.A (eval e X.env) (fun w s₂ => wpAny (model X.prog X.w) X.A (inplaceOp op u w) (fun r s₃ => wpAny (model X.prog X.w) X.A (storeName X.env x r) (fun _ => SP X pins D .next) X.xe s₃) X.xe s₂) X.xe s := by
    refine thn (he pins s σ H _ I h) fun w s1 ⟨y, H1, I1, r1, q1⟩ => ?_
    refine thn (ho pins s1 σ H1 v y u w _ I1 r r1 q1) fun z s2 ⟨zv, H2, I2, r2, q2⟩ => ?_
    exact store_ok I2 hN hi hx r2 (fun s3 I3 => ⟨_, H2, I3, q2⟩) hf
  rcases l with ⟨hk, hm⟩ | ⟨hk, c, hc, hcell⟩
  · exact wpAny_loadName_local I.ok.kind hk hn hm go
  · rcases hk with hk | hk
    · exact wpAny_loadName_cell I.ok.kind hk hc hcell go
    · rcases hx with k | k
      · have : X.env.scope.names.lookup x = some .free := hk
        rw [k] at this; cases this
      · have : X.env.scope.names.lookup x = some .free := hk
        rw [k] at this; cases this
end
section
variable {X : Cx} {pos : Pos}
def tWhile (c : TT) (tb : TS) : TS := fun D σ H => ∃ W : Nat → St → Hp → Prop, (∃ m, W m σ H) ∧ ∀ m σ H, W m σ H →
  c σ H fun b H1 => if b = true then ∃ N : St → Hp → Prop, (∀ σ' H', N σ' H' → ∃ m', m' < m ∧ W m' σ' H') ∧ tb { D with nx := N, ct := N, bk := D.nx } σ H1 else D.nx σ H1
theorem ps_while {c : Expr} {body : List Stmt} {tc : TT} {tb : TS} (hp : PassesOwn (model X.prog X.w) X.A X.env X.xe) (hc : PT X c tc) (hb : PSs X body tb) : PS X (.While c body [] pos) (tWhile tc tb) := by
  intro pins s σ H D I h
  obtain ⟨W, ⟨m0, w0⟩, turn⟩ := h
  refine wpAny_While (codeAny_whileLoop (fun n s' => ∃ σ' H', Inv X pins σ' H' s' ∧ W n σ' H') ?_ m0 ⟨σ, H, I, w0⟩)
  rintro n s1 ⟨σ1, H1, I1, w1⟩
  refine wpAny_passesOwn hp (thn (hc pins s1 σ1 H1 _ I1 (turn n σ1 H1 w1)) fun b s2 ⟨H2, I2, q2⟩ => ?_)
  cases b with
  | true =>
    obtain ⟨N, hN, q2⟩ := q2
    rw [if_pos rfl]
    refine wpAny_passesOwn hp (thn (hb pins s2 σ1 H2 _ I2 q2) fun f s3 q3 => ?_)
    cases f with
    | next =>
      obtain ⟨σ3, H3, I3, n3⟩ := q3
      obtain ⟨m', hm, w3⟩ := hN σ3 H3 n3
      exact ⟨m', hm, σ3, H3, I3, w3⟩
    | cont =>
      obtain ⟨σ3, H3, I3, n3⟩ := q3
      obtain ⟨m', hm, w3⟩ := hN σ3 H3 n3
      exact ⟨m', hm, σ3, H3, I3, w3⟩
    | brk => exact q3
    | ret v => exact q3
  | false =>
    rw [if_neg Bool.false_ne_true]
    exact wpAny_execs_nil ⟨σ1, H2, I2, q2⟩
end
structure It where
  go : Nat → Hp → Prop
  yld : Nat → Hp → V → Hp → Prop
  stop : Nat → Hp → Prop
def FpOk (X : Cx) (pins : List (Addr × Obj)) (H : Hp) (b : Addr) : Prop :=
  H b = none ∧ b ≠ X.env.locals ∧ b ∉ X.fs ∧ (b ∈ X.ex ∨ X.s₀.heap.objs.size ≤ b) ∧ (∀ x c, X.env.cells.lookup x = some c → c ≠ b) ∧ ∀ p ∈ X.pn ++ pins, p.1 ≠ b
theorem Inv.fpOk {X : Cx} {pins : List (Addr × Obj)} {σ : St} {H H' : Hp} {s : Shared} {b : Addr} (I : Inv X pins σ H s) (hb : s.heap.objs.size ≤ b) (hn : H' b = none) : FpOk X pins H' b := by
  refine ⟨hn, Nat.ne_of_gt (Nat.lt_of_lt_of_le I.lt hb), I.nofs hb, .inr (Nat.le_trans I.sz hb), fun x c e z => ?_, fun p hp z => ?_⟩
  · obtain ⟨v, q⟩ := I.cell x c e
    exact absurd (Nat.lt_of_lt_of_le q.lt (by rw [z]; exact hb)) (Nat.lt_irrefl _)
  · exact absurd (Nat.lt_of_lt_of_le (Heap.lt_size (I.pin p hp).1) (by rw [z]; exact hb)) (Nat.lt_irrefl _)
structure Turn (P : Program) (w : World) (K : PySem.W.Frag) (tg : Expr) (J : It) (fp : List Addr) (it : Addr) (tn : Nat → Heap → Prop) : Prop where
  mem : it ∈ fp
  obj : ∀ i h, tn i h → ∀ b ∈ fp, ∃ o, h.get? b = some o ∧ ∀ v, o.data ≠ .cell v
  keep : ∀ i h h', tn i h → (∀ b ∈ fp, ∀ o, h.get? b = some o → h'.get? b = some o) → tn i h'
  item : ∀ (X : Cx), X.prog = P → X.w = w → X.K = K → X.calm = true → ∀ (i : Nat) (pins : List (Addr × Obj)) (s : Shared) (σ : St) (H : Hp) (E : Value → Shared → Prop), Inv X pins σ H s → (∀ b ∈ fp, FpOk X pins H b) → tn i s.heap → J.go i H →
    wpAny (model P w) X.A (pyNext (.ref it)) (fun r s1 => ∃ u, r = some u ∧
      wpAny (model P w) X.A (letOwnedTupleGo tg (.ref it) u) (fun _ s2 => ∃ x H', Inv X pins σ H' s2 ∧ RelV x u ∧ J.yld i H x H' ∧ tn (i + 1) s2.heap ∧ ∀ b ∈ fp, H' b = none) E s1) E s
  done : ∀ (X : Cx), X.prog = P → X.w = w → X.K = K → X.calm = true → ∀ (i : Nat) (pins : List (Addr × Obj)) (s : Shared) (σ : St) (H : Hp) (E : Value → Shared → Prop), Inv X pins σ H s → (∀ b ∈ fp, FpOk X pins H b) → tn i s.heap → J.stop i H →
    wpAny (model P w) X.A (pyNext (.ref it)) (fun r s1 => r = none ∧ Inv X pins σ H s1) E s
  self : ∀ (A : Around) (i : Nat) (s : Shared) (Q : Value → Shared → Prop) (E : Value → Shared → Prop), tn i s.heap → Q (.ref it) s → wpAny (model P w) A (pyIter (.ref it)) Q E s
abbrev TI := St → Hp → (It → Hp → Prop) → Prop
def PIE (X : Cx) (pins : List (Addr × Obj)) (σ : St) (tg : Expr) (R : It → Hp → Prop) (itv : Value) (s2 : Shared) : Prop :=
  ∃ (it : Addr) (fp : List Addr) (tn : Nat → Heap → Prop) (J : It) (H' : Hp), itv = .ref it ∧ Inv X pins σ H' s2 ∧ Turn X.prog X.w X.K tg J fp it tn ∧ tn 0 s2.heap ∧ (∀ b ∈ fp, FpOk X pins H' b) ∧ R J H'
def PI (X : Cx) (tg iter : Expr) (wi : TI) : Prop :=
  ∀ (pins : List (Addr × Obj)) (s : Shared) (σ : St) (H : Hp) (R : It → Hp → Prop), Inv X pins σ H s → wi σ H R →
    wpAny (model X.prog X.w) X.A (eval iter X.env) (fun v s1 => wpAny (model X.prog X.w) X.A (pyIter v) (PIE X pins σ tg R) X.xe s1) X.xe s
theorem go_of {M : Model} {A : Around} {E : Value → Shared → Prop} {s : Shared} {tg : Expr} {it : Addr} {u : Value} {o : Obj} {n : String} {vs : Array Value} {Q : Unit → Shared → Prop} (ho : s.heap.get? it = some o) (hc : o.cls = .type n) (hd : o.data = .fields vs)
    (hn : ["enumerate", "zip", "dict_itemiterator", "dict_reverseitemiterator", "odict_iterator", "itertools.zip_longest", "itertools.pairwise"].contains n = false) (hQ : Q () s) : wpAny M A (letOwnedTupleGo tg (.ref it) u) Q E s := by
  unfold letOwnedTupleGo
  cases tg <;> first
    | exact wpAny_pure hQ
    | (cases u <;> first
        | exact wpAny_pure hQ
        | (refine wpAny_bind (wpAny_load ho ?_)
           rw [hc, hd]
           show wpAny M A (if (["enumerate", "zip", "dict_itemiterator", "dict_reverseitemiterator", "odict_iterator", "itertools.zip_longest", "itertools.pairwise"].contains n && vs[0]? == some (rawInt _)) = true then _ else _) Q E s
           rw [if_neg (by intro h; rw [hn, Bool.false_and] at h; cases h)]
           exact wpAny_pure hQ))
def Itl (K : PySem.W.Frag) (a : Addr) : It :=
  ⟨fun i H => ∃ xs x, SqL K H a xs ∧ xs[i]? = some x, fun i H x H' => H' = H ∧ ∀ xs, SqL K H a xs → xs[i]? = some x, fun i H => ∃ xs, SqL K H a xs ∧ xs.length ≤ i⟩
def Itt (K : PySem.W.Frag) (a : Addr) : It :=
  ⟨fun i H => ∃ xs x, SqT K H a xs ∧ xs[i]? = some x, fun i H x H' => H' = H ∧ ∀ xs, SqT K H a xs → xs[i]? = some x, fun i H => ∃ xs, SqT K H a xs ∧ xs.length ≤ i⟩
def Itr (lo : Int) (n : Nat) : It := ⟨fun i _ => i < n, fun i H x H' => H' = H ∧ x = .int (lo + i), fun i _ => n ≤ i⟩
theorem turn_list {P : Program} {w : World} {K : PySem.W.Frag} {tg : Expr} (a it : Addr) : Turn P w K tg (Itl K a) [it] it (fun i h => h.IsListIter it a i) where
  mem := by simp
  obj := fun i h st b hb => by
    have e : b = it := by simpa using hb
    subst e
    obtain ⟨o, e, c, d⟩ := st
    exact ⟨o, e, fun v z => by rw [d] at z; cases z⟩
  keep := fun i h h' st k => st.at fun o e => k it (by simp) o e
  item := by
    intro X hP hw hK hc i pins s σ H E I hf st hg
    subst hP hw hK
    obtain ⟨xs, x, hq, hx⟩ := hg
    obtain ⟨its, rv, p, hz⟩ := I.list hq
    obtain ⟨u, hu, ru⟩ := rv.get hx
    obtain ⟨f0, f1, f2, f3, f4, f5⟩ := hf it (by simp)
    refine wpAny_pyNext_list_item st p.isList (x := u) (by simpa using hu) fun h' st' sb => ?_
    have I1 : Inv X pins σ H { s with heap := h' } := I.turned (t' := s.toks) (fun b o hb e => (sb.2 b hb).trans e) f0 f1 f3 f4 f5
    obtain ⟨o, e, c, d⟩ := id st'
    exact ⟨u, rfl, go_of (s := { s with heap := h' }) e c d (by decide) ⟨x, H, I1, ru, ⟨rfl, fun ys hy => by rw [I.list_inj hy hq]; exact hx⟩, st', fun b hb => (hf b hb).1⟩⟩
  done := by
    intro X hP hw hK hc i pins s σ H E I hf st hg
    subst hP hw hK
    obtain ⟨xs, hq, hx⟩ := hg
    obtain ⟨its, rv, p, hz⟩ := I.list hq
    obtain ⟨f0, f1, f2, f3, f4, f5⟩ := hf it (by simp)
    have hl := rv.length
    exact wpAny_pyNext_list_end (I.ok.hd hc) st p.isList (by simp; omega) fun h' eb => ⟨rfl, I.turned (t' := s.toks) (fun b o hb e => eb b o hb e) f0 f1 f3 f4 f5⟩
  self := fun _ _ _ _ _ st h => wpAny_pyIter_listiter st h
theorem turn_tuple {P : Program} {w : World} {K : PySem.W.Frag} {tg : Expr} (a it : Addr) : Turn P w K tg (Itt K a) [it] it (fun i h => h.IsTupleIter it a i) where
  mem := by simp
  obj := fun i h st b hb => by
    have e : b = it := by simpa using hb
    subst e
    obtain ⟨o, e, c, d⟩ := st
    exact ⟨o, e, fun v z => by rw [d] at z; cases z⟩
  keep := fun i h h' st k => st.at fun o e => k it (by simp) o e
  item := by
    intro X hP hw hK hc i pins s σ H E I hf st hg
    subst hP hw hK
    obtain ⟨xs, x, hq, hx⟩ := hg
    obtain ⟨its, rv, p, hz⟩ := I.tuple hq
    obtain ⟨u, hu, ru⟩ := rv.get hx
    obtain ⟨f0, f1, f2, f3, f4, f5⟩ := hf it (by simp)
    refine wpAny_pyNext_tuple_item st (show s.heap.IsTuple a its.toArray from p) (x := u) (by simpa using hu) fun h' st' sb => ?_
    have I1 : Inv X pins σ H { s with heap := h' } := I.turned (t' := s.toks) (fun b o hb e => (sb.2 b hb).trans e) f0 f1 f3 f4 f5
    obtain ⟨o, e, c, d⟩ := id st'
    exact ⟨u, rfl, go_of (s := { s with heap := h' }) e c d (by decide) ⟨x, H, I1, ru, ⟨rfl, fun ys hy => by rw [I.tuple_inj hy hq]; exact hx⟩, st', fun b hb => (hf b hb).1⟩⟩
  done := by
    intro X hP hw hK hc i pins s σ H E I hf st hg
    subst hP hw hK
    obtain ⟨xs, hq, hx⟩ := hg
    obtain ⟨its, rv, p, hz⟩ := I.tuple hq
    obtain ⟨f0, f1, f2, f3, f4, f5⟩ := hf it (by simp)
    have hl := rv.length
    exact wpAny_pyNext_tuple_end (I.ok.hd hc) st (show s.heap.IsTuple a its.toArray from p) (by simp; omega) fun h' eb => ⟨rfl, I.turned (t' := s.toks) (fun b o hb e => eb b o hb e) f0 f1 f3 f4 f5⟩
  self := fun _ _ _ _ _ st h => wpAny_pyIter_tupleiter st h
theorem turn_range {P : Program} {w : World} {K : PySem.W.Frag} {tg : Expr} (it : Addr) (lo : Int) (n : Nat) : Turn P w K tg (Itr lo n) [it] it (fun i h => IsRangeIter h it (lo + (i : Nat) * 1) ((n : Int) - (i : Nat)) 1) where
  mem := by simp
  obj := fun i h st b hb => by
    have e : b = it := by simpa using hb
    subst e
    exact ⟨_, st, fun v z => by
      have z' : Data.fields _ = Data.cell v := z
      cases z'⟩
  keep := fun i h h' st k => k it (by simp) _ st
  item := by
    intro X hP hw hK hc i pins s σ H E I hf st hg
    subst hP hw hK
    obtain ⟨f0, f1, f2, f3, f4, f5⟩ := hf it (by simp)
    have W := Walks.range (prog := X.prog) (w := X.w) (I.ok.hd hc) it lo 1 n
    refine W.item i s _ _ hg st fun v h' tk hv st' kk => ?_
    obtain ⟨t, rfl⟩ := hv
    have I1 : Inv X pins σ H { s with heap := h', toks := tk } := I.turned (fun b o hb e => kk b o (by simpa using hb) e) f0 f1 f3 f4 f5
    refine ⟨_, rfl, go_of (s := { s with heap := h', toks := tk }) (n := "range_iterator") st' rfl rfl (by decide) ⟨.int (lo + i), H, I1, ⟨t, ?_⟩, ⟨rfl, rfl⟩, st', fun b hb => (hf b hb).1⟩⟩
    rw [Int.mul_one]
  done := by
    intro X hP hw hK hc i pins s σ H E I hf st hg
    subst hP hw hK
    obtain ⟨f0, f1, f2, f3, f4, f5⟩ := hf it (by simp)
    exact wpAny_pyNext_range_end (I.ok.hd hc) st (by have : n ≤ i := hg; omega) fun h' eb => ⟨rfl, I.turned (t' := s.toks) (fun b o hb e => eb b o hb e) f0 f1 f3 f4 f5⟩
  self := fun _ _ _ _ _ st h => wpAny_pyIter_rangeiter st h
end L2
namespace L2
open PySem PySem.Spec PyProof.Rows
section
variable {X : Cx} {tg : Expr}
theorem range_it {pins : List (Addr × Obj)} {σ : St} {H : Hp} {s : Shared} {R : It → Hp → Prop} {E : Value → Shared → Prop} {lo hi : Int} {t u v : Tok} {tk : Nat} (I : Inv X pins σ H s) (h1 : -(2 ^ 62) ≤ lo) (h2 : lo < 2 ^ 62) (h3 : -(2 ^ 62) ≤ hi) (h4 : hi < 2 ^ 62)
    (q : R (Itr lo (hi - lo).toNat) H) : wpAny (model X.prog X.w) X.A (pyIter (.ref s.heap.objs.size)) (PIE X pins σ tg R) E { s with heap := s.heap.push { cls := .type "range", data := .fields #[.int lo t, .int hi u, .int 1 v] }, toks := tk } := by
  refine wpAny_pyIter_range (IsRange.new ..) (small_one h1 h2 h3 h4) ?_
  have I1 : Inv X pins σ H { s with heap := s.heap.push { cls := .type "range", data := .fields #[.int lo t, .int hi u, .int 1 v] }, toks := tk } := I.kept fun b o e => Heap.get?_push_of_some _ e
  refine ⟨(s.heap.push { cls := .type "range", data := .fields #[.int lo t, .int hi u, .int 1 v] }).objs.size, [(s.heap.push { cls := .type "range", data := .fields #[.int lo t, .int hi u, .int 1 v] }).objs.size], _, _, H, rfl,
    I1.kept (t' := tk) fun b o e => Heap.get?_push_of_some _ e, turn_range _ lo (hi - lo).toNat, ?_, fun b hb => ?_, q⟩
  · have e1 : lo + ((0 : Nat) : Int) * 1 = lo := by simp
    have e2 : (((hi - lo).toNat : Nat) : Int) - ((0 : Nat) : Int) = Builtin.Range.rangeSize lo hi 1 := by rw [rangeSize_one]; split <;> omega
    show IsRangeIter _ _ (lo + ((0 : Nat) : Int) * 1) ((((hi - lo).toNat : Nat) : Int) - ((0 : Nat) : Int)) 1
    rw [e1, e2]
    exact Heap.get?_push_size _ rfl
  · have e : b = (s.heap.push { cls := .type "range", data := .fields #[.int lo t, .int hi u, .int 1 v] }).objs.size := by simpa using hb
    subst e
    exact I1.fpOk (Nat.le_refl _) (I1.hok.fresh (Nat.le_refl _))
def iRng1 (ta : TA) : TI := fun σ H R => ta σ H fun vs H1 => ∃ j : Int, vs = [.int j] ∧ -(2 ^ 62) ≤ j ∧ j < 2 ^ 62 ∧ R (Itr 0 j.toNat) H1
theorem pi_range1 {a : Expr} {ta : TA} {p pos : Pos} (hg : Gl X "range") (hm : X.mg "range" = none) (ha : PA X [a] ta) (hs : starEach [a] X.env = [(false, eval a X.env)] := by rfl) : PI X tg (.Call (.Name "range" p) [a] [] pos) (iRng1 ta) := by
  intro pins s σ H R I h
  refine Call_ (ld_blt I hg hm boot_range (PyProof.Rows.callWith_type1 (thn (ha pos pins s σ H _ I h) fun us s1 ⟨vs, H1, I1, r1, q1⟩ => ?_) hs rfl))
  obtain ⟨j, e, q1, q2, q⟩ := q1
  subst e
  cases r1 with
  | cons r rr =>
    cases rr
    obtain ⟨t, rfl⟩ := r
    exact call_range_1 (range_it I1 (by omega) (by omega) q1 q2 (by simpa using q))
def tFor (wi : TI) (g : TG) (tb : TS) : TS := fun D σ H => wi σ H fun J H1 => ∃ W : Nat → Nat → St → Hp → Prop, (∃ m, W 0 m σ H1) ∧ ∀ i m σ H, W i m σ H →
  (J.stop i H ∧ D.nx σ H) ∨ (J.go i H ∧ ∃ N : St → Hp → Prop, (∀ σ' H', N σ' H' → ∃ m', m' < m ∧ W (i + 1) m' σ' H') ∧ ∀ x H', J.yld i H x H' → g x σ H' fun σ2 H2 => tb { D with nx := N, ct := N, bk := D.nx } σ2 H2)
def pinsAt (fp : List Addr) (h : Heap) : List (Addr × Obj) := fp.filterMap fun b => (h.get? b).map fun o => (b, o)
theorem mem_pinsAt {fp : List Addr} {h : Heap} {b : Addr} {o : Obj} (hb : b ∈ fp) (e : h.get? b = some o) : (b, o) ∈ pinsAt fp h := List.mem_filterMap.mpr ⟨b, hb, by rw [e]; rfl⟩
theorem of_pinsAt {fp : List Addr} {h : Heap} {p : Addr × Obj} (hp : p ∈ pinsAt fp h) : p.1 ∈ fp ∧ h.get? p.1 = some p.2 := by
  obtain ⟨b, hb, e⟩ := List.mem_filterMap.mp hp
  cases q : h.get? b with
  | none => rw [q] at e; cases e
  | some o =>
    rw [q] at e
    have e' : (b, o) = p := Option.some.inj e
    subst e'
    exact ⟨hb, q⟩
theorem Inv.pinned {pins : List (Addr × Obj)} {σ : St} {H : Hp} {s : Shared} {fp : List Addr} (I : Inv X pins σ H s) (hf : ∀ b ∈ fp, FpOk X pins H b) (ho : ∀ b ∈ fp, ∃ o, s.heap.get? b = some o ∧ ∀ v, o.data ≠ .cell v) : Inv X (pins ++ pinsAt fp s.heap) σ H s :=
  I.pins_of fun p hp => (List.mem_append.mp hp).elim (fun z => I.pin p (List.mem_append_right _ z)) fun z => by
    obtain ⟨hb, e⟩ := of_pinsAt z
    obtain ⟨f0, f1, f2, _⟩ := hf p.1 hb
    obtain ⟨o, e', d⟩ := ho p.1 hb
    rw [e] at e'; cases e'
    exact ⟨e, f0, f1, f2, d⟩
theorem Inv.unpinned {pins pl : List (Addr × Obj)} {σ : St} {H : Hp} {s : Shared} (I : Inv X (pins ++ pl) σ H s) : Inv X pins σ H s := I.pins_of fun p hp => I.pin p (List.mem_append_right _ (List.mem_append_left _ hp))
theorem ps_for {iter : Expr} {body : List Stmt} {wi : TI} {g : TG} {tb : TS} {pos : Pos} (hp : PassesOwn (model X.prog X.w) X.A X.env X.xe) (hc : X.calm = true) (hi : PI X tg iter wi) (hg : PG X tg g) (hb : PSs X body tb)
    (hs : ∀ x, foldedSetIterable iter X.env x = pure x := by intro _; rfl) : PS X (.For tg iter body [] pos) (tFor wi g tb) := by
  intro pins s σ H D I h
  refine wpAny_For (thn (hi pins s σ H _ I h) fun v s1 h1 => thn h1 fun itv s2 h2 => ?_) hs
  obtain ⟨it, fp, tn, J, H2, e, I2, T, st2, f2, W, ⟨m0, w0⟩, turn⟩ := h2
  subst e
  have stat : ∀ {H' : Hp}, (∀ b ∈ fp, H' b = none) → ∀ b ∈ fp, FpOk X pins H' b := fun hn b hb => ⟨hn b hb, (f2 b hb).2⟩
  refine codeAny_forLoop_any (fun n s' => ∃ i σ' H', Inv X pins σ' H' s' ∧ tn i s'.heap ∧ (∀ b ∈ fp, H' b = none) ∧ W i n σ' H') ?_ m0 ⟨0, σ, H2, I2, st2, fun b hb => (f2 b hb).1, w0⟩
  rintro n s3 ⟨i, σ3, H3, I3, st3, fr3, w3⟩
  rcases turn i n σ3 H3 w3 with ⟨stop, qn⟩ | ⟨go, N, hN, step⟩
  · refine wpAny_passesOwn hp (thn (T.done X rfl rfl rfl hc i pins s3 σ3 H3 X.xe I3 (stat fr3) st3 stop) fun r s4 ⟨hr, I4⟩ => ?_)
    subst hr
    exact wpAny_execs_nil ⟨σ3, H3, I4, qn⟩
  · refine wpAny_passesOwn hp (thn (T.item X rfl rfl rfl hc i pins s3 σ3 H3 X.xe I3 (stat fr3) st3 go) fun r s4 ⟨u, hr, h4⟩ => ?_)
    subst hr
    refine wpAny_passesOwn hp (thn h4 fun _ s5 ⟨x, H5, I5, r5, y5, st5, fr5⟩ => ?_)
    have I5' := I5.pinned (stat fr5) (T.obj _ _ st5)
    refine wpAny_passesOwn hp (thn (hg _ s5 σ3 H5 x u _ I5' r5 (step x H5 y5)) fun _ s6 ⟨σ6, H6, I6, q6⟩ => ?_)
    refine wpAny_passesOwn hp (thn (hb _ s6 σ6 H6 _ I6 q6) fun f s7 q7 => ?_)
    have again : ∀ {σ7 : St} {H7 : Hp}, Inv X (pins ++ pinsAt fp s5.heap) σ7 H7 s7 → N σ7 H7 → ∃ m, m < n ∧ ∃ i σ' H', Inv X pins σ' H' s7 ∧ tn i s7.heap ∧ (∀ b ∈ fp, H' b = none) ∧ W i m σ' H' := fun {σ7 H7} I7 n7 => by
      obtain ⟨m', hm, w7⟩ := hN σ7 H7 n7
      refine ⟨m', hm, i + 1, σ7, H7, I7.unpinned, T.keep _ _ _ st5 fun b hb o e => (I7.pin (b, o) (List.mem_append_right _ (List.mem_append_right _ (mem_pinsAt hb e)))).1, fun b hb => ?_, w7⟩
      obtain ⟨o, e, d⟩ := T.obj _ _ st5 b hb
      exact (I7.pin (b, o) (List.mem_append_right _ (List.mem_append_right _ (mem_pinsAt hb e)))).2.1
    cases f with
    | next => obtain ⟨σ7, H7, I7, n7⟩ := q7; exact again I7 n7
    | cont => obtain ⟨σ7, H7, I7, n7⟩ := q7; exact again I7 n7
    | brk => obtain ⟨σ7, H7, I7, q7⟩ := q7; exact ⟨σ7, H7, I7.unpinned, q7⟩
    | ret v => obtain ⟨x7, σ7, H7, I7, r7, q7⟩ := q7; exact ⟨x7, σ7, H7, I7.unpinned, r7, q7⟩
end
theorem for_range {lo : Int} {n : Nat} {g : TG} {tb : TS} {D : Ends} {σ : St} {H : Hp} (Pv : Nat → St → Hp → Prop) (h0 : Pv 0 σ H)
    (hs : ∀ i σ H, i < n → Pv i σ H → g (.int (lo + i)) σ H fun σ2 H2 => tb { D with nx := Pv (i + 1), ct := Pv (i + 1), bk := D.nx } σ2 H2) (hd : ∀ σ H, Pv n σ H → D.nx σ H) :
    ∃ W : Nat → Nat → St → Hp → Prop, (∃ m, W 0 m σ H) ∧ ∀ i m σ H, W i m σ H →
      ((Itr lo n).stop i H ∧ D.nx σ H) ∨ ((Itr lo n).go i H ∧ ∃ N : St → Hp → Prop, (∀ σ' H', N σ' H' → ∃ m', m' < m ∧ W (i + 1) m' σ' H') ∧ ∀ x H', (Itr lo n).yld i H x H' → g x σ H' fun σ2 H2 => tb { D with nx := N, ct := N, bk := D.nx } σ2 H2) := by
  refine ⟨fun i m σ H => m = n - i ∧ i ≤ n ∧ Pv i σ H, ⟨n, by simp, Nat.zero_le _, h0⟩, ?_⟩
  rintro i m σ H ⟨rfl, hi, p⟩
  by_cases hlt : i < n
  · refine .inr ⟨hlt, Pv (i + 1), fun σ' H' p' => ⟨n - (i + 1), by omega, rfl, hlt, p'⟩, fun x H' y => ?_⟩
    obtain ⟨e, y⟩ := y
    subst e y
    exact hs i σ _ hlt p
  · have e : i = n := by omega
    subst e
    exact .inl ⟨Nat.le_refl _, hd σ H p⟩
end L2
namespace L2
open PySem PySem.Spec PyProof.Rows
abbrev R2 := V → V → Hp → VK → Prop
def OpR (X : Cx) (f : Value → Value → Sem Value) (r : R2) : Prop :=
  ∀ (pins : List (Addr × Obj)) (s : Shared) (σ : St) (H : Hp) (x y : V) (v u : Value) (Q : VK), Inv X pins σ H s → RelV x v → RelV y u → r x y H Q →
    wpAny (model X.prog X.w) X.A (f v u) (EP X pins σ Q) X.xe s
def UnR (X : Cx) (f : Value → Sem Value) (r : V → Hp → VK → Prop) : Prop :=
  ∀ (pins : List (Addr × Obj)) (s : Shared) (σ : St) (H : Hp) (x : V) (v : Value) (Q : VK), Inv X pins σ H s → RelV x v → r x H Q →
    wpAny (model X.prog X.w) X.A (f v) (EP X pins σ Q) X.xe s
def CallR (X : Cx) (f : Value) (r : List V → Hp → VK → Prop) : Prop :=
  ∀ (pins : List (Addr × Obj)) (s : Shared) (σ : St) (H : Hp) (xs : List V) (us : List Value) (Q : VK), Inv X pins σ H s → Vals xs us → r xs H Q →
    wpAny (model X.prog X.w) X.A (call f us) (EP X pins σ Q) X.xe s
def tOp (r : R2) (ta tb : TE) : TE := fun σ H Q => ta σ H fun x H1 => tb σ H1 fun y H2 => r x y H2 Q
def tUn (r : V → Hp → VK → Prop) (ta : TE) : TE := fun σ H Q => ta σ H fun x H1 => r x H1 Q
def rI (C : Int → Int → Prop) (g : Int → Int → V) : R2 := fun x y H Q => ∃ i j, x = .int i ∧ y = .int j ∧ C i j ∧ Q (g i j) H
def rI0 (g : Int → Int → V) : R2 := fun x y H Q => ∃ i j, x = .int i ∧ y = .int j ∧ Q (g i j) H
def rU (g : Int → V) : V → Hp → VK → Prop := fun x H Q => ∃ i, x = .int i ∧ Q (g i) H
section
variable {X : Cx} {a b c : Expr} {ta tb tc : TE} {pos : Pos}
theorem binT (ha : PE X a ta) (hb : PE X b tb) {pins : List (Addr × Obj)} {s : Shared} {σ : St} {H : Hp} {R : V → V → Hp → Prop} (I : Inv X pins σ H s)
    (h : ta σ H fun x H1 => tb σ H1 fun y H2 => R x y H2) {Q : Value → Shared → Prop} {f : Value → Value → Sem Value}
    (hf : ∀ v u s2 x y H2, Inv X pins σ H2 s2 → RelV x v → RelV y u → R x y H2 → wpAny (model X.prog X.w) X.A (f v u) Q X.xe s2) :
    wpAny (model X.prog X.w) X.A (eval a X.env) (fun v s₁ => wpAny (model X.prog X.w) X.A (eval b X.env) (fun u s₂ => wpAny (model X.prog X.w) X.A (f v u) Q X.xe s₂) X.xe s₁) X.xe s := by
  refine thn (ha pins s σ H _ I h) fun v s1 ⟨x, H1, I1, r1, q1⟩ => ?_
  refine thn (hb pins s1 σ H1 _ I1 q1) fun u s2 ⟨y, H2, I2, r2, q2⟩ => ?_
  exact hf v u s2 x y H2 I2 r1 r2 q2
theorem pe_op {op : Operator} {r : R2} (ho : OpR X (binaryOp op) r) (ha : PE X a ta) (hb : PE X b tb) : PE X (.BinOp a op b pos) (tOp r ta tb) := by
  intro pins s σ H Q I h
  exact wpAny_BinOp (binT ha hb I h fun v u s2 x y H2 I2 rx ry q => ho pins s2 σ H2 x y v u Q I2 rx ry q)
theorem pe_un {op : UnaryOp} {r : V → Hp → VK → Prop} (ho : UnR X (unaryOp op) r) (ha : PE X a ta) : PE X (.UnaryOp op a pos) (tUn r ta) := by
  intro pins s σ H Q I h
  exact UnaryOp_ (thn (ha pins s σ H _ I h) fun v s1 ⟨x, H1, I1, r1, q1⟩ => ho pins s1 σ H1 x v Q I1 r1 q1)
theorem opI {f : Value → Value → Sem Value} {C : Int → Int → Prop} {g : Int → Int → Int}
    (rule : ∀ (i j : Int) (t u : Tok) (s : Shared) (Q : Value → Shared → Prop) (E : Value → Shared → Prop), C i j → Q (.int (g i j) s.toks) { s with toks := s.toks + 1 } → wpAny (model X.prog X.w) X.A (f (.int i t) (.int j u)) Q E s) :
    OpR X f (rI C fun i j => .int (g i j)) := by
  intro pins s σ H x y v u Q I rx ry h
  obtain ⟨i, j, rfl, rfl, hc, q⟩ := h
  obtain ⟨t, rfl⟩ := rx
  obtain ⟨t', rfl⟩ := ry
  exact rule i j t t' s _ _ hc ⟨.int (g i j), H, I.tok _, ⟨_, rfl⟩, q⟩
theorem opI0 {f : Value → Value → Sem Value} {g : Int → Int → Int}
    (rule : ∀ (i j : Int) (t u : Tok) (s : Shared) (Q : Value → Shared → Prop) (E : Value → Shared → Prop), Q (.int (g i j) s.toks) { s with toks := s.toks + 1 } → wpAny (model X.prog X.w) X.A (f (.int i t) (.int j u)) Q E s) :
    OpR X f (rI0 fun i j => .int (g i j)) := by
  intro pins s σ H x y v u Q I rx ry h
  obtain ⟨i, j, rfl, rfl, q⟩ := h
  obtain ⟨t, rfl⟩ := rx
  obtain ⟨t', rfl⟩ := ry
  exact rule i j t t' s _ _ ⟨.int (g i j), H, I.tok _, ⟨_, rfl⟩, q⟩
theorem opB0 {f : Value → Value → Sem Value} {g : Int → Int → Bool}
    (rule : ∀ (i j : Int) (t u : Tok) (s : Shared) (Q : Value → Shared → Prop) (E : Value → Shared → Prop), Q (.bool (g i j)) s → wpAny (model X.prog X.w) X.A (f (.int i t) (.int j u)) Q E s) :
    OpR X f (rI0 fun i j => .bl (g i j)) := by
  intro pins s σ H x y v u Q I rx ry h
  obtain ⟨i, j, rfl, rfl, q⟩ := h
  obtain ⟨t, rfl⟩ := rx
  obtain ⟨t', rfl⟩ := ry
  exact rule i j t t' s _ _ ⟨.bl (g i j), H, I, rfl, q⟩
def CPow (i j : Int) : Prop := 0 ≤ j ∧ j ≤ 1000000 ∧ i.natAbs < 2 ^ 64
def CMul (i j : Int) : Prop := (-(2 ^ 64) < i ∧ i < 2 ^ 64) ∨ (-(2 ^ 64) < j ∧ j < 2 ^ 64)
theorem CMul.ok {i j : Int} (h : CMul i j) : IntMulOk i j := by
  rcases h with ⟨h1, h2⟩ | ⟨h1, h2⟩
  · exact .of_left (intBits_le_64 h1 h2)
  · exact .of_right (intBits_le_64 h1 h2)
theorem op_add : OpR X (binaryOp .Add) (rI0 fun i j => .int (i + j)) := opI0 fun _ _ _ _ _ _ _ q => add_int q
theorem op_sub : OpR X (binaryOp .Sub) (rI0 fun i j => .int (i - j)) := opI0 fun _ _ _ _ _ _ _ q => sub_int q
theorem op_mod : OpR X (binaryOp .Mod) (rI (fun _ j => 0 < j) fun i j => .int (i % j)) := opI fun i j _ _ _ _ _ hc q => by
  have h1 : (0 : Int) < j := hc
  exact mod_int' (by omega) (by rw [Int.fmod_eq_emod_of_nonneg i (by omega)]; exact q)
theorem op_pow : OpR X (binaryOp .Pow) (rI CPow fun i j => .int (i ^ j.toNat)) := opI fun _ _ _ _ _ _ _ hc q => pow_int_small hc.1 hc.2.1 hc.2.2 q
theorem unI {f : Value → Sem Value} {g : Int → Int}
    (rule : ∀ (i : Int) (t : Tok) (s : Shared) (Q : Value → Shared → Prop) (E : Value → Shared → Prop), Q (.int (g i) s.toks) { s with toks := s.toks + 1 } → wpAny (model X.prog X.w) X.A (f (.int i t)) Q E s) :
    UnR X f (rU fun i => .int (g i)) := by
  intro pins s σ H x v Q I rx h
  obtain ⟨i, rfl, q⟩ := h
  obtain ⟨t, rfl⟩ := rx
  exact rule i t s _ _ ⟨.int (g i), H, I.tok _, ⟨_, rfl⟩, q⟩
theorem un_neg : UnR X (unaryOp .USub) (rU fun i => .int (-i)) := unI fun _ _ _ _ _ q => neg_int q
end
def scal : V → V → Bool
  | .non, .non => true | .non, .int _ => true | .int _, .non => true | .non, .bl _ => true | .bl _, .non => true | .non, .str _ => true | .str _, .non => true
  | .int _, .int _ => true | .bl _, .bl _ => true | .str _, .str _ => true | .byt _, .byt _ => true
  | .int _, .str _ => true | .str _, .int _ => true | .bl _, .str _ => true | .str _, .bl _ => true
  | _, _ => false
def rEq : R2 := fun x y H Q => scal x y = true ∧ Q (.bl (decide (x = y))) H
def rNe : R2 := fun x y H Q => scal x y = true ∧ Q (.bl (!decide (x = y))) H
theorem dec_int {i j : Int} : decide (V.int i = V.int j) = (i == j) := by
  rw [Bool.eq_iff_iff]
  simp
theorem dec_bl {i j : Bool} : decide (V.bl i = V.bl j) = (i == j) := by
  rw [Bool.eq_iff_iff]
  simp
theorem dec_str {i j : Str} : decide (V.str i = V.str j) = (i == j) := by
  rw [Bool.eq_iff_iff]
  simp
theorem dec_byt {i j : Array UInt8} : decide (V.byt i = V.byt j) = (i.toList == j.toList) := by
  rw [Bool.eq_iff_iff]
  cases i
  cases j
  simp
section
variable {X : Cx} {a b c : Expr} {ta tb tc : TE} {pos : Pos}
theorem fin_bl {pins : List (Addr × Obj)} {σ : St} {H : Hp} {s : Shared} {Q : VK} {k k' : Bool} (I : Inv X pins σ H s) (q : Q (.bl k) H) (e : k = k') : EP X pins σ Q (.bool k') s := by
  subst e
  exact ⟨.bl k, H, I, rfl, q⟩
theorem op_eq : OpR X (compareOp .Eq) rEq := by
  intro pins s σ H x y v u Q I rx ry h
  obtain ⟨hs, q⟩ := h
  cases x with
  | non =>
    cases rx
    cases y with
    | non => cases ry; exact PySem.EqNone.eq_none_none (fin_bl I q (by simp))
    | bl j => cases ry; exact PySem.EqNone.eq_none_bool (fin_bl I q (by simp))
    | int j => obtain ⟨t', rfl⟩ := ry; exact PySem.EqNone.eq_none_int (fin_bl I q (by simp))
    | str j => obtain ⟨t', rfl⟩ := ry; exact PySem.EqNone.eq_none_str (fin_bl I q (by simp))
    | _ => exact absurd (show false = true from hs) Bool.false_ne_true
  | bl i =>
    cases rx
    cases y with
    | non => cases ry; exact PySem.EqNone.eq_bool_none (fin_bl I q (by simp))
    | bl j => cases ry; exact eq_bool (fin_bl I q dec_bl)
    | str j => obtain ⟨t', rfl⟩ := ry; exact PySem.EqMixed.eq_bool_str (fin_bl I q (by simp))
    | _ => exact absurd (show false = true from hs) Bool.false_ne_true
  | int i =>
    obtain ⟨t, rfl⟩ := rx
    cases y with
    | non => cases ry; exact PySem.EqNone.eq_int_none (fin_bl I q (by simp))
    | int j => obtain ⟨t', rfl⟩ := ry; exact eq_int (fin_bl I q dec_int)
    | str j => obtain ⟨t', rfl⟩ := ry; exact PySem.EqMixed.eq_int_str (fin_bl I q (by simp))
    | _ => exact absurd (show false = true from hs) Bool.false_ne_true
  | str i =>
    obtain ⟨t, rfl⟩ := rx
    cases y with
    | non => cases ry; exact PySem.EqNone.eq_str_none (fin_bl I q (by simp))
    | bl j => cases ry; exact PySem.EqMixed.eq_str_bool (fin_bl I q (by simp))
    | int j => obtain ⟨t', rfl⟩ := ry; exact PySem.EqMixed.eq_str_int (fin_bl I q (by simp))
    | str j => obtain ⟨t', rfl⟩ := ry; exact eq_str (fin_bl I q dec_str)
    | _ => exact absurd (show false = true from hs) Bool.false_ne_true
  | byt i =>
    obtain ⟨t, rfl⟩ := rx
    cases y with
    | byt j => obtain ⟨t', rfl⟩ := ry; exact PySem.W.eq_bytes (fin_bl I q dec_byt)
    | _ => exact absurd (show false = true from hs) Bool.false_ne_true
  | _ => cases y <;> exact absurd (show false = true from hs) Bool.false_ne_true
theorem op_ne : OpR X (compareOp .NotEq) rNe := by
  intro pins s σ H x y v u Q I rx ry h
  obtain ⟨hs, q⟩ := h
  cases x with
  | non =>
    cases rx
    cases y with
    | non => cases ry; exact PySem.EqNone.ne_none_none (fin_bl I q (by simp))
    | bl j => cases ry; exact PySem.EqNone.ne_none_bool (fin_bl I q (by simp))
    | int j => obtain ⟨t', rfl⟩ := ry; exact PySem.EqNone.ne_none_int (fin_bl I q (by simp))
    | str j => obtain ⟨t', rfl⟩ := ry; exact PySem.EqNone.ne_none_str (fin_bl I q (by simp))
    | _ => exact absurd (show false = true from hs) Bool.false_ne_true
  | bl i =>
    cases rx
    cases y with
    | non => cases ry; exact PySem.EqNone.ne_bool_none (fin_bl I q (by simp))
    | bl j => cases ry; exact ne_bool (fin_bl I q (congrArg not dec_bl))
    | str j => obtain ⟨t', rfl⟩ := ry; exact PySem.EqMixed.ne_bool_str (fin_bl I q (by simp))
    | _ => exact absurd (show false = true from hs) Bool.false_ne_true
  | int i =>
    obtain ⟨t, rfl⟩ := rx
    cases y with
    | non => cases ry; exact PySem.EqNone.ne_int_none (fin_bl I q (by simp))
    | int j => obtain ⟨t', rfl⟩ := ry; exact ne_int (fin_bl I q (congrArg not dec_int))
    | str j => obtain ⟨t', rfl⟩ := ry; exact PySem.EqMixed.ne_int_str (fin_bl I q (by simp))
    | _ => exact absurd (show false = true from hs) Bool.false_ne_true
  | str i =>
    obtain ⟨t, rfl⟩ := rx
    cases y with
    | non => cases ry; exact PySem.EqNone.ne_str_none (fin_bl I q (by simp))
    | bl j => cases ry; exact PySem.EqMixed.ne_str_bool (fin_bl I q (by simp))
    | int j => obtain ⟨t', rfl⟩ := ry; exact PySem.EqMixed.ne_str_int (fin_bl I q (by simp))
    | str j => obtain ⟨t', rfl⟩ := ry; exact ne_str (fin_bl I q (congrArg not dec_str))
    | _ => exact absurd (show false = true from hs) Bool.false_ne_true
  | byt i =>
    obtain ⟨t, rfl⟩ := rx
    cases y with
    | byt j => obtain ⟨t', rfl⟩ := ry; exact PySem.W.ne_bytes (fin_bl I q (congrArg not dec_byt))
    | _ => exact absurd (show false = true from hs) Bool.false_ne_true
  | _ => cases y <;> exact absurd (show false = true from hs) Bool.false_ne_true
theorem op_lt : OpR X (compareOp .Lt) (rI0 fun i j => .bl (decide (i < j))) := opB0 fun _ _ _ _ _ _ _ q => lt_int q
theorem op_le : OpR X (compareOp .LtE) (rI0 fun i j => .bl (decide (i ≤ j))) := opB0 fun _ _ _ _ _ _ _ q => le_int q
theorem op_gt : OpR X (compareOp .Gt) (rI0 fun i j => .bl (decide (j < i))) := opB0 fun _ _ _ _ _ _ _ q => gt_int q
theorem op_lt_str : OpR X (compareOp .Lt) (fun x y H Q => ∃ i j, x = .str i ∧ y = .str j ∧ Q (.bl (decide (i.cps.toList < j.cps.toList))) H) := by
  intro pins s σ H x y v u Q I rx ry h
  obtain ⟨i, j, rfl, rfl, q⟩ := h
  obtain ⟨t, rfl⟩ := rx
  obtain ⟨t', rfl⟩ := ry
  exact lt_str (fin_bl I q rfl)
theorem OpR.or {f : Value → Value → Sem Value} {r r' : R2} (h : OpR X f r) (h' : OpR X f r') : OpR X f (fun x y H Q => r x y H Q ∨ r' x y H Q) := by
  intro pins s σ H x y v u Q I rx ry q
  rcases q with q | q
  · exact h pins s σ H x y v u Q I rx ry q
  · exact h' pins s σ H x y v u Q I rx ry q
theorem nomark (b : Expr) {op : CmpOp} (h : op ≠ .In := by decide) (h2 : op ≠ .NotIn := by decide) : behindInMarks op b = false := by
  have e1 : (op == CmpOp.In) = false := by cases op <;> first | rfl | exact absurd rfl h
  have e2 : (op == CmpOp.NotIn) = false := by cases op <;> first | rfl | exact absurd rfl h2
  cases b <;> simp [behindInMarks, e1, e2]
theorem pe_cmpR {op : CmpOp} {r : R2} (ho : OpR X (compareOp op) r) (ha : PE X a ta) (hb : PE X b tb) (hm : behindInMarks op b = false) : PE X (.Compare a [op] [b] pos) (tOp r ta tb) := by
  intro pins s σ H Q I h
  exact wpAny_Compare1 (binT ha hb I h fun v u s2 x y H2 I2 rx ry q => ho pins s2 σ H2 x y v u Q I2 rx ry q) hm
def tTest (t : TE) : TT := fun σ H Q => t σ H fun x H' => ∃ k, x = .bl k ∧ Q k H'
theorem pt_cmpR {op : CmpOp} {r : R2} (ho : OpR X (compareOp op) r) (ha : PE X a ta) (hb : PE X b tb) (hm : behindInMarks op b = false) : PT X (.Compare a [op] [b] pos) (tTest (tOp r ta tb)) := by
  intro pins s σ H Q I h
  refine wpAny_isTrue_Compare1 (thn (ha pins s σ H _ I h) fun v s1 ⟨x, H1, I1, r1, q1⟩ => thn (hb pins s1 σ H1 _ I1 q1) fun u s2 ⟨y, H2, I2, r2, q2⟩ =>
    thn (ho pins s2 σ H2 x y v u _ I2 r1 r2 q2) fun c s3 ⟨z, H3, I3, r3, k, e, q3⟩ => ?_) hm
  subst e
  cases r3
  exact wpAny_truthy_bool ⟨H3, I3, q3⟩
theorem line63 : (sizeLine : Nat) < 2 ^ 63 := by rw [sizeLine_eq]; decide
theorem op_add_str : OpR X (binaryOp .Add) (fun x y H Q => ∃ i j, x = .str i ∧ y = .str j ∧ i.length + j.length ≤ sizeLine ∧ Q (.str (i ++ j)) H) := by
  intro pins s σ H x y v u Q I rx ry h
  obtain ⟨i, j, rfl, rfl, hz, q⟩ := h
  obtain ⟨t, rfl⟩ := rx
  obtain ⟨t', rfl⟩ := ry
  exact add_str (fun t' tk => ⟨.str (i ++ j), H, I.tok _, ⟨_, rfl⟩, q⟩) hz
theorem iop_add_str : OpR X (inplaceOp .Add) (fun x y H Q => ∃ i j, x = .str i ∧ y = .str j ∧ i.length + j.length ≤ sizeLine ∧ Q (.str (i ++ j)) H) := by
  intro pins s σ H x y v u Q I rx ry h
  obtain ⟨i, j, rfl, rfl, hz, q⟩ := h
  obtain ⟨t, rfl⟩ := rx
  obtain ⟨t', rfl⟩ := ry
  exact iadd_str (fun t' tk => ⟨.str (i ++ j), H, I.tok _, ⟨_, rfl⟩, q⟩) hz
theorem vals1 {x : V} {us : List Value} (r : Vals [x] us) : ∃ u, us = [u] ∧ RelV x u := by
  cases r with
  | cons r1 r2 => cases r2; exact ⟨_, rfl, r1⟩
theorem vals2 {x y : V} {us : List Value} (r : Vals [x, y] us) : ∃ u w', us = [u, w'] ∧ RelV x u ∧ RelV y w' := by
  cases r with
  | cons r1 r2 =>
    cases r2 with
    | cons r3 r4 => cases r4; exact ⟨_, _, rfl, r1, r3⟩
def LenV (K : PySem.W.Frag) (x : V) (H : Hp) (n : Nat) : Prop :=
  match x with
  | .str y => y.length ≤ sizeLine ∧ n = y.length
  | .byt y => y.size ≤ sizeLine ∧ n = y.size
  | .ref p => (∃ xs, SqL K H p xs ∧ n = xs.length) ∨ ∃ xs, SqT K H p xs ∧ n = xs.length
  | _ => False
theorem call_len : CallR X (.builtin "len") (fun xs H Q => ∃ x n, xs = [x] ∧ LenV X.K x H n ∧ Q (.int n) H) := by
  intro pins s σ H xs us Q I r h
  obtain ⟨x, n, rfl, e, q⟩ := h
  obtain ⟨u, rfl, rx⟩ := vals1 r
  have hl := line63
  have hs : sizeLine = 16777216 := sizeLine_eq
  cases x with
  | str y =>
    obtain ⟨t, rfl⟩ := rx
    obtain ⟨hy, e'⟩ : y.length ≤ sizeLine ∧ n = y.length := e
    subst e'
    exact len_str (by omega) ⟨.int _, H, I.tok _, ⟨_, rfl⟩, q⟩
  | byt y =>
    obtain ⟨t, rfl⟩ := rx
    obtain ⟨hy, e'⟩ : y.size ≤ sizeLine ∧ n = y.size := e
    subst e'
    exact PySem.W.len_bytes (by omega) ⟨.int _, H, I.tok _, ⟨_, rfl⟩, q⟩
  | ref p =>
    cases rx
    have e' : (∃ xs, SqL X.K H p xs ∧ n = xs.length) ∨ ∃ xs, SqT X.K H p xs ∧ n = xs.length := e
    rcases e' with ⟨xs, hx, e'⟩ | ⟨xs, hx, e'⟩
    · subst e'
      obtain ⟨its, r', pl, hz⟩ := I.list hx
      have hlen := r'.length
      exact Calls.call_len_list pl.isList (by simp only [List.size_toArray]; omega) ⟨.int xs.length, H, I.tok _, ⟨_, by simp only [List.size_toArray]; rw [hlen]⟩, q⟩
    · subst e'
      obtain ⟨its, r', pl, hz⟩ := I.tuple hx
      have hlen := r'.length
      exact len_tuple pl (by simp only [List.size_toArray]; omega) ⟨.int xs.length, H, I.tok _, ⟨_, by simp only [List.size_toArray]; rw [hlen]⟩, q⟩
  | _ => exact (show False from e).elim
end
end L2
namespace L2
open PySem PySem.Spec PyProof.Rows
structure ObjM (h : Heap) (x dx C : Addr) (mA : Str → Option Value) : Prop where
  obj : h.get? x = some (PySem.W.instObj C dx)
  ns : h.Ns1 dx mA
  ne : dx ≠ x
theorem lookIn_ns {h : Heap} {dx : Addr} {mA : Str → Option Value} (n : h.Ns1 dx mA) : ∃ od, h.get? dx = some od ∧ ∀ name, PySem.W.lookIn name od = some (mA name) := by
  obtain ⟨o, es, ep, ho, hd, hk, _, hm⟩ := n
  refine ⟨o, ho, fun name => ?_⟩
  have e := hm name
  unfold nsFind findBy at e
  rw [← Array.find?_toList] at e
  unfold PySem.W.lookIn
  rw [hd]
  dsimp only
  split
  · rename_i y q
    rw [q] at e
    exact congrArg some e
  · rename_i q
    rw [q] at e
    have a : es.toList.any (·.refKey) = false := by
      rw [List.any_eq_false]
      intro y hy
      obtain ⟨z, t, hkey⟩ := hk y (Array.mem_toList_iff.mp hy)
      simp [DictEntry.refKey, hkey]
    have a' : ¬ es.toList.any (·.refKey) = true := by rw [a]; exact Bool.false_ne_true
    rw [if_neg a']
    exact congrArg some e
theorem ObjM.look {h : Heap} {x dx C : Addr} {mA : Str → Option Value} (I : ObjM h x dx C mA) : ∃ od, PySem.W.InstAt h x (PySem.W.instObj C dx) C (some od) ∧ ∀ name, PySem.W.lookIn name od = some (mA name) :=
  let ⟨od, ho, hl⟩ := lookIn_ns I.ns
  ⟨od, ⟨I.obj, rfl, rfl, ho⟩, hl⟩
section
variable {prog : Program} {w : World} {A : Around} {E : Value → Shared → Prop} {s : Shared} {K : PySem.W.Frag} {x dx C f : Addr} {mA : Str → Option Value} {name : Str} {v : Value}
end
section
variable {P : Program} {w : World} {H H' : Hp} {h h' : Heap} {a C dx : Addr} {fs fs' : List (Str × V)}
theorem ins_get (hok : HOk P w H h) (e : H a = some (.ins C dx fs)) : ∃ mA, ObjM h a dx C mA ∧ (∀ f, RelO (fs.lookup f) (mA f)) ∧ PySem.Within mA (fs.map (·.1)) ∧ fs.length ≤ 1000 ∧ H dx = some (.own a) := by
  obtain ⟨d, z, ne, ob, mA, n, r, q⟩ := (show ObjOk P w H h a (.ins C dx fs) from hok a _ e)
  exact ⟨mA, ⟨ob, n, ne⟩, r, q, z, d⟩
end
structure Cls (K : PySem.W.Frag) (C : Addr) : Prop where
  pg : PySem.W.plainGet K C Str.empty = true
  hd : PySem.W.hasDictIn K C = true
  po : PySem.W.plainOver K C = true
  sa : PySem.W.findIn K (.ref C) "__setattr__" = some (some (.builtin "object.__setattr__"))
theorem Cls.get {K : PySem.W.Frag} {C : Addr} (c : Cls K C) (f : Str) : PySem.W.plainGet K C f = true := c.pg
structure Con (K : PySem.W.Frag) (C : Addr) (f : Str) (v : V) (u : Value) : Prop where
  at_ : PySem.W.findIn K (.ref C) f = some (some u)
  rel : RelV v u
  get : PySem.W.specialIn K u "__get__" = some none
  cp : PySem.W.copiedNames.contains f = false
structure Meth (K : PySem.W.Frag) (C : Addr) (m : Str) (f : Addr) : Prop where
  at_ : PySem.W.findIn K (.ref C) m = some (some (.ref f))
  fn : PySem.W.isFn K (.ref f) = true
  kp : PySem.W.keepIn K (.ref f) = true
section
variable {X : Cx} {pins : List (Addr × Obj)} {σ : St} {H : Hp} {s : Shared} {a C dx : Addr} {fs : List (Str × V)} {f : Str} {v : V} {A : Around} {E : Value → Shared → Prop}
theorem Inv.made (I : Inv X pins σ H s) : Inv X pins σ (upd (upd H s.heap.objs.size (.own (s.heap.objs.size + 1))) (s.heap.objs.size + 1) (.ins C s.heap.objs.size []))
    { s with heap := (s.heap.push PySem.W.emptyDict).push (PySem.W.instObj C s.heap.objs.size) } := by
  have e1 : (s.heap.push PySem.W.emptyDict).get? s.heap.objs.size = some PySem.W.emptyDict := Heap.get?_push_size s.heap rfl
  have e2 : ((s.heap.push PySem.W.emptyDict).push (PySem.W.instObj C s.heap.objs.size)).get? (s.heap.objs.size + 1) = some (PySem.W.instObj C s.heap.objs.size) := by
    have := Heap.get?_push_size (s.heap.push PySem.W.emptyDict) (o := PySem.W.instObj C s.heap.objs.size) rfl
    rwa [Heap.size_push] at this
  have e3 : (s.heap.push PySem.W.emptyDict).Ns s.heap.objs.size (fun _ => none) := ⟨PySem.W.emptyDict, #[], _, e1, rfl, (fun e he => absurd he (by simp)), fun _ => rfl⟩
  have I1 := I.laid (a := s.heap.objs.size) (o := .own (s.heap.objs.size + 1)) (h' := s.heap.push PySem.W.emptyDict) (t' := s.toks) (fun b u q => Heap.get?_push_of_some _ q) (Nat.le_refl _) ⟨_, e1⟩
  refine I1.laid (a := s.heap.objs.size + 1) (o := .ins C s.heap.objs.size []) (t' := s.toks) (fun b u q => Heap.get?_push_of_some _ q) (Nat.le_of_eq (Heap.size_push _ _)) ?_
  have ne : s.heap.objs.size ≠ s.heap.objs.size + 1 := Nat.ne_of_lt (Nat.lt_succ_self _)
  refine ⟨by rw [upd_ne ne, upd_same], Nat.zero_le _, ne, e2, fun _ => none, (Heap.Ns1.of_empty e3).at fun o q => Heap.get?_push_of_some _ q, fun _ => True.intro, fun y hy => absurd rfl hy⟩
end
section
variable {X : Cx} {o e value : Expr} {f : Str} {pos pos' tpos : Pos} {ta tv : TE}
end
section
variable {X : Cx} {pins : List (Addr × Obj)} {σ : St} {H : Hp} {s : Shared} {A : Around} {E : Value → Shared → Prop} {Q : Value → Shared → Prop} {c : Value} {b : Bool}
inductive TyOf (K : PySem.W.Frag) (H : Hp) : V → Value → Prop where
  | non : TyOf K H .non (.type "NoneType")
  | bl (x : Bool) : TyOf K H (.bl x) (.type "bool")
  | int (i : Int) : TyOf K H (.int i) (.type "int")
  | str (x : Str) : TyOf K H (.str x) (.type "str")
  | flt (x : UInt64) : TyOf K H (.flt x) (.type "float")
  | lst {a : Addr} {xs : List V} (e : H a = some (.lst xs)) : TyOf K H (.ref a) (.type "list")
  | frz {a : Addr} {o : Obj} {xs : List V} (e : H a = some (.frz o (.lst xs))) : TyOf K H (.ref a) (.type "list")
  | tup {a : Addr} {xs : List V} (e : H a = some (.tup xs)) : TyOf K H (.ref a) (.type "tuple")
  | dK {a : Addr} {kvs : List (Key × V)} (e : H a = some (.dK kvs)) : TyOf K H (.ref a) (.type "dict")
  | dT {a : Addr} {kvs : List (List Key × V)} (e : H a = some (.dT kvs)) : TyOf K H (.ref a) (.type "dict")
  | ins {a C dx : Addr} {fs : List (Str × V)} (e : H a = some (.ins C dx fs)) (cl : Cls K C) (ha : PySem.W.findIn K (.ref C) "__class__" = some (some (.builtin "object.__class__")))
      (hn : PySem.W.specialIn K (.builtin "object.__class__") "__get__" = some (some (.builtin "getset_descriptor.__get__"))) (htk : PySem.W.takesIn K (.builtin "object.__class__") = some true)
      (hm : PySem.W.mroIn K C (.type "object") = some true) : TyOf K H (.ref a) (.ref C)
theorem isinst_ok {x : V} {u t : Value} (I : Inv X pins σ H s) (rx : RelV x u) (ty : TyOf X.K H x t) (e : PySem.W.kitOne X.K t c = some b) (h : ∀ tk, Q (.bool b) { s with toks := tk }) :
    wpAny (model X.prog X.w) A (call (.builtin "isinstance") [u, c]) Q E s := by
  cases ty with
  | non => cases (show u = Value.none from rx); exact PySem.W.kia_one PySem.W.kitx_none I.kIn True.intro e (fun z => nomatch z) h
  | bl y => cases (show u = Value.bool y from rx); exact PySem.W.kia_one PySem.W.kitx_bool I.kIn True.intro e (fun z => nomatch z) h
  | int i => obtain ⟨t, q⟩ := (show ∃ t, u = Value.int i t from rx); cases q; exact PySem.W.kia_one PySem.W.kitx_int I.kIn True.intro e (fun z => nomatch z) h
  | str y => obtain ⟨t, q⟩ := (show ∃ t, u = Value.str y t from rx); cases q; exact PySem.W.kia_one PySem.W.kitx_str I.kIn True.intro e (fun z => nomatch z) h
  | flt y => obtain ⟨t, q⟩ := (show ∃ t, u = Value.float y t from rx); cases q; exact PySem.W.kia_one PySem.W.kitx_float I.kIn True.intro e (fun z => nomatch z) h
  | @lst a xs ea =>
    cases (show u = Value.ref a from rx)
    obtain ⟨_, _, n, _, h1⟩ := (show ObjOk X.prog X.w H s.heap a (.lst xs) from I.hok a _ ea)
    exact PySem.W.kia_one PySem.W.kitx_list I.kIn ⟨_, h1, rfl⟩ e (fun z => nomatch z) h
  | @frz a ob xs ea =>
    cases (show u = Value.ref a from rx)
    obtain ⟨_, _, _, n, _, h1⟩ := (show ObjOk X.prog X.w H s.heap a (.frz ob (.lst xs)) from I.hok a _ ea)
    exact PySem.W.kia_one PySem.W.kitx_list I.kIn ⟨_, h1, rfl⟩ e (fun z => nomatch z) h
  | @tup a xs ea =>
    cases (show u = Value.ref a from rx)
    obtain ⟨_, _, _, p⟩ := (show ObjOk X.prog X.w H s.heap a (.tup xs) from I.hok a _ ea)
    obtain ⟨o, h1, h2, _⟩ := p
    exact PySem.W.kia_one PySem.W.kitx_tuple I.kIn ⟨o, h1, h2⟩ e (fun z => nomatch z) h
  | @dK a kvs ea =>
    cases (show u = Value.ref a from rx)
    obtain ⟨_, _, vs, _, p⟩ := (show ObjOk X.prog X.w H s.heap a (.dK kvs) from I.hok a _ ea)
    obtain ⟨o, es, ep, h1, h2, _⟩ := p
    exact PySem.W.kia_one PySem.W.kitx_dict I.kIn ⟨o, h1, h2.1⟩ e (fun z => nomatch z) h
  | @dT a kvs ea =>
    cases (show u = Value.ref a from rx)
    obtain ⟨_, _, xs, _, o, es, ep, h1, h2, _⟩ := (show ObjOk X.prog X.w H s.heap a (.dT kvs) from I.hok a _ ea)
    exact PySem.W.kia_one PySem.W.kitx_dict I.kIn ⟨o, h1, h2.1⟩ e (fun z => nomatch z) h
  | @ins a C dx fs ea cl ha hn htk hm =>
    cases (show u = Value.ref a from rx)
    obtain ⟨mA, O, _⟩ := ins_get I.hok ea
    obtain ⟨od, J, _⟩ := O.look
    exact PySem.W.kia_one (PySem.W.kitx_own (cl.get _) cl.hd ha hn htk hm) I.kIn J e (fun z => nomatch z) h
end
end L2
namespace L2
open PySem PySem.Spec PyProof.Rows
structure Room (k : Nat) (A : Around) : Prop where
  hd : A.handled = none
  dp : A.depth + 3 * k + 5 < recursionLimit
  un : A.units + 16 * k + 200 < cLine
theorem Room.mono {j k : Nat} {A : Around} (r : Room k A) (h : j ≤ k) : Room j A := ⟨r.hd, by have := r.dp; omega, by have := r.un; omega⟩
theorem Room.deeper {k : Nat} {A : Around} (r : Room (k + 1) A) (env : Env) : Room k (A.deeper env) :=
  ⟨r.hd, by have := r.dp; show A.depth + 1 + 3 * k + 5 < _; omega, by have := r.un; show A.units + 3 + 16 * k + 200 < _; omega⟩
theorem Room.in1 {k : Nat} {A : Around} (r : Room (k + 1) A) : Room k A.in1 :=
  ⟨r.hd, by have := r.dp; show A.depth + 3 * k + 5 < _; omega, by have := r.un; show A.units + 1 + 16 * k + 200 < _; omega⟩
theorem make_depth {A : Around} {C : Addr} {us : List Value} {kw : List (Str × Value)} : (A.under (.builtin "type.__call__" ⟨.ref C :: us, kw⟩)).depth = A.depth + 1 := by
  first | rfl | simp [Around.under, Code.weight, Code.isCreation, Code.isGuard, Code.isCaller, Code.frames, Code.isFrame, guardIds]
theorem make_units {A : Around} {C : Addr} {us : List Value} {kw : List (Str × Value)} : (A.under (.builtin "type.__call__" ⟨.ref C :: us, kw⟩)).units = A.units + 1 := by
  first | rfl | simp [Around.under, Code.cUnits, Code.frames, Code.isFrame]
theorem Room.make {k : Nat} {A : Around} (r : Room (k + 1) A) (C : Addr) (us : List Value) (kw : List (Str × Value)) : Room k (A.under (.builtin "type.__call__" ⟨.ref C :: us, kw⟩)) :=
  ⟨r.hd, by have := r.dp; rw [make_depth]; omega, by have := r.un; rw [make_units]; omega⟩
theorem Room.depth {k : Nat} {A : Around} (r : Room k A) : A.depth < recursionLimit := by have := r.dp; omega
theorem Room.units {k : Nat} {A : Around} (r : Room k A) : A.units + 64 < cLine := by have := r.un; omega
theorem Room.units0 {k : Nat} {A : Around} (r : Room k A) : A.units < cLine := by have := r.un; omega
def tNil : TA := fun _ H Q => Q [] H
def tCons (ta : TE) (tr : TA) : TA := fun σ H Q => ta σ H fun x H1 => tr σ H1 fun xs H2 => Q (x :: xs) H2
section
variable {X : Cx} {e : Expr} {es : List Expr} {te : TE} {t : TA} {pos : Pos}
theorem pa_nil : PA X [] tNil := fun _ _ _ _ H Q I h => Calls.spliced_nil ⟨[], H, I, .nil, h⟩
theorem pa_cons (ha : PE X e te) (hr : PA X es t) (hs : starEach (e :: es) X.env = (false, eval e X.env) :: starEach es X.env := by rfl) : PA X (e :: es) (tCons te t) := by
  intro pos pins s σ H Q I h
  rw [hs]
  show wpAny _ _ (spliced ((false, eval e X.env) :: backTo pos (starEach es X.env))) _ _ s
  refine Calls.spliced_cons (thn (ha pins s σ H _ I h) fun u s1 ⟨x, H1, I1, r1, q1⟩ => ?_)
  exact thn (hr pos pins s1 σ H1 _ I1 q1) fun us s2 ⟨xs, H2, I2, r2, q2⟩ => ⟨x :: xs, H2, I2, .cons r1 r2, q2⟩
def tTup (t : TA) : TE := fun σ H Q => t σ H fun xs H1 => xs.length ≤ sizeLine ∧ ∀ p, H1 p = none → Q (.ref p) (upd H1 p (.tup xs))
def tLst (t : TA) : TE := fun σ H Q => t σ H fun xs H1 => xs.length ≤ sizeLine ∧ ∀ p, H1 p = none → Q (.ref p) (upd H1 p (.lst xs))
theorem pe_tup {x1} (h : PA X es t) : PE X (.Tuple es x1 pos) (tTup t) := by
  intro pins s σ H Q I hq
  refine wpAny_Tuple_spliced (thn (h pos pins s σ H _ I hq) fun us s1 ⟨xs, H1, I1, r, z, q⟩ => ⟨by rw [← r.length]; exact z, ?_⟩)
  have hf : H1 s1.heap.objs.size = none := I1.hok.fresh (Nat.le_refl _)
  refine ⟨.ref s1.heap.objs.size, upd H1 s1.heap.objs.size (.tup xs), I1.laid (t' := s1.toks) (fun b u e => Heap.get?_push_of_some _ e) (Nat.le_refl _) ?_, rfl, q _ hf⟩
  exact ⟨z, us, r, ⟨_, Heap.get?_push_size _ rfl, rfl, _, rfl⟩⟩
theorem pe_lst (h : PA X es t) : PE X (.List es pos) (tLst t) := by
  intro pins s σ H Q I hq
  refine wpAny_List_spliced (thn (h pos pins s σ H _ I hq) fun us s1 ⟨xs, H1, I1, r, z, q⟩ => ⟨by rw [← r.length]; exact z, ?_⟩)
  have hf : H1 s1.heap.objs.size = none := I1.hok.fresh (Nat.le_refl _)
  refine ⟨.ref s1.heap.objs.size, upd H1 s1.heap.objs.size (.lst xs), I1.laid (t' := s1.toks) (fun b u e => Heap.get?_push_of_some _ e) (Nat.le_refl _) ?_, rfl, q _ hf⟩
  exact ⟨z, us, 0, r, Heap.get?_push_size _ rfl⟩
end
abbrev Sp := List V → Hp → VK → XK → Prop
abbrev CXT := List Env → Hp → Shared → XK → Value → Shared → Prop
structure Env0 (P : Program) (w : World) (K : PySem.W.Frag) (mg : Str → Option Value) (base : Heap) (A : Around) (outer : List Env) (s : Shared) (H : Hp) : Prop where
  frames : A.frames = some outer
  mod : Mod K mg base
  bs : ∀ b o, base.get? b = some o → s.heap.get? b = some o ∧ H b = none
  bsz : base.objs.size ≤ s.heap.objs.size
  funs : s.heap.FunFrames base outer
  frf : ∀ b ∈ frs outer, H b = none
  hok : HOk P w H s.heap
  bare : AllBare s.gens
def CE (outer : List Env) (P : Program) (w : World) (H : Hp) (s : Shared) (Q : VK) (u : Value) (s' : Shared) : Prop :=
  ∃ v H', s'.os = s.os ∧ AllBare s'.gens ∧ Un (frs outer) [] H H' s.heap s'.heap ∧ HOk P w H' s'.heap ∧ RelV v u ∧ Q v H'
def CR (CX : CXT) (outer : List Env) (P : Program) (w : World) (H : Hp) (s : Shared) (Q : VK) (E : XK) (r : Result) (s' : Shared) : Prop :=
  match r with
  | .ok (.ret u) => CE outer P w H s Q u s'
  | .ok _ => False
  | .error e => CX outer H s E e s'
structure FnOk (P : Program) (w : World) (K : PySem.W.Frag) (mg : Str → Option Value) (base : Heap) (CX : CXT) (k : Nat) (f : Addr) (fd : FuncData) (ps : List Str) (sp : Sp) : Prop where
  len : ∀ vs H Q E, sp vs H Q E → vs.length = ps.length
  run : ∀ (A : Around) (outer : List Env) (s : Shared) (H : Hp) (args : Args) (us : List Value) (vs : List V) (Q : VK) (E : XK), Room k A → Env0 P w K mg base A outer s H → BindsTo s fd args (ps.zip us) → Vals vs us → sp vs H Q E →
    codeAny (model P w) A (.call (.ref f) args) (CR CX outer P w H s Q E) s
theorem FnOk.mono {P : Program} {w : World} {K : PySem.W.Frag} {mg : Str → Option Value} {base : Heap} {CX : CXT} {j k : Nat} {f : Addr} {fd : FuncData} {ps : List Str} {sp : Sp} (F : FnOk P w K mg base CX j f fd ps sp) (h : j ≤ k) :
    FnOk P w K mg base CX k f fd ps sp := ⟨F.len, fun A outer s H args us vs Q E hr => F.run A outer s H args us vs Q E (hr.mono h)⟩
theorem Env0.make {P : Program} {w : World} {K : PySem.W.Frag} {mg : Str → Option Value} {base : Heap} {A : Around} {outer : List Env} {s : Shared} {H : Hp} (e : Env0 P w K mg base A outer s H) (C : Addr) (us : List Value) (kw : List (Str × Value)) :
    Env0 P w K mg base (A.under (.builtin "type.__call__" ⟨.ref C :: us, kw⟩)) outer s H := ⟨by first | exact e.frames | (simpa [Around.under, Code.envs, Code.isFrame, pushEnvs] using e.frames), e.mod, e.bs, e.bsz, e.funs, e.frf, e.hok, e.bare⟩
theorem Env0.in1 {P : Program} {w : World} {K : PySem.W.Frag} {mg : Str → Option Value} {base : Heap} {A : Around} {outer : List Env} {s : Shared} {H : Hp} (e : Env0 P w K mg base A outer s H) :
    Env0 P w K mg base A.in1 outer s H := ⟨e.frames, e.mod, e.bs, e.bsz, e.funs, e.frf, e.hok, e.bare⟩
section
variable {X : Cx} {pins : List (Addr × Obj)} {σ : St} {H : Hp} {s s' : Shared}
theorem Inv.env0 (I : Inv X pins σ H s) : Env0 X.prog X.w X.K X.mg X.base X.A X.stack s H :=
  ⟨I.ok.frames, I.ok.mod, I.bs, Nat.le_trans I.ok.bsz I.sz, I.stack, I.stkFree, I.hok, I.bare⟩
theorem Inv.after {Q : VK} {u : Value} (I : Inv X pins σ H s) (h : CE X.stack X.prog X.w H s Q u s') : EP X pins σ Q u s' := by
  obtain ⟨v, H', os, bare, un, hok, r, q⟩ := h
  obtain ⟨hh, g, d, t, os'⟩ := s'
  obtain rfl : os' = s.os := os
  exact ⟨v, H', I.call (h' := hh) (g' := g) (d' := d) (t' := t) (ch := []) un hok bare (fun b z => absurd z (by simp)), r, q⟩
end
def tCall (sp : Sp) (dvs : List V) (E : XK) (t : TA) : TE := fun σ H Q => t σ H fun vs H1 => sp (vs ++ dvs) H1 Q E
def Binds (K : PySem.W.Frag) (fd : FuncData) (ps : List Str) (ds : List Value) : Prop :=
  ∀ (s : Shared) (us : List Value), K.In s.heap → (us ++ ds).length = ps.length → BindsTo s fd ⟨us, []⟩ (ps.zip (us ++ ds))
theorem Binds.all {K : PySem.W.Frag} {fd : FuncData} {ps : List Str} (h : ∀ us : List Value, us.length = ps.length → bindArgs fd ⟨us, []⟩ = pure (ps.zip us)) : Binds K fd ps [] := fun s us _ hl => by
  rw [List.append_nil] at hl ⊢
  exact .of_eq (h us hl)
def Passes (CX : CXT) (X : Cx) (E : XK) : Prop := ∀ (pins : List (Addr × Obj)) (σ : St) (H : Hp) (s : Shared) (e : Value) (s' : Shared), Inv X pins σ H s → CX X.stack H s E e s' → X.xe e s'
section
variable {X : Cx} {CX : CXT} {k : Nat} {f C : Addr} {fd : FuncData} {ps : List Str} {sp : Sp} {dvs : List V} {ds : List Value} {E : XK} {x m : Str} {p pos apos : Pos} {e o : Expr} {es : List Expr} {ta : TE} {t : TA}
theorem run_fn {pins : List (Addr × Obj)} {σ : St} {H : Hp} {s : Shared} {Q : VK} {us : List Value} {vs : List V} (F : FnOk X.prog X.w X.K X.mg X.base CX k f fd ps sp) (hr : Room k X.A) (hb : Binds X.K fd ps ds) (hd : Vals dvs ds) (hx : Passes CX X E)
    (I : Inv X pins σ H s) (r : Vals vs us) (h : sp (vs ++ dvs) H Q E) : wpAny (model X.prog X.w) X.A (call (.ref f) us) (EP X pins σ Q) X.xe s := by
  have r2 : Vals (vs ++ dvs) (us ++ ds) := r.append hd
  have hl : (us ++ ds).length = ps.length := by rw [← r2.length]; exact F.len _ _ _ _ h
  refine wpAny_call (codeAny_mono (F.run X.A X.stack s H ⟨us, []⟩ (us ++ ds) (vs ++ dvs) Q E hr I.env0 (hb s us I.kIn hl) r2 h) fun r s' hq => ?_)
  cases r with
  | error e => exact hx pins σ H s e s' I hq
  | ok fl =>
    cases fl with
    | ret u => exact I.after hq
    | next => exact False.elim hq
    | brk => exact False.elim hq
    | cont => exact False.elim hq
theorem pe_call (F : FnOk X.prog X.w X.K X.mg X.base CX k f fd ps sp) (hr : Room k X.A) (hg : Gl X x) (hm : X.mg x = some (.ref f)) (hk : PySem.W.keepIn X.K (.ref f) = true) (hb : Binds X.K fd ps ds) (hd : Vals dvs ds) (hx : Passes CX X E)
    (ha : PA X (e :: es) t) (hdb : (x == ("__debug__" : Str)) = false := by decide) (he : starEach (e :: es) X.env = (false, eval e X.env) :: starEach es X.env := by rfl) (hpl : (backTo pos (starEach es X.env)).any (·.1) = false := by rfl) :
    PE X (.Call (.Name x p) (e :: es) [] pos) (tCall sp dvs E t) := by
  intro pins s σ H Q I h
  refine wpAny_Call_Name_kw (ld_glob I hg hm ?_ hdb)
  refine PySem.W.callWith_K (h₀ := X.base) I.ok.mod.kin hk (thn (ha pos pins s σ H _ I h) fun us s1 ⟨vs, H1, I1, r, q⟩ => ⟨I1.kIn, ?_⟩) he hpl
  exact run_fn F hr hb hd hx I1 r q
structure Mk (K : PySem.W.Frag) (C f : Addr) : Prop where
  makes : PySem.W.makesIn K C = true
  init : PySem.W.findIn K (.ref C) "__init__" = some (some (.ref f))
  fn : PySem.W.isFn K (.ref f) = true
  kp : PySem.W.keepIn K (.ref C) = true
end
section
variable {X : Cx} {CX : CXT} {k : Nat} {f C : Addr} {fd : FuncData} {ps ks : List Str} {sp : Sp} {E : XK} {x m : Str} {p pos apos kpos : Pos} {e o : Expr} {es : List Expr} {kws : List Keyword} {te ta : TE} {t tk : TA} {nm : Option Str}
structure KBinds (K : PySem.W.Frag) (fd : FuncData) (ps ks : List Str) (g : List Value → List Value → List Value) (gV : List V → List V → List V) : Prop where
  to : ∀ (s : Shared) (us ws : List Value), K.In s.heap → (g us ws).length = ps.length → BindsTo s fd ⟨us, ks.zip ws⟩ (ps.zip (g us ws))
  rel : ∀ {vs : List V} {us : List Value} {zs : List V} {ws : List Value}, Vals vs us → Vals zs ws → Vals (gV vs zs) (g us ws)
variable {g : List Value → List Value → List Value} {gV : List V → List V → List V}
end
structure FnScope (N P : List Str) (sc : Scope) : Prop where
  kind : sc.kind = .function
  co : sc.isCoroutine = false
  gen : sc.isGenerator = false
  nd : N.Nodup
  pre : N.take P.length = P
  par : ∀ x ∈ P, sc.names.lookup x = some .local ∨ sc.names.lookup x = some .cell
  nofree : ∀ y ∈ sc.names, y.2 ≠ .free
theorem bindL_out {kindOf : Str → Option NameKind} {x : Str} : ∀ {binds : List (Str × Value)} {m : Str → Option Value}, (∀ v, (x, v) ∉ binds) → bindL kindOf binds m x = m x
  | [], _, _ => rfl
  | (n, v) :: r, m, h => by
    unfold bindL
    rw [bindL_out fun w hw => h w (List.mem_cons_of_mem _ hw)]
    split
    · have : x ≠ n := by rintro rfl; exact h v List.mem_cons_self
      simp [this]
    · rfl
theorem bindC_out {kindOf : Str → Option NameKind} {x : Str} : ∀ {binds : List (Str × Value)} {m : Str → Option Value}, (∀ v, (x, v) ∉ binds) → bindC kindOf binds m x = m x
  | [], _, _ => rfl
  | (n, v) :: r, m, h => by
    unfold bindC
    rw [bindC_out fun w hw => h w (List.mem_cons_of_mem _ hw)]
    split
    · rfl
    · have : x ≠ n := by rintro rfl; exact h v List.mem_cons_self
      simp [this]
theorem bindL_get {kindOf : Str → Option NameKind} {x : Str} {v : Value} : ∀ {P : List Str} {vs : List Value} {i : Nat} {m : Str → Option Value}, P.Nodup → P[i]? = some x → vs[i]? = some v → kindOf x = some .local →
    bindL kindOf (P.zip vs) m x = some v
  | [], _, _, _, _, h, _, _ => by simp at h
  | _ :: _, [], _, _, _, _, h, _ => by simp at h
  | p :: P, w :: vs, 0, m, nd, h1, h2, hk => by
    simp at h1 h2; subst h1; subst h2
    show bindL kindOf ((p, w) :: P.zip vs) m p = _
    unfold bindL
    rw [bindL_out fun v hv => (List.nodup_cons.mp nd).1 (List.of_mem_zip hv).1, if_pos hk]
    simp
  | p :: P, w :: vs, i + 1, m, nd, h1, h2, hk => by
    show bindL kindOf ((p, w) :: P.zip vs) m x = _
    unfold bindL
    exact bindL_get (i := i) (List.nodup_cons.mp nd).2 (by simpa using h1) (by simpa using h2) hk
theorem bindC_get {kindOf : Str → Option NameKind} {x : Str} {v : Value} : ∀ {P : List Str} {vs : List Value} {i : Nat} {m : Str → Option Value}, P.Nodup → P[i]? = some x → vs[i]? = some v → kindOf x ≠ some .local →
    bindC kindOf (P.zip vs) m x = some v
  | [], _, _, _, _, h, _, _ => by simp at h
  | _ :: _, [], _, _, _, _, h, _ => by simp at h
  | p :: P, w :: vs, 0, m, nd, h1, h2, hk => by
    simp at h1 h2; subst h1; subst h2
    show bindC kindOf ((p, w) :: P.zip vs) m p = _
    unfold bindC
    rw [bindC_out fun v hv => (List.nodup_cons.mp nd).1 (List.of_mem_zip hv).1, if_neg hk]
    simp
  | p :: P, w :: vs, i + 1, m, nd, h1, h2, hk => by
    show bindC kindOf ((p, w) :: P.zip vs) m x = _
    unfold bindC
    exact bindC_get (i := i) (List.nodup_cons.mp nd).2 (by simpa using h1) (by simpa using h2) hk
def start (N : List Str) (vs : List V) : St := vs.map some ++ List.replicate (N.length - vs.length) none
def cxOf (CX : CXT) (P : Program) (w : World) (K : PySem.W.Frag) (mg : Str → Option Value) (base : Heap) (N : List Str) (qual : Str) (scope : Scope) (f : Addr) (cd : Value) (A : Around) (outer : List Env) (s : Shared) (H : Hp) (E : XK) : Cx where
  prog := P
  w := w
  K := K
  mg := mg
  base := base
  A := A.deeper (envOfC qual scope s.heap.objs.size f cd)
  N := N
  s₀ := s
  H₀ := H
  env := envOfC qual scope s.heap.objs.size f cd
  outer := outer
  stack := envOfC qual scope s.heap.objs.size f cd :: outer
  ex := []
  calm := true
  fn := fun _ => true
  pn := []
  xe := fun e s' => wpAny (model P w) (A.deeper (envOfC qual scope s.heap.objs.size f cd)) (leaving (envOfC qual scope s.heap.objs.size f cd) e) (fun _ s'' => CX outer H s E e s'') (fun e' s'' => CX outer H s E e' s'') s'
theorem cell_has {sc : Scope} {n : Nat} {x : Str} (h : sc.names.lookup x = some .cell) : ∃ c, (cellsFrom n sc.names []).lookup x = some c := by
  have q := PySem.W.cellsFrom_some sc.names n [] (.inl h)
  exact Option.isSome_iff_exists.mp q
theorem inv_start {CX : CXT} {P : Program} {w : World} {K : PySem.W.Frag} {mg : Str → Option Value} {base : Heap} {N ps : List Str} {qual : Str} {scope : Scope} {f : Addr} {cd : Value} {A : Around} {outer : List Env} {s s1 : Shared} {H : Hp} {E : XK} {us : List Value} {vs : List V}
    (S : FnScope N ps scope) (hd : A.handled = none) (e0 : Env0 P w K mg base A outer s H) (hl : vs.length = ps.length) (r : Vals vs us)
    (x : InCallC s s.heap.objs.size (bindL (envOfC qual scope s.heap.objs.size f cd).kindOf (ps.zip us) fun _ => none) (cellsFrom (s.heap.objs.size + 1) scope.names []) (bindC (envOfC qual scope s.heap.objs.size f cd).kindOf (ps.zip us) fun _ => none) s1) :
    Inv (cxOf CX P w K mg base N qual scope f cd A outer s H E) [] (start N vs) H s1 := by
  have hpl : ps.length ≤ N.length := by have := congrArg List.length S.pre; rw [List.length_take] at this; omega
  obtain ⟨h1, tk, rfl, hk⟩ := x.done
  have noA : ∀ b : Addr, b ∉ (cxOf CX P w K mg base N qual scope f cd A outer s H E).ex := fun b z => absurd (show b ∈ ([] : List Addr) from z) (by simp)
  refine ⟨⟨e0.mod, S.kind, rfl, rfl, Nat.le_refl _, fun y z c h1 h2 => ?_, fun y hy => ?_, fun y c _ h => ?_, fun _ => hd, Around.frames_deeper e0.frames, .inr ⟨rfl, rfl⟩, fun b z => absurd z (noA b), e0.bs, e0.bsz, fun b _ _ => noA b, fun b z => absurd z (noA b), e0.funs, e0.frf⟩,
    rfl, e0.bare, Un.kept hk, ⟨_, x.toInCall.ns, fun i y v h1 h2 h3 => ?_⟩, fun y c h => ⟨_, x.cell y c h⟩, e0.hok.fresh (Nat.le_refl _), fun y c h => ?_, fun p hp => absurd (show p ∈ ([] : List (Addr × Obj)) from hp) (by simp), e0.hok.kept hk, ?_⟩
  · exact name_of_addr x.apart (PySem.mem_of_lookup h1) (PySem.mem_of_lookup h2)
  · have hy : scope.names.lookup y = some .cell ∨ scope.names.lookup y = some .free := hy
    rcases hy with hy | hy
    · exact cell_has hy
    · exact absurd rfl (S.nofree _ (PySem.mem_of_lookup hy))
  · exact Nat.le_of_lt (x.above y c (PySem.mem_of_lookup h))
  · have hi : i < vs.length := by
      unfold start at h2
      by_cases hi : i < vs.length
      · exact hi
      · rw [List.getElem?_append_right (by simpa using hi)] at h2
        rw [List.getElem?_replicate] at h2
        split at h2 <;> cases h2
    have ha : vs[i]? = some v := by
      unfold start at h2
      rw [List.getElem?_append_left (by simpa using hi), List.getElem?_map] at h2
      cases e : vs[i]? with
      | none => rw [e] at h2; cases h2
      | some a => rw [e] at h2; cases h2; rfl
    obtain ⟨u, hu, rv⟩ := r.get ha
    have hp : ps[i]? = some y := by
      rw [← S.pre, List.getElem?_take_of_lt (by omega)]; exact h1
    have ndP : ps.Nodup := by rw [← S.pre]; exact S.nd.sublist (List.take_sublist _ _)
    refine ⟨u, rv, ?_⟩
    rcases S.par y (List.mem_of_getElem? hp) with k | k
    · exact .inl ⟨k, bindL_get ndP hp hu k⟩
    · obtain ⟨c, e⟩ := cell_has (n := s.heap.objs.size + 1) k
      refine .inr ⟨.inl k, c, e, ?_⟩
      have q := x.cell y c e
      rw [bindC_get ndP hp hu (by show scope.names.lookup y ≠ _; rw [k]; decide)] at q
      exact q
  · exact e0.hok.fresh (Nat.le_of_lt (x.above y c (PySem.mem_of_lookup h)))
  · unfold start
    show _ = N.length
    rw [List.length_append, List.length_map, List.length_replicate]
    omega
theorem fn_of {CX : CXT} {P : Program} {w : World} {K : PySem.W.Frag} {mg : Str → Option Value} {base : Heap} {k : Nat} {f : Addr} {name qual : Str} {params : Arguments} {body : List Stmt} {scope : Scope} {dV kV doc pm cdv ct oc : Value} {an od : Option Addr}
    {osl : Array (Option Value)} {N ps : List Str} {sp : Sp} (lk : K.lookup f = some ⟨oc, od, .func (PySem.W.fnOf name qual params body scope dV kV doc pm an cdv ct), osl⟩) (hcd : PySem.W.codeIn K cdv qual = true) (S : FnScope N ps scope)
    (len : ∀ vs H Q E, sp vs H Q E → vs.length = ps.length)
    (hbody : ∀ (A : Around) (outer : List Env) (s : Shared) (H : Hp) (vs : List V) (Q : VK) (E : XK), Room k (A.deeper (envOfC qual scope s.heap.objs.size f cdv)) → sp vs H Q E →
      ∃ t, PSs (cxOf CX P w K mg base N qual scope f cdv A outer s H E) body t ∧ t { nx := fun _ H' => Q .non H', rt := Q } (start N vs) H) :
    FnOk P w K mg base CX (k + 1) f (PySem.W.fnOf name qual params body scope dV kV doc pm an cdv ct) ps sp := by
  refine ⟨len, fun A outer s H args us vs Q E hr e0 hb r hsp => ?_⟩
  have hl := len _ _ _ _ hsp
  have KX : K.In s.heap := e0.mod.kin.keeps fun b o e => (e0.bs b o e).1
  have lim : s.heap.NoLimit := e0.mod.nolimit.keeps fun b o e => (e0.bs b o e).1
  have hkind : ∀ y ∈ ps.zip us, scope.names.lookup y.1 = some .local ∨ (scope.names.lookup y.1 = some .cell ∧ ((cellsFrom (s.heap.objs.size + 1) scope.names []).lookup y.1).isSome = true) := fun ⟨n, v⟩ hy => by
    rcases S.par n (List.of_mem_zip hy).1 with q | q
    · exact .inl q
    · exact .inr ⟨q, PySem.W.cellsFrom_some _ _ _ (.inl q)⟩
  refine codeAny_call_function hr.depth (KX _ _ lk) rfl S.co S.gen rfl (PySem.W.codeRec_of KX hcd) (hb _ _ _ _ ?_)
  refine wpAny_newFunctionEnv_cells S.kind hkind fun env he s1 x => ?_
  subst he
  refine ⟨lim.keeps x.toInCall.keep, codeAny_func ?_⟩
  obtain ⟨t, ht, hq⟩ := hbody A outer s H vs Q E (hr.deeper _) hsp
  have I : Inv (cxOf CX P w K mg base N qual scope f cdv A outer s H E) [] (start N vs) H s1 := inv_start S hr.hd e0 hl r x
  refine wpAny_mono (ht [] s1 (start N vs) H _ I hq) (fun fl s' hs => ?_) fun e s' hs => hs
  have fin : ∀ {σ' : St} {H' : Hp} {v : V} {u : Value}, Inv (cxOf CX P w K mg base N qual scope f cdv A outer s H E) [] σ' H' s' → RelV v u → Q v H' → CE outer P w H s Q u s' :=
    fun {σ' H' v u} J rv q => ⟨v, H', J.os, J.bare, J.base, J.hok, rv, q⟩
  cases fl with
  | ret u =>
    obtain ⟨v, σ', H', J, rv, q⟩ := hs
    exact fin J rv q
  | next =>
    obtain ⟨σ', H', J, q⟩ := hs
    exact fin (v := V.non) (u := Value.none) J rfl q
  | brk =>
    obtain ⟨_, _, _, q⟩ := hs
    exact False.elim q
  | cont =>
    obtain ⟨_, _, _, q⟩ := hs
    exact False.elim q
end L2
namespace L2
open PySem PySem.Spec PyProof.Rows
section
variable {X : Cx} {x : Str} {p pos : Pos} {e : Expr} {es : List Expr} {t : TA} {id T : String} {r : List V → Hp → VK → Prop}
def tCB (r : List V → Hp → VK → Prop) (t : TA) : TE := fun σ H Q => t σ H fun vs H1 => r vs H1 Q
theorem pe_callB (hc : CallR X (.builtin id) r) (hg : Gl X x) (hm : X.mg x = none) (hv : bootBuiltins x = some (.builtin id)) (ha : PA X (e :: es) t) (hn : x ≠ "__name__" := by decide) (hdb : (x == ("__debug__" : Str)) = false := by decide)
    (he : starEach (e :: es) X.env = (false, eval e X.env) :: starEach es X.env := by rfl) (hpl : (backTo pos (starEach es X.env)).any (·.1) = false := by rfl) : PE X (.Call (.Name x p) (e :: es) [] pos) (tCB r t) := by
  intro pins s σ H Q I h
  refine wpAny_Call_Name_kw (ld_blt I hg hm hv ?_ hn hdb)
  exact PyProof.Rows.callWith_builtin1 (thn (ha pos pins s σ H _ I h) fun us s1 ⟨vs, H1, I1, r1, q1⟩ => hc pins s1 σ H1 vs us Q I1 r1 q1) he hpl
theorem pe_callTy (hc : CallR X (.type T) r) (hg : Gl X x) (hm : X.mg x = none) (hv : bootBuiltins x = some (.type T)) (ha : PA X (e :: es) t) (hn : x ≠ "__name__" := by decide) (hdb : (x == ("__debug__" : Str)) = false := by decide)
    (he : starEach (e :: es) X.env = (false, eval e X.env) :: starEach es X.env := by rfl) (hpl : (backTo pos (starEach es X.env)).any (·.1) = false := by rfl) : PE X (.Call (.Name x p) (e :: es) [] pos) (tCB r t) := by
  intro pins s σ H Q I h
  refine wpAny_Call_Name_kw (ld_blt I hg hm hv ?_ hn hdb)
  exact PyProof.Rows.callWith_type1 (thn (ha pos pins s σ H _ I h) fun us s1 ⟨vs, H1, I1, r1, q1⟩ => hc pins s1 σ H1 vs us Q I1 r1 q1) he hpl
end
end L2
namespace HT
open PySem PyProof.Rows
section
open PySem.SeqAt
open PySem.AutoSeq1 (wpAny_loadPart')
open PySem.MeetsSeq PySem.MeetsSeq2 PySem.MeetsSeq3
end
section
variable {prog : Program} {w : World} {A : Around} {E : Value → Shared → Prop} {s : Shared}
theorem cat_tup {t b : Addr} {vs ws : List Value} {Q : Value → Shared → Prop} (ht : IsTup s.heap t vs.toArray) (hb : IsTup s.heap b ws.toArray) (hv : vs ≠ [])
    (h1 : ws = [] → Q (.ref t) s) (h2 : ws ≠ [] → Q (.ref s.heap.objs.size) { s with heap := s.heap.push { cls := .type "tuple", data := .seq (vs ++ ws).toArray } })
    (hsz : vs.length + ws.length ≤ sizeLine) : wpAny (model prog w) A (binaryOp .Add (.ref t) (.ref b)) Q E s := by
  obtain ⟨⟨cls, dd, data, sl⟩, ho, hc, n, hd⟩ := id ht
  obtain ⟨⟨cls2, dd2, data2, sl2⟩, ho2, hc2, n2, hd2⟩ := id hb
  simp only at hc hd hc2 hd2
  subst hc hd hc2 hd2
  have e : vs.toArray ++ ws.toArray = (vs ++ ws).toArray := by simp
  by_cases hw : ws = []
  · exact concat_meets ⟨_, ho, rfl⟩ ⟨_, ho2, rfl⟩ noFill_tuple_add seq_tuple_add PySem.F.slot_tuple_add PySem.F.entry_tuple_add (PySem.F.args_tuple_add_2 _ _)
      (tuple_addW1 t b vs.toArray ws.toArray n n2 dd dd2 sl sl2 (by simpa using hv) (by simp [hw])) ⟨ho, ho2, h1 hw⟩
  · refine concat_meets ⟨_, ho, rfl⟩ ⟨_, ho2, rfl⟩ noFill_tuple_add seq_tuple_add PySem.F.slot_tuple_add PySem.F.entry_tuple_add (PySem.F.args_tuple_add_2 _ _)
      (tuple_addW2 t b vs.toArray ws.toArray n n2 dd dd2 sl sl2 (by simpa using hv) (by simpa using hw) (by rw [List.size_toArray, List.size_toArray]; exact hsz)) ⟨ho, ho2, ?_⟩
    rw [e]
    exact h2 hw
def sIx (n d : Nat) : Option Int → Nat
  | none => d
  | some v => if v < 0 then (v + (n : Int)).toNat else min v.toNat n
theorem sIx_none (n d : Nat) : sIx n d none = d := rfl
theorem sIx_nat (n d k : Nat) : sIx n d (some (k : Int)) = min k n := by
  show (if (k : Int) < 0 then ((k : Int) + (n : Int)).toNat else min (k : Int).toNat n) = min k n
  rw [if_neg (by omega), Int.toNat_natCast]
theorem sIx_le (n d : Nat) (hd : d ≤ n) (o : Option Int) : sIx n d o ≤ n := by
  cases o with
  | none => exact hd
  | some v =>
    show (if v < 0 then (v + (n : Int)).toNat else min v.toNat n) ≤ n
    by_cases hv : v < 0
    · rw [if_pos hv]; omega
    · rw [if_neg hv]; exact Nat.min_le_right _ _
end
end HT
namespace L2
open PySem PySem.Spec PyProof.Rows
abbrev TO := St → Hp → (Option Int → Hp → Prop) → Prop
def PO (X : Cx) (e : Option Expr) (t : TO) : Prop :=
  ∀ (pins : List (Addr × Obj)) (s : Shared) (σ : St) (H : Hp) (Q : Option Int → Hp → Prop), Inv X pins σ H s → t σ H Q →
    wpAny (model X.prog X.w) X.A (evalPart e X.env) (fun u s' => ∃ o H', Inv X pins σ H' s' ∧ IsPart u o ∧ Q o H') X.xe s
def tNoPart : TO := fun _ H Q => Q none H
def tPart (t : TE) : TO := fun σ H Q => t σ H fun x H1 => ∃ i, x = .int i ∧ Q (some i) H1
section
variable {X : Cx} {e : Expr} {te : TE} {lo hi : Option Expr} {tl th : TO} {pos p2 : Pos}
theorem po_none : PO X none tNoPart := by
  intro pins s σ H Q I h
  rw [evalPart_none]
  exact wpAny_pure ⟨none, H, I, .none, h⟩
theorem po_some (h : PE X e te) : PO X (some e) (tPart te) := by
  intro pins s σ H Q I hw
  rw [evalPart_some]
  refine thn (h pins s σ H _ I hw) fun u s1 ⟨x, H1, I1, r1, q1⟩ => ?_
  obtain ⟨i, rfl, q⟩ := q1
  obtain ⟨t, rfl⟩ := r1
  exact ⟨some i, H1, I1, .int i t, q⟩
def SlR (X : Cx) (r : V → Option Int → Option Int → Hp → VK → Prop) : Prop :=
  ∀ (pins : List (Addr × Obj)) (s : Shared) (σ : St) (H : Hp) (x : V) (v vl vu : Value) (lo hi : Option Int) (sl : Addr) (Q : VK), Inv X pins σ H s → RelV x v → s.heap.IsSliceOf sl vl vu .none → IsPart vl lo → IsPart vu hi → r x lo hi H Q →
    ∃ T id, typeLookup (.type T) "__getitem__" = pure (some (.builtin id)) ∧ s.TypeIs v T ∧ wpAny (model X.prog X.w) X.A (getItem v (.ref sl)) (EP X pins σ Q) X.xe s
theorem SlR.or {r r' : V → Option Int → Option Int → Hp → VK → Prop} (h : SlR X r) (h' : SlR X r') : SlR X (fun x lo hi H Q => r x lo hi H Q ∨ r' x lo hi H Q) := by
  intro pins s σ H x v vl vu lo hi sl Q I rx hs pl pu q
  rcases q with q | q
  · exact h pins s σ H x v vl vu lo hi sl Q I rx hs pl pu q
  · exact h' pins s σ H x v vl vu lo hi sl Q I rx hs pl pu q
def tSl (r : V → Option Int → Option Int → Hp → VK → Prop) (te : TE) (tl th : TO) : TE := fun σ H Q => te σ H fun x H1 => tl σ H1 fun l H2 => th σ H2 fun u H3 => r x l u H3 Q
theorem pe_slice {r : V → Option Int → Option Int → Hp → VK → Prop} (hr : SlR X r) (he : PE X e te) (hl : PO X lo tl) (hu : PO X hi th) : PE X (.Subscript e (.Slice lo hi none p2) pos) (tSl r te tl th) := by
  intro pins s σ H Q I h
  refine Subscript_ (thn (he pins s σ H _ I h) fun v s1 ⟨x, H1, I1, r1, q1⟩ => ?_)
  refine wpAny_Slice (thn (hl pins s1 σ H1 _ I1 q1) fun vl s2 ⟨l, H2, I2, pl, q2⟩ => thn (hu pins s2 σ H2 _ I2 q2) fun vu s3 ⟨u, H3, I3, pu, q3⟩ => ?_)
  rw [evalPart_none]
  refine wpAny_pure ?_
  have I4 : Inv X pins σ H3 { s3 with heap := s3.heap.push { cls := .type "slice", data := .fields #[vl, vu, .none] } } := I3.kept (t' := s3.toks) fun b ob q => Heap.get?_push_of_some _ q
  obtain ⟨T, id, hT, ht, hg⟩ := hr pins { s3 with heap := s3.heap.push { cls := .type "slice", data := .fields #[vl, vu, .none] } } σ H3 x v vl vu l u s3.heap.objs.size Q I4 r1 (Heap.IsSliceOf.new ..) pl pu q3
  show wpAny (model X.prog X.w) X.A (subscriptTail e (.Slice lo hi none p2) v (.ref s3.heap.objs.size)) (EP X pins σ Q) X.xe { s3 with heap := s3.heap.push { cls := .type "slice", data := .fields #[vl, vu, .none] } }
  exact tail_any (ops := [.ref s3.heap.objs.size, v]) ht hT hg (by with_unfolding_all rfl)
def cutV (xs : List V) (lo hi : Option Int) : List V := (xs.drop (HT.sIx xs.length 0 lo)).take (HT.sIx xs.length xs.length hi - HT.sIx xs.length 0 lo)
theorem cutV_length (xs : List V) (lo hi : Option Int) : (cutV xs lo hi).length ≤ xs.length := by
  unfold cutV
  rw [List.length_take, List.length_drop]
  omega
def rCatT (K : PySem.W.Frag) : R2 := fun x y H Q => ∃ a b xs ys, x = .ref a ∧ y = .ref b ∧ SqT K H a xs ∧ SqT K H b ys ∧ xs ≠ [] ∧ xs.length + ys.length ≤ sizeLine ∧
  (ys = [] → Q (.ref a) H) ∧ (ys ≠ [] → ∀ p, H p = none → Q (.ref p) (upd H p (.tup (xs ++ ys))))
theorem Vals.nil_iff {xs : List V} {us : List Value} (r : Vals xs us) : us = [] ↔ xs = [] := by
  cases r with
  | nil => simp
  | cons _ _ => simp
theorem op_catT : OpR X (binaryOp .Add) (rCatT X.K) := by
  intro pins s σ H x y v u Q I rx ry h
  obtain ⟨a, b, xs, ys, rfl, rfl, ha, hb, hx, hz, q1, q2⟩ := h
  cases rx
  cases ry
  obtain ⟨its, r1, p1, _⟩ := I.tuple ha
  obtain ⟨its2, r2, p2, _⟩ := I.tuple hb
  refine HT.cat_tup p1 p2 (fun z => hx (r1.nil_iff.mp z)) (fun z => ⟨.ref a, H, I, rfl, q1 (r2.nil_iff.mp z)⟩) (fun z => ?_) (by rw [← r1.length, ← r2.length]; exact hz)
  refine ⟨.ref s.heap.objs.size, _, I.laid (t' := s.toks) (o := .tup (xs ++ ys)) (fun b ob q => Heap.get?_push_of_some _ q) (Nat.le_refl _) ?_, rfl, q2 (fun w => z (r2.nil_iff.mpr w)) _ (I.hok.fresh (Nat.le_refl _))⟩
  exact ⟨by rw [List.length_append]; exact hz, _, r1.append r2, IsTup.new _ _⟩
end
end L2
namespace L2
open PySem PySem.Spec PyProof.Rows
def ixN (n : Nat) (i : Int) : Option Nat := if 0 ≤ i then (if i < n then some i.toNat else none) else if -(n : Int) ≤ i then some (i + n).toNat else none
def atI {α : Type} (xs : List α) (i : Int) : Option α := (ixN xs.length i).bind fun j => xs[j]?
theorem ixN_seq {n : Nat} {i : Int} {j : Nat} (h : ixN n i = some j) : seqIndex? i n = some j ∧ j < n ∧ -(n : Int) ≤ i ∧ i < n := by
  unfold ixN at h
  by_cases h0 : 0 ≤ i
  · rw [if_pos h0] at h
    by_cases h1 : i < n
    · rw [if_pos h1] at h
      have e : i.toNat = j := Option.some.inj h
      exact ⟨by rw [seqIndex_of h0 h1, e], by omega, by omega, h1⟩
    · rw [if_neg h1] at h; cases h
  · rw [if_neg h0] at h
    by_cases h1 : -(n : Int) ≤ i
    · rw [if_pos h1] at h
      have e : (i + n).toNat = j := Option.some.inj h
      exact ⟨by rw [seqIndex_neg (by omega) h1, e], by omega, h1, by omega⟩
    · rw [if_neg h1] at h; cases h
theorem atI_get {α : Type} {xs : List α} {i : Int} {v : α} (h : atI xs i = some v) : ∃ j, seqIndex? i xs.length = some j ∧ xs[j]? = some v ∧ j < xs.length ∧ -(xs.length : Int) ≤ i ∧ i < xs.length := by
  unfold atI at h
  cases e : ixN xs.length i with
  | none => rw [e] at h; cases h
  | some j =>
    rw [e] at h
    obtain ⟨h1, h2, h3, h4⟩ := ixN_seq e
    exact ⟨j, h1, h, h2, h3, h4⟩
theorem atI_nat {α : Type} {xs : List α} {j : Nat} {v : α} (h : xs[j]? = some v) : atI xs (j : Int) = some v := by
  have hj : j < xs.length := (List.getElem?_eq_some_iff.mp h).1
  have e : ixN xs.length (j : Int) = some j := by
    unfold ixN
    rw [if_pos (by omega), if_pos (by omega)]; simp
  unfold atI; rw [e]; exact h
def PlainIx (b : Expr) : Prop := ∀ o i, subscripted b false o i = operate [o, i] (getItem o i)
def IxR (X : Cx) (r : R2) : Prop :=
  ∀ (value slice : Expr) (pins : List (Addr × Obj)) (s : Shared) (σ : St) (H : Hp) (x y : V) (v u : Value) (Q : VK), Inv X pins σ H s → RelV x v → RelV y u → r x y H Q →
    subscripted slice false v u = operate [v, u] (getItem v u) → wpAny (model X.prog X.w) X.A (subscriptTail value slice v u) (EP X pins σ Q) X.xe s
def MtR (X : Cx) (id : String) (r : V → List V → Hp → VK → Prop) : Prop :=
  ∀ (pins : List (Addr × Obj)) (s : Shared) (σ : St) (H : Hp) (x : V) (xs : List V) (v : Value) (us : List Value) (Q : VK), Inv X pins σ H s → RelV x v → Vals xs us → r x xs H Q →
    wpAny (model X.prog X.w) X.A (call (.builtin id) (v :: us)) (EP X pins σ Q) X.xe s
section
variable {X : Cx} {a b : Expr} {ta tb : TE} {pos : Pos}
theorem IxR.or {r r' : R2} (h : IxR X r) (h' : IxR X r') : IxR X (fun x y H Q => r x y H Q ∨ r' x y H Q) := by
  intro value slice pins s σ H x y v u Q I rx ry q hs
  rcases q with q | q
  · exact h value slice pins s σ H x y v u Q I rx ry q hs
  · exact h' value slice pins s σ H x y v u Q I rx ry q hs
theorem MtR.or {id : String} {r r' : V → List V → Hp → VK → Prop} (h : MtR X id r) (h' : MtR X id r') : MtR X id (fun x xs H Q => r x xs H Q ∨ r' x xs H Q) := by
  intro pins s σ H x xs v us Q I rx rs q
  rcases q with q | q
  · exact h pins s σ H x xs v us Q I rx rs q
  · exact h' pins s σ H x xs v us Q I rx rs q
theorem pe_ix {r : R2} (hr : IxR X r) (ha : PE X a ta) (hb : PE X b tb) (hs : PlainIx b) : PE X (.Subscript a b pos) (tOp r ta tb) := by
  intro pins s σ H Q I h
  exact Subscript_ (binT ha hb I h fun v u s2 x y H2 I2 rx ry q => hr a b pins s2 σ H2 x y v u Q I2 rx ry q (hs _ _))
def rIxL (K : PySem.W.Frag) : R2 := fun x y H Q => ∃ p xs i v, x = .ref p ∧ y = .int i ∧ SqL K H p xs ∧ atI xs i = some v ∧ Q v H
def rIxT (K : PySem.W.Frag) : R2 := fun x y H Q => ∃ p xs i v, x = .ref p ∧ y = .int i ∧ SqT K H p xs ∧ atI xs i = some v ∧ Q v H
def rIxS : R2 := fun x y H Q => ∃ z i c, x = .str z ∧ y = .int i ∧ z.length ≤ sizeLine ∧ atI z.cps.toList i = some c ∧ Q (.str ⟨#[c]⟩) H
theorem ix_list : IxR X (rIxL X.K) := by
  intro value slice pins s σ H x y v u Q I rx ry h hs
  obtain ⟨p, xs, i, z, rfl, rfl, hq, he, q⟩ := h
  cases rx
  obtain ⟨t, rfl⟩ := ry
  obtain ⟨its, r, pl, hz⟩ := I.list hq
  obtain ⟨j, h1, h2, h3, h4, h5⟩ := atI_get he
  obtain ⟨w, ew, rw'⟩ := r.get h2
  have hl := r.length
  have hn := line63
  have fin : EP X pins σ Q w s := ⟨z, H, I, rw', q⟩
  by_cases h0 : 0 ≤ i
  · have hj : i.toNat = j := by
      rw [seqIndex_of h0 h5] at h1
      exact Option.some.inj h1
    exact item_listR pl.isList h0 (by omega) (by rw [hj]; simpa using ew) fin hs
  · have hj : (i + (its.toArray.size : Int)).toNat = j := by
      rw [seqIndex_neg (by omega) h4] at h1
      rw [List.size_toArray, ← hl]
      exact Option.some.inj h1
    exact subscriptTail_builtinR (x := w) pl.isList.typeIs slot_list_getitem.lookup
      (wpAny_getItem_list_neg (Q := fun r s' => r = w ∧ EP X pins σ Q r s') pl.isList (by omega) (by rw [List.size_toArray] <;> omega) (by omega) (by rw [hj]; simpa using ew) ⟨rfl, fin⟩) hs
theorem ix_tup : IxR X (rIxT X.K) := by
  intro value slice pins s σ H x y v u Q I rx ry h hs
  obtain ⟨p, xs, i, z, rfl, rfl, hq, he, q⟩ := h
  cases rx
  obtain ⟨t, rfl⟩ := ry
  obtain ⟨its, r, pl, hz⟩ := I.tuple hq
  obtain ⟨j, h1, h2, h3, h4, h5⟩ := atI_get he
  obtain ⟨w, ew, rw'⟩ := r.get h2
  have hl := r.length
  have hn := line63
  have fin : EP X pins σ Q w s := ⟨z, H, I, rw', q⟩
  exact subscriptTail_builtinR (x := w) pl.typeIs slot_tuple_getitem.lookup
    (getItem_tuple (j := j) (Q := fun r s' => r = w ∧ EP X pins σ Q r s') pl (by omega) (by omega) (by rw [List.size_toArray, ← hl]; exact h1) (by simpa using ew) ⟨rfl, fin⟩) hs
theorem ix_str : IxR X rIxS := by
  intro value slice pins s σ H x y v u Q I rx ry h hs
  obtain ⟨z, i, c, rfl, rfl, hz, he, q⟩ := h
  obtain ⟨t, rfl⟩ := rx
  obtain ⟨t', rfl⟩ := ry
  obtain ⟨j, h1, h2, h3, h4, h5⟩ := atI_get he
  have hl : z.cps.toList.length = z.length := by simp [Str.length]
  rw [hl] at h1 h4 h5
  have hn := line63
  exact tail_any (typeIs_str s z t) slot_str_getitem.lookup (getItem_str (c := c) (by
    have e1 : decide (i < -(2 ^ 63 : Int)) = false := decide_eq_false (by omega)
    have e2 : decide (i ≥ 2 ^ 63) = false := decide_eq_false (by omega)
    rw [e1, e2, Bool.or_false]) (by rw [h1]; simpa using h2) ⟨.str ⟨#[c]⟩, H, I.tok _, ⟨_, rfl⟩, q⟩) hs
def rIx (K : PySem.W.Frag) : R2 := fun x y H Q => rIxL K x y H Q ∨ rIxT K x y H Q ∨ rIxS x y H Q
theorem ix_seq : IxR X (rIx X.K) := ix_list.or (ix_tup.or ix_str)
theorem mapSeq_set (its : List Value) (n j : Nat) (u : Value) : Obj.mapSeq (·.setIfInBounds j u) { cls := .type "list", data := .seq its.toArray n } = { cls := .type "list", data := .seq (its.set j u).toArray n } := by
  simp [Obj.mapSeq]
theorem Inv.lst {pins : List (Addr × Obj)} {σ : St} {H : Hp} {s : Shared} {p : Addr} {xs : List V} (I : Inv X pins σ H s) (h : H p = some (.lst xs)) :
    ∃ (its : List Value) (n : Nat), Vals xs its ∧ s.heap.get? p = some { cls := .type "list", data := .seq its.toArray n } ∧ xs.length ≤ sizeLine := by
  obtain ⟨z, its, n, r, e⟩ := I.hok p _ h
  exact ⟨its, n, r, e, z⟩
theorem Inv.lstUpd {pins : List (Addr × Obj)} {σ : St} {H : Hp} {s : Shared} {p : Addr} {xs ys : List V} {its its' : List Value} {n n' : Nat} {f : Obj → Obj} (I : Inv X pins σ H s) (h : H p = some (.lst xs))
    (ho : s.heap.get? p = some { cls := .type "list", data := .seq its.toArray n }) (hf : f { cls := .type "list", data := .seq its.toArray n } = { cls := .type "list", data := .seq its'.toArray n' }) (r : Vals ys its') (hz : ys.length ≤ sizeLine) (t : Nat) :
    Inv X pins σ (upd H p (.lst ys)) { s with heap := s.heap.update p f, toks := t } := by
  have e : (s.heap.update p f).get? p = some { cls := .type "list", data := .seq its'.toArray n' } := by
    rw [Heap.get?_update_self f ho (by rw [hf] <;> rfl), hf]
  refine I.write (x := p) (e := p) (by rw [h]; trivial) (.inl rfl) (fun b u hb q => (Heap.get?_update_other _ _ (Ne.symm hb)).trans q) ⟨_, e⟩ ?_
  exact ⟨hz, its', n', r, e⟩
def rSetL : V → V → V → Hp → (Hp → Prop) → Prop := fun o i v H Q => ∃ p xs k j, o = .ref p ∧ i = .int k ∧ H p = some (.lst xs) ∧ ixN xs.length k = some j ∧ Q (upd H p (.lst (xs.set j v)))
theorem set_list : PSet X rSetL := by
  intro pins s σ H o i v ov iv u Q I ro ri rv h
  obtain ⟨p, xs, k, j, rfl, rfl, hp, hj, q⟩ := h
  cases ro
  obtain ⟨t, rfl⟩ := ri
  obtain ⟨its, n, r, ho, hz⟩ := I.lst hp
  obtain ⟨h1, h2, h3, h4⟩ := ixN_seq hj
  have hl := r.length
  have hn := line63
  have I' : Inv X pins σ (upd H p (.lst (xs.set j v))) { s with heap := s.heap.update p (Obj.mapSeq (·.setIfInBounds j u)) } :=
    I.lstUpd hp ho (mapSeq_set its n j u) (r.set rv j) (by rw [List.length_set]; exact hz) s.toks
  by_cases h0 : 0 ≤ k
  · have hk : k.toNat = j := by
      rw [seqIndex_of h0 h4] at h1
      exact Option.some.inj h1
    exact PySem.W.ki_setAt ho h0 (by omega) (by rw [List.size_toArray, ← hl]; exact h4) (by rw [hk]; exact ⟨_, I', q⟩)
  · have hk : (k + (its.toArray.size : Int)).toNat = j := by
      rw [seqIndex_neg (by omega) h3] at h1
      rw [List.size_toArray, ← hl]
      exact Option.some.inj h1
    exact PySem.W.ki_setBack ho (by omega) (by rw [List.size_toArray, ← hl]; exact h3) (by omega) (by rw [hk]; exact ⟨_, I', q⟩)
theorem slice_bounds (lo hi : Option Int) (n : Nat) : (sliceBounds lo hi none n).1 = ((HT.sIx n 0 lo : Nat) : Int) ∧ (sliceBounds lo hi none n).2.1 = ((HT.sIx n n hi : Nat) : Int) ∧ (sliceBounds lo hi none n).2.2 = 1 := by
  refine ⟨?_, ?_, rfl⟩
  · cases lo with
    | none => simp [sliceBounds, HT.sIx]
    | some i =>
      simp only [sliceBounds, HT.sIx, Option.getD_none, show (1 : Int) > 0 by decide, if_true]
      by_cases h : i < 0
      · simp only [h, if_true] <;> omega
      · simp only [h, if_false] <;> omega
  · cases hi with
    | none => simp [sliceBounds, HT.sIx]
    | some i =>
      simp only [sliceBounds, HT.sIx, Option.getD_none, show (1 : Int) > 0 by decide, if_true]
      by_cases h : i < 0
      · simp only [h, if_true] <;> omega
      · simp only [h, if_false] <;> omega
theorem slicePick_cut (its : List Value) (lo hi : Option Int) : slicePick its.toArray lo hi none = ((its.drop (HT.sIx its.length 0 lo)).take (HT.sIx its.length its.length hi - HT.sIx its.length 0 lo)).toArray := by
  obtain ⟨h1, h2, h3⟩ := slice_bounds lo hi its.toArray.size
  unfold slicePick
  rw [h1, h2, h3]
  simp only [sliceRange_one, pick_run, List.size_toArray] <;> rfl
def rSlL (K : PySem.W.Frag) : V → Option Int → Option Int → Hp → VK → Prop := fun x lo hi H Q => ∃ a xs, x = .ref a ∧ SqL K H a xs ∧ ∀ p, H p = none → Q (.ref p) (upd H p (.lst (cutV xs lo hi)))
theorem sl_list : SlR X (rSlL X.K) := by
  intro pins s σ H x v vl vu lo hi sl Q I rx hs pl pu h
  obtain ⟨a, xs, rfl, hx, q⟩ := h
  cases rx
  obtain ⟨its, r, ht, hz⟩ := I.list hx
  have hlen := r.length
  refine ⟨"list", _, slot_list_getitem.lookup, ht.isList.typeIs, ?_⟩
  refine wpAny_getItem_list_slice ht.isList hs pl pu .none (by simp) ?_ (by rw [List.size_toArray] <;> omega)
  rw [slicePick_cut, ← hlen]
  refine ⟨.ref s.heap.objs.size, _, I.laid (t' := s.toks) (o := .lst (cutV xs lo hi)) (fun b ob q => Heap.get?_push_of_some _ q) (Nat.le_refl _) ?_, rfl, q _ (I.hok.fresh (Nat.le_refl _))⟩
  exact ⟨Nat.le_trans (cutV_length xs lo hi) hz, _, 0, (r.drop (HT.sIx xs.length 0 lo)).take (HT.sIx xs.length xs.length hi - HT.sIx xs.length 0 lo), Heap.get?_push_size _ rfl⟩
def flatV : V → Bool
  | .non => true
  | .bl _ => true
  | .int _ => true
  | .str _ => true
  | _ => false
def eqV : V → V → Bool
  | .non, .non => true
  | .bl a, .bl b => a == b
  | .bl a, .int b => (if a then 1 else 0) == b
  | .int a, .bl b => a == (if b then 1 else 0)
  | .int a, .int b => a == b
  | .str a, .str b => a == b
  | _, _ => false
theorem eqAt_V {A : Around} {s : Shared} {y x : V} {u v : Value} (ry : RelV y u) (rx : RelV x v) (fy : flatV y = true) (fx : flatV x = true) : SeqAt.EqAt A s u v (eqV y x) := by
  cases y with
  | non =>
    cases ry
    cases x with
    | non => cases rx; exact SeqAt.EqAt.same _
    | bl b => cases rx; exact SeqAt.EqAt.none_bool b
    | int b => obtain ⟨t, rfl⟩ := rx; exact SeqAt.EqAt.none_int b t
    | str b => obtain ⟨t, rfl⟩ := rx; exact SeqAt.EqAt.none_str b t
    | _ => exact absurd (show false = true from fx) Bool.false_ne_true
  | bl a =>
    cases ry
    cases x with
    | non => cases rx; exact SeqAt.EqAt.bool_none a
    | bl b => cases rx; exact SeqAt.EqAt.bool_bool a b
    | int b => obtain ⟨t, rfl⟩ := rx; exact SeqAt.EqAt.bool_int a b t
    | str b => obtain ⟨t, rfl⟩ := rx; exact SeqAt.EqAt.bool_str a b t
    | _ => exact absurd (show false = true from fx) Bool.false_ne_true
  | int a =>
    obtain ⟨t', rfl⟩ := ry
    cases x with
    | non => cases rx; exact SeqAt.EqAt.int_none a t'
    | bl b => cases rx; exact SeqAt.EqAt.int_bool a t' b
    | int b => obtain ⟨t, rfl⟩ := rx; exact SeqAt.EqAt.int_int a t' b t
    | str b => obtain ⟨t, rfl⟩ := rx; exact SeqAt.EqAt.int_str a t' b t
    | _ => exact absurd (show false = true from fx) Bool.false_ne_true
  | str a =>
    obtain ⟨t', rfl⟩ := ry
    cases x with
    | non => cases rx; exact SeqAt.EqAt.str_none a t'
    | bl b => cases rx; exact SeqAt.EqAt.str_bool a t' b
    | int b => obtain ⟨t, rfl⟩ := rx; exact SeqAt.EqAt.str_int a t' b t
    | str b => obtain ⟨t, rfl⟩ := rx; exact SeqAt.EqAt.str_str a t' b t
    | _ => exact absurd (show false = true from fx) Bool.false_ne_true
  | _ => exact absurd (show false = true from fy) Bool.false_ne_true
theorem CallR.or {f : Value} {r r' : List V → Hp → VK → Prop} (h : CallR X f r) (h' : CallR X f r') : CallR X f (fun xs H Q => r xs H Q ∨ r' xs H Q) := by
  intro pins s σ H xs us Q I rs q
  rcases q with q | q
  · exact h pins s σ H xs us Q I rs q
  · exact h' pins s σ H xs us Q I rs q
theorem call_list_of : CallR X (.type "list") (fun xs H Q => ∃ p ys, xs = [.ref p] ∧ (SqL X.K H p ys ∨ SqT X.K H p ys) ∧ ∀ l, H l = none → Q (.ref l) (upd H l (.lst ys))) := by
  intro pins s σ H xs us Q I r h
  obtain ⟨p, ys, rfl, hq, q⟩ := h
  obtain ⟨u, rfl, rx⟩ := vals1 r
  cases rx
  have fin : ∀ (its : List Value), Vals ys its → ys.length ≤ sizeLine → ∀ (h' : Heap) (c' : Nat), (∀ b o', s.heap.get? b = some o' → h'.get? b = some o') →
      h'.get? s.heap.objs.size = some { cls := .type "list", dict := none, data := .seq its.toArray c', slots := #[] } → EP X pins σ Q (.ref s.heap.objs.size) { s with heap := h' } := fun its r' hz h' c' kp e =>
    ⟨.ref s.heap.objs.size, _, I.laid (t' := s.toks) kp (Nat.le_refl _) (show ObjOk X.prog X.w _ h' _ (.lst ys) from ⟨hz, its, c', r', e⟩), rfl, q _ (I.hok.fresh (Nat.le_refl _))⟩
  rcases hq with hq | hq
  · obtain ⟨its, r', pl, hz⟩ := I.list hq
    have hlen := r'.length
    obtain ⟨o, ho, hc, n, hd⟩ := pl.isList
    exact call_list_seq p (.inl rfl) ho hc hd (fun h' c' kp e => fin its r' hz h' c' kp e) (by simp only [List.size_toArray] <;> omega)
  · obtain ⟨its, r', pl, hz⟩ := I.tuple hq
    have hlen := r'.length
    obtain ⟨o, ho, hc, n, hd⟩ := pl
    exact call_list_seq p (.inr rfl) ho hc hd (fun h' c' kp e => fin its r' hz h' c' kp e) (by simp only [List.size_toArray] <;> omega)
theorem call_tuple_of : CallR X (.type "tuple") (fun xs H Q => ∃ p ys, xs = [.ref p] ∧ ((SqL X.K H p ys ∧ ∀ l, H l = none → Q (.ref l) (upd H l (.tup ys))) ∨ (SqT X.K H p ys ∧ Q (.ref p) H))) := by
  intro pins s σ H xs us Q I r h
  obtain ⟨p, ys, rfl, h⟩ := h
  obtain ⟨u, rfl, rx⟩ := vals1 r
  cases rx
  rcases h with ⟨hq, q⟩ | ⟨hq, q⟩
  · obtain ⟨its, r', pl, hz⟩ := I.list hq
    have hlen := r'.length
    refine call_tuple_list pl.isList (fun h' kp => ?_) (by simp only [List.size_toArray] <;> omega)
    have I1 : Inv X pins σ H { s with heap := h' } := I.kept (t' := s.toks) kp
    have I2 : Inv X pins σ (upd H h'.objs.size (.tup ys)) { s with heap := h'.push { cls := .type "tuple", data := .seq its.toArray } } :=
      I1.laid (t' := s.toks) (fun b o e => Heap.get?_push_of_some _ e) (Nat.le_refl _) (show ObjOk X.prog X.w _ _ _ (.tup ys) from ⟨hz, its, r', IsTup.new _ _⟩)
    exact ⟨.ref h'.objs.size, _, I2, rfl, q _ (I1.hok.fresh (Nat.le_refl _))⟩
  · obtain ⟨its, r', pl, hz⟩ := I.tuple hq
    exact call_tuple_same pl ⟨.ref p, H, I, rfl, q⟩
def tyV (K : PySem.W.Frag) (T : String) (x : V) (H : Hp) : Prop := match x with
  | .str _ => T = "str"
  | .int _ => T = "int"
  | .ref p => (T = "list" ∧ ∃ xs, SqL K H p xs) ∨ (T = "tuple" ∧ ∃ o, K.lookup p = some o ∧ o.cls = .type "tuple" ∧ o.dict = none) ∨
      (T = "dict" ∧ ((∃ kvs, H p = some (.dK kvs)) ∨ ∃ kvs, H p = some (.dT kvs))) ∨ (T = "set" ∧ ∃ S n, H p = some (.set S n))
  | _ => False
theorem tyV_is {pins : List (Addr × Obj)} {σ : St} {H : Hp} {s : Shared} {T : String} {x : V} {v : Value} (I : Inv X pins σ H s) (r : RelV x v) (ty : tyV X.K T x H) :
    s.TypeIs v T ∧ ∀ a, v = .ref a → ∃ ob, s.heap.get? a = some ob ∧ ob.dict = none := by
  cases x with
  | str z =>
    obtain ⟨t, rfl⟩ := r
    cases (show T = "str" from ty)
    exact ⟨typeIs_str s z t, fun _ e => nomatch e⟩
  | int i =>
    obtain ⟨t, rfl⟩ := r
    cases (show T = "int" from ty)
    exact ⟨typeIs_int s i t, fun _ e => nomatch e⟩
  | ref p =>
    cases r
    rcases ty with ⟨rfl, xs, hq⟩ | ⟨rfl, o, hk, hc, hd⟩ | ⟨rfl, hk⟩ | ⟨rfl, S, n, hk⟩
    · obtain ⟨its, _, pl, _⟩ := I.list hq
      refine ⟨pl.isList.typeIs, fun a e => ?_⟩
      cases e
      obtain ⟨o, n, e, c, hd, _⟩ := pl
      exact ⟨o, e, hd⟩
    · refine ⟨⟨o, I.kIn p o hk, hc⟩, fun a e => ?_⟩
      cases e
      exact ⟨o, I.kIn _ o hk, hd⟩
    · have z : ∃ o, s.heap.get? p = some o ∧ o.ExactDict := by
        rcases hk with ⟨kvs, hk⟩ | ⟨kvs, hk⟩
        · obtain ⟨_, _, _, _, o, _, _, e, ex, _⟩ := I.hok p _ hk
          exact ⟨o, e, ex⟩
        · obtain ⟨_, _, _, _, o, _, _, e, ex, _⟩ := I.hok p _ hk
          exact ⟨o, e, ex⟩
      obtain ⟨o, e, ex⟩ := z
      refine ⟨⟨o, e, ex.1⟩, fun a e2 => ?_⟩
      cases e2
      exact ⟨o, e, ex.2.1⟩
    · obtain ⟨o, _, _, _, e, ex, _⟩ := I.hok p _ hk
      refine ⟨⟨o, e, ex.1⟩, fun a e2 => ?_⟩
      cases e2
      exact ⟨o, e, ex.2.1⟩
  | _ => exact False.elim ty
def tBM0 (K : PySem.W.Frag) (T : String) (r : V → List V → Hp → VK → Prop) (to : TE) : TE := fun σ H Q => to σ H fun x H1 => tyV K T x H1 ∧ r x [] H1 Q
def tBM (K : PySem.W.Frag) (T : String) (r : V → List V → Hp → VK → Prop) (to : TE) (t : TA) : TE := fun σ H Q => to σ H fun x H1 => tyV K T x H1 ∧ t σ H1 fun xs H2 => r x xs H2 Q
variable {o e : Expr} {es : List Expr} {to : TE} {t : TA} {name : Str} {apos cpos : Pos} {T id : String} {r : V → List V → Hp → VK → Prop}
theorem pe_bm0 (pa : PlainAttrs T) (slot : Slot T name id) (hty : typeOf (.builtin id) = pure (.type "method_descriptor")) (hm : MtR X id r) (ho : PE X o to)
    (hbase : attributeBase o name X.env (eval o X.env) = eval o X.env := by rfl) (hline : (apos.endLine == cpos.line) = true := by rfl) : PE X (.Call (.Attribute o name apos) [] [] cpos) (tBM0 X.K T r to) := by
  intro pins s σ H Q I h
  refine wpAny_Call_method0_late hbase hline (thn (ho pins s σ H _ I h) fun v s1 ⟨x, H1, I1, r1, ty, q1⟩ => ?_)
  obtain ⟨h1, h2⟩ := tyV_is I1 r1 ty
  exact ⟨T, id, pa, slot, hty, h1, h2, Calls.callWith_builtin rfl (PySem.evalArgs_none (hm pins s1 σ H1 x [] v [] Q I1 r1 .nil q1))⟩
theorem pe_bm (pa : PlainAttrs T) (slot : Slot T name id) (hty : typeOf (.builtin id) = pure (.type "method_descriptor")) (hm : MtR X id r) (ho : PE X o to) (ha : PA X (e :: es) t)
    (hbase : attributeBase o name X.env (eval o X.env) = eval o X.env := by rfl)
    (hfew : ((backTo cpos (starEach (e :: es) X.env)).all (fun x => !x.1) && (backToKw cpos (keywordEach [] X.env)).all (fun x => x.1.isSome)
      && decide ((e :: es).length + ([] : List Keyword).length + (if ([] : List Keyword).isEmpty then 0 else 1) < 30)) = true := by rfl)
    (hline : (apos.endLine == cpos.line) = true := by rfl) (hs : starEach (e :: es) X.env = (false, eval e X.env) :: starEach es X.env := by rfl) (hplain : (backTo cpos (starEach es X.env)).any (·.1) = false := by rfl) :
    PE X (.Call (.Attribute o name apos) (e :: es) [] cpos) (tBM X.K T r to t) := by
  intro pins s σ H Q I h
  refine wpAny_Call_method_late hbase hfew hline rfl (thn (ho pins s σ H _ I h) fun v s1 ⟨x, H1, I1, r1, ty, q1⟩ => ?_)
  obtain ⟨h1, h2⟩ := tyV_is I1 r1 ty
  refine ⟨T, id, pa, slot, hty, h1, h2, ?_⟩
  have hA := ha cpos pins s1 σ H1 _ I1 q1
  rw [hs] at hA ⊢
  refine Calls.callWith_builtin (by show (false || (backTo cpos (starEach es X.env)).any (·.1)) = false; rw [hplain] <;> rfl) (Calls.evalArgs_plain ?_)
  exact thn hA fun us s2 ⟨vs, H2, I2, r2, q2⟩ => hm pins s2 σ H2 x vs v us Q I2 r1 r2 q2
end
end L2
namespace L2
open PySem PySem.Spec PyProof.Rows
def MtM (X : Cx) (id : String) (r : V → List V → Hp → VK → Prop) : Prop :=
  ∀ (pins : List (Addr × Obj)) (s : Shared) (σ : St) (H : Hp) (x : V) (xs : List V) (v : Value) (us : List Value) (Q : VK), Inv X pins σ H s → RelV x v → Vals xs us → r x xs H Q →
    wpAny (model X.prog X.w) X.A (call (.builtin id) (v :: us)) (EP X pins σ Q) X.xe s
theorem Vals.one : ∀ {x : V} {us : List Value}, Vals [x] us → ∃ u, us = [u] ∧ RelV x u
  | _, _, .cons r .nil => ⟨_, rfl, r⟩
theorem Vals.two : ∀ {x y : V} {us : List Value}, Vals [x, y] us → ∃ u v, us = [u, v] ∧ RelV x u ∧ RelV y v
  | _, _, _, .cons r (.cons q .nil) => ⟨_, _, rfl, r, q⟩
theorem Vals.zero : ∀ {us : List Value}, Vals [] us → us = []
  | _, .nil => rfl
theorem Vals.dropLast {xs : List V} {us : List Value} (h : Vals xs us) : Vals xs.dropLast us.dropLast := by
  induction h with
  | nil => exact .nil
  | cons r t ih =>
    cases t with
    | nil => exact .nil
    | cons q t' => exact .cons r ih
theorem Vals.eraseIdx : ∀ {xs : List V} {us : List Value} (i : Nat), Vals xs us → Vals (xs.eraseIdx i) (us.eraseIdx i)
  | _, _, _, .nil => .nil
  | _, _, 0, .cons _ t => t
  | _, _, i + 1, .cons r t => .cons r (Vals.eraseIdx i t)
theorem Vals.reverse {xs : List V} {us : List Value} (h : Vals xs us) : Vals xs.reverse us.reverse := by
  induction h with
  | nil => exact .nil
  | cons r t ih => rw [List.reverse_cons, List.reverse_cons]; exact Vals.append ih (.cons r .nil)
theorem Vals.rep {xs : List V} {us : List Value} (h : Vals xs us) : ∀ k : Nat, Vals (List.replicate k xs).flatten (List.replicate k us).flatten
  | 0 => .nil
  | k + 1 => by
    rw [List.replicate_succ, List.replicate_succ, List.flatten_cons, List.flatten_cons]
    exact Vals.append h (Vals.rep h k)
theorem erase_last {α : Type} (l : List α) : l.eraseIdx (l.length - 1) = l.dropLast := by
  induction l with
  | nil => rfl
  | cons a r ih =>
    cases r with
    | nil => rfl
    | cons b r =>
      have e : (a :: b :: r).length - 1 = ((b :: r).length - 1) + 1 := by
        have h1 : (a :: b :: r).length = r.length + 2 := rfl
        have h2 : (b :: r).length = r.length + 1 := rfl
        omega
      rw [e, List.eraseIdx_cons_succ, ih]
      all_goals rfl
theorem foldl_rep (its : List Value) : ∀ (k : Nat) (acc : List Value),
    List.foldl (fun x1 x2 => x1 ++ x2) acc.toArray (List.replicate k its.toArray) = (acc ++ (List.replicate k its).flatten).toArray
  | 0, acc => by simp
  | k + 1, acc => by
    have e : acc.toArray ++ its.toArray = (acc ++ its).toArray := by simp
    have e2 : (acc ++ its) ++ (List.replicate k its).flatten = acc ++ (List.replicate (k + 1) its).flatten := by
      rw [List.replicate_succ, List.flatten_cons, List.append_assoc]
    rw [← e2, ← foldl_rep its k (acc ++ its), ← e, List.replicate_succ, List.foldl_cons]
section
variable {X : Cx} {pins : List (Addr × Obj)} {σ : St} {H : Hp} {s : Shared} {l b : Addr} {xs ys zs : List V}
theorem Inv.lset {its its' : List Value} {n : Nat} {f : Array Value → Array Value} {t' : Nat} (I : Inv X pins σ H s) (hH : H l = some (.lst xs))
    (e : s.heap.get? l = some { cls := .type "list", data := .seq its.toArray n }) (hf : f its.toArray = its'.toArray) (hv : Vals ys its') (hz : ys.length ≤ sizeLine) :
    Inv X pins σ (upd H l (.lst ys)) { s with heap := s.heap.update l (Obj.mapSeq f), toks := t' } := by
  have q := PySem.IsL.update e f
  rw [hf] at q
  refine I.write (x := l) (e := l) (by rw [hH]; exact trivial) (.inl rfl) (fun b' u hb hu => (Heap.get?_update_other s.heap (Obj.mapSeq f) (Ne.symm hb)).trans hu) ⟨_, q⟩ ?_
  exact ⟨hz, its', _, hv, q⟩
theorem Inv.lnew {its : List Value} {t' : Nat} (I : Inv X pins σ H s) (hv : Vals ys its) (hz : ys.length ≤ sizeLine) :
    Inv X pins σ (upd H s.heap.objs.size (.lst ys)) { s with heap := s.heap.push { cls := .type "list", data := .seq its.toArray }, toks := t' } :=
  I.laid (fun _ _ q => Heap.get?_push_of_some _ q) (Nat.le_refl _) ⟨hz, its, 0, hv, Heap.get?_push_size _ rfl⟩
theorem Inv.fresh (I : Inv X pins σ H s) : H s.heap.objs.size = none := I.hok.fresh (Nat.le_refl _)
theorem Inv.lstM (I : Inv X pins σ H s) (hH : H l = some (.lst xs)) : xs.length ≤ sizeLine ∧ ∃ (its : List Value) (n : Nat), Vals xs its ∧ xs.length = its.length ∧ s.heap.get? l = some { cls := .type "list", data := .seq its.toArray n } := by
  obtain ⟨z, its, n, r, e⟩ := I.hok l _ hH
  exact ⟨z, its, n, r, r.length, e⟩
theorem notLongL {n : Nat} (h : n ≤ sizeLine) : Builtin.List.listTooLong n = false := by
  unfold Builtin.List.listTooLong
  exact decide_eq_false (by omega)
end
section
variable {X : Cx}
def rAppend : V → List V → Hp → VK → Prop := fun x vs H Q => ∃ l xs y, x = .ref l ∧ vs = [y] ∧ H l = some (.lst xs) ∧ xs.length < sizeLine ∧ Q .non (upd H l (.lst (xs ++ [y])))
theorem mt_append : MtM X "list.append" rAppend := by
  intro pins s σ H x vs v us Q I rx rv h
  obtain ⟨l, xs, y, rfl, rfl, hH, hz, q⟩ := h
  cases rx
  obtain ⟨u, rfl, ru⟩ := rv.one
  obtain ⟨z, its, n, r, hl, e⟩ := I.lstM hH
  refine call_meets F.slot_list_append ⟨_, e, rfl⟩ F.entry_list_append (F.args_list_append_2 _ _) (PySem.list_append l its.toArray n u (by rw [List.size_toArray]; omega)) ⟨e, ?_⟩
  refine ⟨.non, _, I.lset (its' := its ++ [u]) hH e (by simp) (r.append (.cons ru .nil)) ?_, rfl, q⟩
  rw [List.length_append, List.length_singleton]
  omega
def rPop : V → List V → Hp → VK → Prop := fun x vs H Q => ∃ l xs y, x = .ref l ∧ vs = [] ∧ H l = some (.lst xs) ∧ xs[xs.length - 1]? = some y ∧ Q y (upd H l (.lst xs.dropLast))
theorem mt_pop : MtM X "list.pop" rPop := by
  intro pins s σ H x vs v us Q I rx rv h
  obtain ⟨l, xs, y, rfl, rfl, hH, hy, q⟩ := h
  cases rx
  have hus := rv.zero
  subst hus
  obtain ⟨z, its, n, r, hl, e⟩ := I.lstM hH
  obtain ⟨u, hu, ru⟩ := r.get hy
  have hy' : its.toArray[its.toArray.size - 1]? = some u := by
    show its.toArray[its.length - 1]? = some u
    rw [← Array.getElem?_toList, ← hl]
    exact hu
  refine call_meets F.slot_list_pop ⟨_, e, rfl⟩ F.entry_list_pop (F.args_list_pop_1 _) (MeetsSeq.list_pop_last l its.toArray n u hy' (by rw [List.size_toArray]; omega)) ⟨e, ?_⟩
  refine ⟨y, _, I.lset (its' := its.dropLast) hH e ?_ r.dropLast ?_, ru, q⟩
  · show its.toArray.eraseIdxIfInBounds (its.toArray.size - 1) = its.dropLast.toArray
    rw [List.size_toArray, List.eraseIdxIfInBounds_toArray, erase_last]
  · rw [List.length_dropLast]
    omega
def rCat : R2 := fun x y H Q => ∃ l b xs zs, x = .ref l ∧ y = .ref b ∧ H l = some (.lst xs) ∧ H b = some (.lst zs) ∧ xs.length + zs.length ≤ sizeLine ∧ ∀ p, H p = none → Q (.ref p) (upd H p (.lst (xs ++ zs)))
theorem op_cat : OpR X (binaryOp .Add) rCat := by
  intro pins s σ H x y v u Q I rx ry h
  obtain ⟨l, b, xs, zs, rfl, rfl, hH, hB, hz, q⟩ := h
  cases rx
  cases ry
  obtain ⟨z, its, n, r, hl, e⟩ := I.lstM hH
  obtain ⟨z2, its2, n2, r2, hl2, e2⟩ := I.lstM hB
  refine PySem.P.add_list e e2 ?_ (by rw [List.size_toArray, List.size_toArray]; omega)
  have ea : its.toArray ++ its2.toArray = (its ++ its2).toArray := by simp
  rw [ea]
  exact ⟨.ref _, _, I.lnew (t' := s.toks) (r.append r2) (by rw [List.length_append]; omega), rfl, q _ I.fresh⟩
def rRep : R2 := fun x y H Q => ∃ l k xs, x = .ref l ∧ y = .int k ∧ H l = some (.lst xs) ∧ -(2 ^ 63) ≤ k ∧ k < 2 ^ 63 ∧ xs.length * k.toNat ≤ sizeLine ∧
  ∀ p, H p = none → Q (.ref p) (upd H p (.lst (List.replicate k.toNat xs).flatten))
theorem len_rep {α : Type} (xs : List α) (k : Nat) : (List.replicate k xs).flatten.length = k * xs.length := by
  induction k with
  | zero => simp
  | succ k ih => rw [List.replicate_succ, List.flatten_cons, List.length_append, ih, Nat.succ_mul, Nat.add_comm]
theorem op_rep : OpR X (binaryOp .Mult) rRep := by
  intro pins s σ H x y v u Q I rx ry h
  obtain ⟨l, k, xs, rfl, rfl, hH, h1, h2, hz, q⟩ := h
  cases rx
  obtain ⟨t, rfl⟩ := ry
  obtain ⟨z, its, n, r, hl, e⟩ := I.lstM hH
  have hlen : its.toArray.size * k.toNat ≤ sizeLine := by rw [List.size_toArray, ← hl]; exact hz
  have hcap : ¬ its.toArray.size * k.toNat > (2 ^ 63 - 1) / 8 := by
    have : (sizeLine : Nat) ≤ (2 ^ 63 - 1) / 8 := by decide
    omega
  have hfit : ¬ (!Builtin.List.listFitsIndex k) = true := by
    rw [fitsIndex_both h1 h2]
    exact Bool.false_ne_true
  have hlong : ¬ Builtin.List.listTooLong (its.toArray.size * k.toNat) = true := by
    rw [notLongL hlen]
    exact Bool.false_ne_true
  have hnew : List.foldl (fun x1 x2 => x1 ++ x2) #[] (List.replicate (if its.toArray.isEmpty = true then 0 else k.toNat) its.toArray) = (List.replicate k.toNat its).flatten.toArray := by
    have f0 : ∀ m : Nat, List.foldl (fun x1 x2 => x1 ++ x2) #[] (List.replicate m its.toArray) = (List.replicate m its).flatten.toArray := fun m => by
      have := foldl_rep its m []
      rw [List.nil_append] at this
      exact this
    rw [f0]
    cases its with
    | nil => simp
    | cons a r' => rw [if_neg (by simp)]
  refine wpAny_binaryOp_repeat_ref (T := "list") (U := "int") (by decide) ⟨_, e, rfl⟩ (fun s' => typeIs_int s' k t) noFill_list_mul F.fills_int_mul F.slot_int_rmul repeat_list F.slot_int_index.lookup
    (call_meets F.slot_int_rmul (typeIs_int s k t) F.entry_int_rmul (F.args_int_rmul_2 _ _) (int___rmul___int_list k t l its.toArray n)
      ⟨e, rfl, ⟨_, e, rfl⟩, call_meets F.slot_list_mul ⟨_, e, rfl⟩ F.entry_list_mul (F.args_list_mul_2 _ _) (AutoListH.list___mul___list_int_3 l its.toArray n k t hfit hcap hlong) ⟨e, ?_⟩⟩)
  rw [hnew]
  exact ⟨.ref _, _, I.lnew (t' := s.toks) (r.rep k.toNat) (by rw [len_rep, Nat.mul_comm]; exact hz), rfl, q _ I.fresh⟩
end
section
variable {prog : Program} {w : World} {A : Around} {E : Value → Shared → Prop} {s : Shared}
end
section
variable {X : Cx}
end
end L2
namespace Att
open PySem PySem.W PySem.Calls PyProof.Rows
theorem ints_of_wellAll {P : Params} {h : Heap} : ∀ (ns : List Int) (vs : List Value), WellAll P h vs (ns.map WData.int) → IntsAre vs ns := by
  intro ns
  induction ns with
  | nil =>
    intro vs w
    rw [List.map_nil] at w
    cases w
    exact .nil
  | cons n ns ih =>
    intro vs w
    rw [List.map_cons] at w
    cases w with
    | cons a b =>
      cases a
      exact .cons _ _ (ih _ b)
theorem script_of {l : OpenLaw} {n : Nat} (hn : l.most = some n) {P : Params} {h : Heap} {args : List WData} {vals : List Value}
    (hpre : l.row.toRowW.claim.pre args = true) (hwl : WellAll P h vals args) :
    ∃ a vs ns, vals = [Value.ref a] ∧ args = [WData.list (ns.map WData.int)] ∧ h.get? a = some { cls := .type "list", data := .seq vs.toArray } ∧ IntsAre vs ns ∧ ns.length ≤ n := by
  have hsh : WShape.hasAll [] args [.list .int] = true := (pre_splitW hpre).1
  have hc : l.pre.holds [] { args := args } = true := (pre_splitW hpre).2
  obtain ⟨d, r, rfl, h1, h2⟩ := hasAllW_cons hsh
  obtain rfl := hasAllW_nil h2
  obtain ⟨xs, rfl, h3⟩ := hasW_list h1
  obtain ⟨ns, rfl⟩ := items_int h3
  have hlen : ns.length ≤ n := by
    unfold OpenLaw.pre at hc
    have h4 : (WTm.not (.lt (.lit (.int (n : Int))) (.len (.arg 0)))).holds [] { args := [.list (ns.map .int)] } = true := by
      have h4 := (holds_andW hc).1
      rw [hn] at h4
      exact h4
    have h5 := condW_of h4 (w_not (w_lt w_lit (w_len_list (w_arg rfl))))
    rw [List.length_map] at h5
    refine Nat.le_of_not_lt fun q => ?_
    have q' : (n : Int) < ((ns.length : Nat) : Int) := by omega
    first
      | (rw [decide_eq_true q'] at h5; exact absurd h5 (by decide))
      | (simp at h5; omega)
  cases hwl with
  | cons w1 w2 =>
    cases w2
    cases w1 with
    | list ho hall => exact ⟨_, _, ns, rfl, rfl, ho, ints_of_wellAll ns _ hall, hlen⟩
theorem post_true (l : OpenLaw) (args : List WData) : l.row.toRowW.claim.post args (.bool true) args = true :=
  postW_of (r := l.row.toRowW) (X := (true == true))
    (show WShape.has [] (.bool true) .bool = true by first | rfl | decide | simp [WShape.has, WShape.arms, WShape.armsAll])
    (show (WTm.eq .res (.lit (.bool true))).value [] { args := args, res := some (.bool true), after := args } = some (.bool (true == true)) from w_eq_bool (w_res rfl) w_lit) rfl
theorem attach_call {l : OpenLaw} {n : Nat} {q : Program} {loose : List Str} {XP : (Str → Option Value) → Heap → Prop} {YP : World → Heap → Prop} {d : DefRec}
    (hn : l.most = some n) (hdf : d.params.defaults = [])
    (call : ∀ (w : World) (s₀ s₁ : Shared) (mg mb : Str → Option Value) (fa : Addr) (o : Obj) (pm cd doc : Value) (a : Addr) (vs : List Value) (ns : List Int),
      Ground q loose [] XP w s₀ mg mb s₁.heap → YP w s₁.heap →
      s₁.heap.get? fa = some o → o.data = .func (docDef d.name d.params d.body d.scope pm cd doc) → s₁.heap.CodeRec cd d.name → mg d.name = some (.ref fa) →
      s₁.heap.get? a = some { cls := .type "list", data := .seq vs.toArray } → IntsAre vs ns → ns.length ≤ n → s₁.gens = #[] →
      codeAny (model l.prog w) callerA (.call (.ref fa) ⟨[.ref a], []⟩) (fun r s' => r = .ok (.ret (.bool true)) ∧ OldK s₁.heap s'.heap ∧ s'.os = s₁.os ∧ AllBare s'.gens) s₁) :
    WalkO q loose XP YP l.row.toRowW d [] (fun f vs => PySem.call f vs) := by
  intro w s₀ s₁ mg mb G Y fa o pm cd doc dV kV ho hd hcd hD hmg hg args vals as hpre hlay hrd hwl hlo
  obtain rfl : dV = .none := Dflts.none hD hdf
  obtain rfl : kV = .none := Dflts.noKw hD
  obtain ⟨a, vs, ns, rfl, rfl, hobj, hints, hlen⟩ := script_of hn hpre hwl
  refine enter_call (codeAny_mono (call w s₀ s₁ mg mb fa o pm cd doc a vs ns G Y ho (fd_plain hd) hcd hmg hobj hints hlen hg) fun r s' hq => ?_)
  obtain ⟨rfl, h2, h3, h4⟩ := hq
  exact ⟨.inl ⟨.bool true, .bool true, [], rfl, fun _ => rfl, .bool true, post_true l _, fun _ => ⟨List.Pairwise.nil, fun _ hm => (nomatch hm)⟩⟩, h2, h3, h4⟩
section
variable {prog : Program} {w : World} {A : Around} {E : Value → Shared → Prop} {s : Shared} {K : Frag}
def ledger (h : Heap) (L d : Addr) : List (Addr × Obj) := (List.range h.objs.size).filterMap fun a => if a = L ∨ a = d then none else (h.get? a).map fun o => (a, o)
end
end Att
namespace L2
open PySem PySem.Spec PyProof.Rows
theorem vals_ints : ∀ {vs : List Value} {ns : List Int}, IntsAre vs ns → Vals (ns.map V.int) vs
  | _, _, .nil => .nil
  | _, _, .cons n t h => .cons ⟨t, rfl⟩ (vals_ints h)
def Only (H : Hp) : Prop := ∀ b, H b = none ∨ ∃ o xs, H b = some (.frz o (.lst xs))
theorem law_call {P : Program} {w : World} {K : PySem.W.Frag} {mg mb : Str → Option Value} {CX : CXT} {k : Nat} {fa a : Addr} {fd : FuncData} {x : Str} {sp : Sp} {s₁ : Shared} {vs : List Value} {ns : List Int}
    (KX : K.In s₁.heap) (hns : s₁.heap.Ns mainGlobals mg) (hb : s₁.heap.Ns builtinsNs mb) (hbb : ∀ x : Str, x ≠ "__name__" → mb x = bootBuiltins x) (hlim : s₁.heap.NoLimit) (hg : s₁.gens = #[])
    (ha : s₁.heap.get? a = some { cls := .type "list", data := .seq vs.toArray }) (hi : IntsAre vs ns) (hl : ns.length ≤ sizeLine) (hr : Room k callerA)
    (F : ∀ base : Heap, K.In base → base.Ns mainGlobals mg → FnOk P w K mg base CX k fa fd [x] sp) (hbind : ∀ (s : Shared) (u : Value), BindsTo s fd ⟨[u], []⟩ [(x, u)])
    (hsp : ∀ H : Hp, Only H → SqL K H a (ns.map V.int) → sp [.ref a] H (fun v _ => v = .bl true) fun _ _ _ => False)
    (hCX : ∀ H e s', CX [] H s₁ (fun _ _ _ => False) e s' → False) :
    codeAny (model P w) callerA (.call (.ref fa) ⟨[.ref a], []⟩) (fun r s' => r = .ok (.ret (.bool true)) ∧ OldK s₁.heap s'.heap ∧ s'.os = s₁.os ∧ AllBare s'.gens) s₁ := by
  have rv := vals_ints hi
  have lenV := hi.length
  have core : ∀ H : Hp, Only H → SqL K H a (ns.map V.int) → HOk P w H s₁.heap → (∀ b, H b ≠ none → b = a) → (H a ≠ none → K.lookup a = none) →
      codeAny (model P w) callerA (.call (.ref fa) ⟨[.ref a], []⟩) (fun r s' => r = .ok (.ret (.bool true)) ∧ OldK s₁.heap s'.heap ∧ s'.os = s₁.os ∧ AllBare s'.gens) s₁ := by
    intro H hO hS hok hA hK
    have base_of : ∀ {b : Addr} {o : Obj}, s₁.heap.get? b = some o → H b = none → (hidT s₁.heap H).get? b = some o := fun e n => hidT_get e n
    have noA : ∀ {b : Addr} {o : Obj} {es : Array DictEntry} {ep : Nat}, s₁.heap.get? b = some o → o.data = .dict es ep → H b = none := fun {b o es ep} e d => by
      cases q : H b with
      | none => rfl
      | some u =>
        have e' : b = a := hA b (by rw [q]; simp)
        subst e'
        rw [ha] at e; cases e
        have d' : Data.seq vs.toArray _ = Data.dict es ep := d
        cases d'
    have nsK : ∀ {b : Addr} {m : Str → Option Value}, s₁.heap.Ns b m → (hidT s₁.heap H).Ns b m := fun {b m} ⟨o, es, ep, e, d, r⟩ => ⟨o, es, ep, base_of e (noA e d), d, r⟩
    have hKb : K.In (hidT s₁.heap H) := fun b o e => base_of (KX b o e) (by
      cases q : H b with
      | none => rfl
      | some u =>
        have e' : b = a := hA b (by rw [q]; simp)
        subst e'
        rw [hK (by rw [q]; simp)] at e; cases e)
    have hM : Mod K mg (hidT s₁.heap H) := ⟨hKb, nsK hns, ⟨mb, nsK hb, hbb⟩, let ⟨mc, h1, h2⟩ := hlim; ⟨mc, nsK h1, h2⟩⟩
    have e0 : Env0 P w K mg (hidT s₁.heap H) callerA [] s₁ H := ⟨rfl, hM, fun b o e => of_hidT e, Nat.le_of_eq (hidT_size _ _), trivial, fun b hb => absurd (show b ∈ ([] : List Addr) from hb) (by simp), hok, .of_eq hg⟩
    refine codeAny_mono ((F _ hKb (nsK hns)).run callerA [] s₁ H ⟨[.ref a], []⟩ [.ref a] [.ref a] _ _ hr e0 (hbind s₁ (.ref a)) (.cons rfl .nil) (hsp H hO hS)) fun r s' h => ?_
    cases r with
    | error e => exact (hCX H e s' h).elim
    | ok fl =>
      cases fl with
      | next => exact False.elim h
      | brk => exact False.elim h
      | cont => exact False.elim h
      | ret u =>
        obtain ⟨v, H', os, bare, un, hok', r', q⟩ := h
        have q' : v = .bl true := q
        subst q'
        obtain rfl : u = Value.bool true := r'
        refine ⟨rfl, OldK.of_keep fun b o e => ?_, os, bare⟩
        cases q : H b with
        | none => exact un.keep b o e q (by intro z; exact absurd (show b ∈ ([] : List Addr) from z) (by simp)) (by simp)
        | some u =>
          rcases hO b with z | ⟨ob, xs, z⟩
          · rw [q] at z; cases z
          · have z2 := un.frzs b ob _ z
            obtain ⟨e1, _⟩ := hok b _ z
            obtain ⟨e2, _⟩ := hok' b _ z2
            rw [e] at e1; cases e1
            exact e2
  cases hk : K.lookup a with
  | some o =>
    have e := KX a o hk
    rw [ha] at e
    cases e
    refine core (fun _ => none) (fun _ => .inl rfl) (.inr ⟨_, vs.toArray, _, hk, rfl, rfl, rfl, by rw [List.size_toArray, lenV]; exact hl, by simpa using rv⟩) (fun b u z => by have z' : (none : Option HO) = some u := z; cases z') (fun b z => absurd rfl z) fun z => absurd rfl z
  | none =>
    refine core (fun b => if b = a then some (.frz { cls := .type "list", data := .seq vs.toArray } (.lst (ns.map V.int))) else none) (fun b => ?_) (.inl (.inr ⟨{ cls := .type "list", data := .seq vs.toArray }, if_pos rfl⟩)) (fun b u z => ?_) (fun b z => ?_) fun _ => hk
    · by_cases hb : b = a
      · exact .inr ⟨_, _, if_pos hb⟩
      · exact .inl (if_neg hb)
    · by_cases hb : b = a
      · have z' := (if_pos hb).symm.trans z
        cases z'
        subst hb
        exact ⟨ha, by rw [List.length_map]; exact hl, vs, _, rv, ha⟩
      · have z' := (if_neg hb).symm.trans z
        cases z'
    · by_cases hb : b = a
      · exact hb
      · exact absurd (if_neg hb) z
end L2
namespace L2
open PySem PySem.Spec PyProof.Rows
abbrev KOf {K : PySem.W.Frag} {h : Heap} (_ : K.In h) : PySem.W.Frag := K
theorem walk_of {l : PySem.W.OpenLaw} {n k : Nat} {q : Program} {loose : List Str} {XP : (Str → Option Value) → Heap → Prop} {YP : World → Heap → Prop} {d : DefRec} {K : Params → PySem.W.Frag} {CX : World → CXT} {sp : World → Sp} {x : Str}
    (hn : l.most = some n) (hn2 : n ≤ sizeLine) (hdf : d.params.defaults = []) (hr : Room k callerA)
    (hY : ∀ (w : World) (h : Heap), YP w h → (K w.params).In h)
    (F : ∀ (w : World) (mg : Str → Option Value) (fa : Addr) (h : Heap), (K w.params).In h → h.Ns mainGlobals mg → mg d.name = some (.ref fa) →
      ∃ fd : FuncData, (∀ (s : Shared) (u : Value), BindsTo s fd ⟨[u], []⟩ [(x, u)]) ∧
        ∀ base : Heap, (K w.params).In base → base.Ns mainGlobals mg → FnOk l.prog w (K w.params) mg base (CX w) k fa fd [x] (sp w))
    (hsp : ∀ (w : World) (H : Hp) (a : Addr) (ns : List Int), ns.length ≤ n → Only H → SqL (K w.params) H a (ns.map V.int) → sp w [.ref a] H (fun v _ => v = .bl true) fun _ _ _ => False)
    (hCX : ∀ (w : World) (H : Hp) (s : Shared) (e : Value) (s' : Shared), CX w [] H s (fun _ _ _ => False) e s' → False) :
    PySem.W.WalkO q loose XP YP l.row.toRowW d [] (fun f vs => PySem.call f vs) := by
  refine Att.attach_call hn hdf fun w s₀ s₁ mg mb fa o pm cd doc a vs ns G Y ho hd hcd hmg hobj hints hlen hg => ?_
  have KX := hY w _ Y
  obtain ⟨fd, hb, hF⟩ := F w mg fa _ KX G.T.g hmg
  exact law_call KX G.T.g G.T.b G.T.builtins G.T.nolimit hg hobj hints (Nat.le_trans hlen hn2) hr hF hb (fun H hO hS => hsp w H a ns hlen hO hS) fun H e s' => hCX w H s₁ e s'
end L2
namespace L2
open PySem PySem.Spec PyProof.Rows
def defArgs (s : Stmt) : Arguments := match s with
  | .FunctionDef _ a _ _ _ _ _ _ _ _ => a
  | _ => { posonlyargs := [], args := [], vararg := none, kwonlyargs := [], kw_defaults := [], kwarg := none, defaults := [] }
def defBody (s : Stmt) : List Stmt := match s with
  | .FunctionDef _ _ b _ _ _ _ _ _ _ => b
  | _ => []
def defScope (s : Stmt) : Scope := match s with
  | .FunctionDef _ _ _ _ _ _ sc _ _ _ => sc
  | _ => { kind := .function, names := [], isGenerator := false, isCoroutine := false }
abbrev CX0 : CXT := fun _ _ _ _ _ _ => False
abbrev E0 : XK := fun _ _ _ => False
structure Fun (K : PySem.W.Frag) (x qual : Str) (st : Stmt) (f : Addr) (fd : FuncData) : Prop where
  ex : ∃ (oc : Value) (od : Option Addr) (kV doc pm : Value) (an : Option Addr) (cdv ct : Value) (osl : Array (Option Value)),
    fd = PySem.W.fnOf x qual (defArgs st) (defBody st) (defScope st) .none kV doc pm an cdv ct ∧ K.lookup f = some ⟨oc, od, .func fd, osl⟩ ∧ PySem.W.codeIn K cdv qual = true
  kp : PySem.W.keepIn K (.ref f) = true
section
variable {P : Program} {w : World} {K : PySem.W.Frag} {mg : Str → Option Value} {base : Heap}
theorem Fun.ok {x qual : Str} {st : Stmt} {f : Addr} {fd : FuncData} {N ps : List Str} {k : Nat} {sp : Sp} (F : Fun K x qual st f fd) (S : FnScope N ps (defScope st)) (len : ∀ vs H Q E, sp vs H Q E → vs.length = ps.length)
    (hbody : ∀ (cdv : Value) (A : Around) (outer : List Env) (s : Shared) (H : Hp) (vs : List V) (Q : VK) (E : XK), Room k (A.deeper (envOfC qual (defScope st) s.heap.objs.size f cdv)) → sp vs H Q E →
      ∃ t, PSs (cxOf CX0 P w K mg base N qual (defScope st) f cdv A outer s H E).nox (defBody st) t ∧ t { nx := fun _ H' => Q .non H', rt := Q } (start N vs) H) : FnOk P w K mg base CX0 (k + 1) f fd ps sp := by
  obtain ⟨oc, od, kV, doc, pm, an, cdv, ct, osl, rfl, lk, hcd⟩ := F.ex
  refine fn_of lk hcd S len fun A outer s H vs Q E hr hsp => ?_
  obtain ⟨t, h, q⟩ := hbody cdv A outer s H vs Q E hr hsp
  exact ⟨t, h.nox, q⟩
theorem Fun.binds {x qual : Str} {st : Stmt} {f : Addr} {fd : FuncData} {ps : List Str} (F : Fun K x qual st f fd)
    (h : ∀ (kV doc pm : Value) (an : Option Addr) (cdv ct : Value) (us : List Value), us.length = ps.length → bindArgs (PySem.W.fnOf x qual (defArgs st) (defBody st) (defScope st) .none kV doc pm an cdv ct) ⟨us, []⟩ = pure (ps.zip us)) : Binds K fd ps [] := by
  obtain ⟨oc, od, kV, doc, pm, an, cdv, ct, osl, rfl, lk, hcd⟩ := F.ex
  exact .all (h kV doc pm an cdv ct)
theorem fun_mk {x qual : Str} {st : Stmt} {f : Addr} {oc : Value} {od an : Option Addr} {osl : Array (Option Value)} {kV doc pm cdv ct : Value} (l : K.lookup f = some ⟨oc, od, .func (PySem.W.fnOf x qual (defArgs st) (defBody st) (defScope st) .none kV doc pm an cdv ct), osl⟩)
    (c : PySem.W.codeIn K cdv qual = true) (k : PySem.W.keepIn K (.ref f) = true) : Fun K x qual st f (PySem.W.fnOf x qual (defArgs st) (defBody st) (defScope st) .none kV doc pm an cdv ct) := ⟨⟨oc, od, kV, doc, pm, an, cdv, ct, osl, rfl, l, c⟩, k⟩
end
section
variable {X : Cx}
theorem pv (i : Nat) {x : Str} {pos : Pos} (hN : X.N[i]? = some x := by rfl) (hv : Vis X.env.scope x := by first | exact Or.inl rfl | exact Or.inr (Or.inl rfl) | exact Or.inr (Or.inr rfl)) (hd : (x == ("__debug__" : Str)) = false := by decide)
    (hcd : (x == ("__classdict__" : Str)) = false := by decide) : PE X (.Name x pos) (tVar i) := pe_var hN hv hd hcd
end
theorem iteF {A B : Prop} (h : B) : if false = true then A else B := by
  rw [if_neg Bool.false_ne_true]
  exact h
theorem iteT {A B : Prop} (h : A) : if true = true then A else B := by
  rw [if_pos rfl]
  exact h
theorem ite2 {c A B : Prop} [Decidable c] (h1 : c → A) (h2 : ¬ c → B) : if c then A else B := by
  by_cases h : c
  · rw [if_pos h]
    exact h1 h
  · rw [if_neg h]
    exact h2 h
def Same (H H' : Hp) : Prop := ∀ b o, H b = some o → H' b = some o
theorem Same.refl (H : Hp) : Same H H := fun _ _ h => h
theorem Same.trans {H H1 H2 : Hp} (a : Same H H1) (b : Same H1 H2) : Same H H2 := fun c o h => b c o (a c o h)
theorem Same.free {H H' : Hp} (e : Same H H') {l : Addr} (h : H' l = Option.none) : H l = Option.none := by
  cases q : H l with
  | none => rfl
  | some o =>
    rw [e l o q] at h
    cases h
theorem Same.seq {K : PySem.W.Frag} {H H' : Hp} {a : Addr} {xs : List V} (e : Same H H') (h : SqL K H a xs) : SqL K H' a xs := by
  rcases h with (h | ⟨o, h⟩) | h
  · exact .inl (.inl (e _ _ h))
  · exact .inl (.inr ⟨o, e _ _ h⟩)
  · exact .inr h
end L2
namespace XT
open PySem PySem.W PyProof.Rows PySem.Calls
section
variable {prog : Program} {w : World} {A : Around} {E : Value → Shared → Prop} {h : Heap} {g : Array GenState} {d : Drawn} {t : Nat} {os : OsState} {a : Addr} {o : Obj} {K : Frag} {C : Addr}
theorem lookup_K {M : Model} {n : Str} {y : Option Value} {Q : Option Value → Shared → Prop} (X : K.In h) (e : findIn K (.ref C) n = some y) (hq : Q y ⟨h, g, d, t, os⟩) : wpAny M A (typeLookup (.ref C) n) Q E ⟨h, g, d, t, os⟩ :=
  (looks_findIn (M := M) X e).here hq
theorem sub_K {M : Model} {b : Value} {y : Bool} {Q : Bool → Shared → Prop} (X : K.In h) (e : mroIn K C b = some y) (hq : Q y ⟨h, g, d, t, os⟩) : wpAny M A (isSubtype (.ref C) b) Q E ⟨h, g, d, t, os⟩ :=
  (looks_mroIn (M := M) X e).here hq
structure ExcK (K : Frag) (C : Addr) : Prop where
  ga : findIn K (.ref C) "__getattribute__" = some (some (.builtin "BaseException.__getattribute__"))
  gt : findIn K (.ref C) "__getattr__" = some none
  cl : findIn K (.ref C) "__class__" = some (some (.builtin "object.__class__"))
  ob : mroIn K C (.type "object") = some true
  be : mroIn K C (.type "BaseException") = some true
  cs : (clsIn K C).isSome = true
theorem cls_get (X : K.In h) (Z : ExcK K C) (hx : h.get? a = some o) (hc : o.cls = .ref C) {R : Result → Shared → Prop} (hq : R (.ok (.ret (.ref C))) ⟨h, g, d, t, os⟩) :
    codeAny (model prog w) A (.call (.builtin "getset_descriptor.__get__") ⟨[.builtin "object.__class__", .ref a, .ref C], []⟩) R ⟨h, g, d, t, os⟩ := by
  have hT5 : (⟨h, g, d, t, os⟩ : Shared).TypeIs (.builtin "object.__class__") "getset_descriptor" := F.typeOf_object_class
  refine codeAny_call_builtin F.slot_gs_get.plain F.entry_gs_get (F.slot_gs_get.check _ _ _ _ _ _ _ _ hT5 (F.args_gs_get _ _ _) ?_)
  have hob : mroIn K C (.type (".".intercalate ("object.__class__".cutAt '.').dropLast)) = some true := by rw [F.owner_object_class]; exact Z.ob
  repeat (any_goals (first | assumption | (with_reducible refine wpAny_loadPart_at hx ?_; rw [hc]) | with_reducible refine sub_K X hob ?_ | wp_step))
  refine ⟨Code.quiet_builtin _ (by decide +kernel), codeAny_builtin F.entry_object_class ?_⟩
  unfold Builtin.«object.__class__» shownTypeOf
  repeat (any_goals (first | assumption | (with_reducible refine wpAny_loadPart_at hx ?_; rw [hc]) | wp_step))
theorem cls_entry {tk : Tok} {Q : Fin → Shared → Prop} (X : K.In h) (Z : ExcK K C) (hx : h.get? a = some o) (hc : o.cls = .ref C) (hq : Q (.done (.ret (.ref C))) ⟨h, g, d, t, os⟩) :
    wpAny (model prog w) A (Builtin.«object.__getattribute__» ⟨[.ref a, .str "__class__" tk], []⟩) Q E ⟨h, g, d, t, os⟩ := by
  have hT5 : (⟨h, g, d, t, os⟩ : Shared).TypeIs (.builtin "object.__class__") "getset_descriptor" := F.typeOf_object_class
  have f5 := F.typeOf_object_class
  have f6 := F.slot_gs_get.lookup
  have f7 := F.slot_gs_set.lookup
  repeat (any_goals (first | assumption | (with_reducible refine wpAny_loadPart_at hx ?_; rw [hc]) | with_reducible refine lookup_K X Z.cl ?_ | wp_step))
  refine cls_get X Z hx hc ?_
  repeat (any_goals (first | assumption | wp_step))
theorem cls_check {M : Model} {nameV : Value} {Q : Unit → Shared → Prop} (X : K.In h) (Z : ExcK K C) (hx : h.get? a = some o) (hc : o.cls = .ref C) (hq : Q () ⟨h, g, d, t, os⟩) :
    wpAny M A (checkBuiltinCall "BaseException.__getattribute__" ⟨[.ref a, nameV], []⟩) Q E ⟨h, g, d, t, os⟩ := by
  have hk : builtinKind "BaseException.__getattribute__" = some .slot := by decide +kernel
  have hsplit : splitId "BaseException.__getattribute__" = some ("BaseException", "__getattribute__") := by decide +kernel
  have ha := F.args_bexc_ga (.ref a) nameV
  have hbe := Z.be
  simp only [checkBuiltinCall, hk, hsplit]
  refine wpAny_bind ?_
  · unfold isInstance
    repeat (first | (with_reducible refine wpAny_loadPart_at hx ?_; rw [hc]) | with_reducible refine sub_K X hbe ?_ | wp_step)
    exact hq
theorem cls_call {tk : Tok} {R : Result → Shared → Prop} (X : K.In h) (Z : ExcK K C) (hx : h.get? a = some o) (hc : o.cls = .ref C) (hq : R (.ok (.ret (.ref C))) ⟨h, g, d, t, os⟩) :
    codeAny (model prog w) A (.call (.builtin "BaseException.__getattribute__") ⟨[.ref a, .str "__class__" tk], []⟩) R ⟨h, g, d, t, os⟩ :=
  codeAny_call_builtin PySem.F.attr_ValueError.ga.plain F.entry_bexc_ga (cls_check X Z hx hc (cls_entry X Z hx hc hq))
theorem cls_by {tk : Tok} {fill expr : Bool} {Q : Value → Shared → Prop} (X : K.In h) (Z : ExcK K C) (hx : h.get? a = some o) (hc : o.cls = .ref C) (hq : Q (.ref C) ⟨h, g, d, t, os⟩) :
    wpAny (model prog w) A (getAttrBy (.ref a) (.str "__class__" tk) fill expr) Q E ⟨h, g, d, t, os⟩ := by
  have f3 := PySem.F.attr_ValueError.ga.bind (.ref a)
  have hx0 : (expr && onTheHeap (Value.builtin "BaseException.__getattribute__")) = false := by cases expr <;> rfl
  have hx2 : (Value.builtin "BaseException.__getattribute__" == Value.builtin "object.__getattribute__") = false := by decide +kernel
  have hx1 : (onTheHeap (Value.ref C) && Value.builtin "BaseException.__getattribute__" == Value.builtin "object.__getattribute__") = false := by rw [hx2]; rfl
  repeat (any_goals (first | assumption | (with_reducible refine wpAny_loadPart_at hx ?_; rw [hc]) | with_reducible refine lookup_K X Z.ga ?_ | with_reducible refine lookup_K X Z.gt ?_ | wp_step))
  refine cls_call X Z hx hc ?_
  repeat (any_goals (first | assumption | wp_step))
theorem cls_attr {Q : Option Value → Shared → Prop} (X : K.In h) (Z : ExcK K C) (hx : h.get? a = some o) (hc : o.cls = .ref C) (hq : Q (some (.ref C)) ⟨h, g, d, t + 1, os⟩) : wpAny (model prog w) A (getAttr? (.ref a) "__class__") Q E ⟨h, g, d, t, os⟩ := by
  unfold getAttr? getAttrBy?
  repeat (any_goals (first | assumption | with_reducible apply cls_by X Z hx hc | wp_step))
end
def ExcAt (a C : Addr) (h : Heap) : Prop := ∃ o, h.get? a = some o ∧ o.cls = .ref C
theorem kitx_exc {K : Frag} {a C : Addr} (Z : ExcK K C) : KitX K (.ref a) (.ref C) (ExcAt a C) where
  ty := fun _ _ _ ⟨o, h1, h2⟩ => h2 ▸ (Looks.ld h1).andThen .now
  it := fun _ _ X _ => by
    have z0 := Z.cs
    unfold clsIn at z0
    split at z0
    · rename_i c' d' cd' sl' ho
      intro A' Q' E' s' k q
      unfold isType loadHead
      exact wpAny_bind (wpAny_loadPart (k _ _ (X _ _ ho)) (wpAny_pure q))
    · cases z0
  ne := fun h tp dd its n sl X htp => by
    refine Bool.eq_false_iff.mpr fun q => ?_
    have e : C = tp := Value.ref.inj (beq_iff_eq.mp q)
    subst e
    have z0 := Z.cs
    unfold clsIn at z0
    split at z0
    · rename_i c' d' cd' sl' ho
      have z := (X _ _ ho).symm.trans htp
      cases z
    · cases z0
  ca := fun {_ _ _ _ _ s} X ⟨o, h1, h2⟩ k => by
    obtain ⟨hh, g, d, t, os⟩ := s
    exact cls_attr X Z h1 h2 k
end XT
set_option maxHeartbeats 4000000
namespace L2
open PySem PySem.Spec PyProof.Rows
theorem ObjOk.there {P : Program} {w : World} {H : Hp} {h : Heap} {a : Addr} {o : HO} (x : ObjOk P w H h a o) : ∃ u, h.get? a = some u := by
  cases o with
  | lst xs => obtain ⟨_, _, _, _, e⟩ := x; exact ⟨_, e⟩
  | tup xs => obtain ⟨_, _, _, p⟩ := x; obtain ⟨u, e, _⟩ := p; exact ⟨u, e⟩
  | dK kvs => obtain ⟨_, _, _, _, o, _, _, e, _⟩ := x; exact ⟨_, e⟩
  | dT kvs => obtain ⟨_, _, _, _, o, _, _, e, _⟩ := x; exact ⟨_, e⟩
  | set S n => obtain ⟨o, _, _, _, e, _⟩ := x; exact ⟨_, e⟩
  | ins C dx fs => obtain ⟨_, _, _, e, _⟩ := x; exact ⟨_, e⟩
  | own y => exact x
  | xd fs => obtain ⟨_, ⟨_, _, _, e, _⟩, _⟩ := x; exact ⟨_, e⟩
  | rng lo hi => obtain ⟨_, _, _, e⟩ := x; exact ⟨_, e⟩
  | frz ob u => obtain ⟨e, _⟩ := x; exact ⟨_, e⟩
  | tbl ps => exact ⟨_, (show h.get? a = some _ from x)⟩
  | met f y => exact ⟨_, (show h.get? a = some _ from x)⟩
  | ext φ => obtain ⟨_, e, _⟩ := x; exact e
theorem HOk.trkd {P : Program} {w : World} {H : Hp} {h h' : Heap} (x : HOk P w H h) (k : ∀ b u o, H b = some o → h.get? b = some u → h'.get? b = some u) : HOk P w H h' := fun a o e =>
  (x a o e).stay (fun b u hb q => by
    rcases hb with rfl | hb
    · exact k b u o e q
    · exact k b u _ hb q) (fun _ q => q) fun _ _ q => q
theorem HOk.gone {P : Program} {w : World} {H : Hp} {h : Heap} {a : Addr} (x : HOk P w H h) (e : h.get? a = none) : H a = none := by
  cases q : H a with
  | none => rfl
  | some u => obtain ⟨v, hv⟩ := (x a u q).there; rw [e] at hv; cases hv
structure Fly (P : Program) (w : World) (outer : List Env) (H : Hp) (s : Shared) (a : Addr) (C : Value) (H' : Hp) (s' : Shared) : Prop where
  os : s'.os = s.os
  bare : AllBare s'.gens
  un : Un (frs outer) [] H H' s.heap s'.heap
  hok : HOk P w H' s'.heap
  new : s.heap.get? a = none
  ex : ∃ B a0, Heap.FlyingW B outer a C a0 s'.heap ∧ (∀ b o, s.heap.get? b = some o → H b = none → b ∉ frs outer → B.get? b = some o) ∧ (∀ b o, H' b = some o → ∃ u, B.get? b = some u) ∧
    (∀ b o, s.heap.get? b = some o → b ∉ frs outer → ∃ u, B.get? b = some u)
def CX1 (P : Program) (w : World) : CXT := fun outer H s E e s' => ∃ a C H', e = .ref a ∧ Fly P w outer H s a C H' s' ∧ E C none H'
theorem cx1_none {P : Program} {w : World} {outer : List Env} {H : Hp} {s : Shared} {e : Value} {s' : Shared} (h : CX1 P w outer H s (fun _ _ _ => False) e s') : False := by
  obtain ⟨_, _, _, _, _, z⟩ := h; exact z
theorem pass1 {P : Program} {w : World} {X : Cx} : Passes (CX1 P w) X E0 := fun _ _ _ _ _ _ _ h => (cx1_none h).elim
theorem Fly.gone {P : Program} {w : World} {outer : List Env} {H H' : Hp} {s s' : Shared} {a : Addr} {C : Value} (x : Fly P w outer H s a C H' s') : H' a = none := by
  obtain ⟨B, a0, hf, k1, k2, _⟩ := x.ex
  cases q : H' a with
  | none => rfl
  | some u => obtain ⟨v, hv⟩ := k2 a u q; rw [hf.2.1] at hv; cases hv
section
variable {P : Program} {w : World} {K : PySem.W.Frag} {mg : Str → Option Value} {base : Heap} {N : List Str} {qual : Str} {scope : Scope} {f : Addr} {cd : Value} {A : Around} {outer : List Env} {s₀ : Shared} {H₀ : Hp} {E : XK}
theorem frs_own {b : Addr} : b ∈ frs (cxOf (CX1 P w) P w K mg base N qual scope f cd A outer s₀ H₀ E).stack ↔ b = s₀.heap.objs.size ∨ b ∈ frs outer := by
  show b ∈ List.filterMap _ (envOfC qual scope s₀.heap.objs.size f cd :: outer) ↔ _
  rw [List.filterMap_cons_some (show (envOfC qual scope s₀.heap.objs.size f cd).frame = some s₀.heap.objs.size from rfl), List.mem_cons]
  rfl
theorem passes1 : Passes (CX1 P w) (cxOf (CX1 P w) P w K mg base N qual scope f cd A outer s₀ H₀ E) E := by
  intro pins σ H s e s' I h
  obtain ⟨a, C, H', rfl, x, hE⟩ := h
  obtain ⟨B, a0, hf, k1, k2, k3⟩ := x.ex
  show wpAny _ _ (leaving _ _) _ _ _
  refine wpAny_leaves_onW I.ok.frames rfl hf fun h' hf' hs => ?_
  have ne0 : ∀ b o, s₀.heap.get? b = some o → b ∉ frs outer → b ∉ frs (cxOf (CX1 P w) P w K mg base N qual scope f cd A outer s₀ H₀ E).stack := fun b o e hb z => by
    rcases frs_own.mp z with z | z
    · exact absurd (Heap.lt_size e) (by rw [z]; exact Nat.lt_irrefl _)
    · exact hb z
  have nox : ∀ b : Addr, b ∉ (cxOf (CX1 P w) P w K mg base N qual scope f cd A outer s₀ H₀ E).ex := fun b z => absurd (show b ∈ ([] : List Addr) from z) (by simp)
  have keepB : ∀ b o, s₀.heap.get? b = some o → H₀ b = none → b ∉ frs outer → B.get? b = some o := fun b o e n hb =>
    k1 b o (I.base.keep b o e n hb (nox b)) (I.base.free b o e n (nox b)) (ne0 b o e hb)
  have slotB : ∀ b o, s₀.heap.get? b = some o → H₀ b = none → b ∈ frs outer → ∃ sl, h'.get? b = some { o with slots := sl } := fun b o e n hb => by
    obtain ⟨sl, e1⟩ := I.base.slot b o e n hb (nox b)
    obtain ⟨sl2, e2⟩ := x.un.slot b _ e1 (I.base.free b o e n (nox b)) (frs_own.mpr (.inr hb)) (by simp)
    obtain ⟨_, o3, e3, d3⟩ := hf.2.2.1.mem (frs_own.mpr (.inr hb))
    rw [e2] at e3; cases e3
    obtain ⟨sl4, e4⟩ := hs b _ e2 d3
    exact ⟨sl4, e4⟩
  have thereB : ∀ b o, s₀.heap.get? b = some o → b ∉ frs outer → ∃ u, B.get? b = some u := fun b o e hb => by
    obtain ⟨o1, e1⟩ := I.base.there b o e (nox b)
    exact k3 b o1 e1 (ne0 b o e hb)
  refine ⟨a, C, H', rfl, ⟨x.os.trans I.os, x.bare, ⟨fun b o e n hb _ => hf'.1 b o (keepB b o e n hb), fun b o e n hb _ => slotB b o e n hb, fun b o e n _ => ?_, fun b o e _ => ?_, fun b xs e => x.un.tups b xs (I.base.tups b xs e),
    fun b o u e => x.un.frzs b o u (I.base.frzs b o u e), fun b ps e => ?_⟩, x.hok.trkd fun b u o e q => ?_, ?_, B, a0, hf', keepB, k2, thereB⟩, hE⟩
  · obtain ⟨o1, e1⟩ := I.base.there b o e (nox b)
    exact x.un.free b o1 e1 (I.base.free b o e n (nox b)) (by simp)
  · by_cases hb : b ∈ frs outer
    · obtain ⟨sl, e1⟩ := slotB b o e (I.ok.frf b hb) hb
      exact ⟨_, e1⟩
    · obtain ⟨u, e1⟩ := thereB b o e hb
      exact ⟨u, hf'.1 b u e1⟩
  · obtain ⟨m1, e1⟩ := I.base.tbls b ps e
    obtain ⟨m2, e2⟩ := x.un.tbls b _ e1
    exact ⟨m1 ++ m2, by rw [e2, Array.append_assoc]⟩
  · obtain ⟨u', e'⟩ := k2 b o e
    have := hf.1 b u' e'
    rw [q] at this; cases this
    exact hf'.1 b u e'
  · cases q : s₀.heap.get? a with
    | none => rfl
    | some o =>
      obtain ⟨o1, e1⟩ := I.base.there a o q (nox a)
      rw [x.new] at e1; cases e1
def Raises (X : Cx) (E : XK) : Prop := ∀ (pins : List (Addr × Obj)) (σ : St) (H : Hp) (s : Shared) (e : Addr) (C : Value) (args : List Value) (h' : Heap), Inv X pins σ H s → Heap.MadeExcOf s.heap h' e C args → E C none H → X.xe (.ref e) { s with heap := h' }
theorem raises1 : Raises (cxOf (CX1 P w) P w K mg base N qual scope f cd A outer s₀ H₀ E) E := by
  intro pins σ H s e C args h1 I hm hE
  have F := I.stack
  have hin : ∀ env ∈ (cxOf (CX1 P w) P w K mg base N qual scope f cd A outer s₀ H₀ E).stack, ∀ b, env.frame = some b → b ∈ frs (cxOf (CX1 P w) P w K mg base N qual scope f cd A outer s₀ H₀ E).stack := fun env he b hb => List.mem_filterMap.mpr ⟨env, he, hb⟩
  show wpAny _ _ (leaving _ _) _ _ _
  refine wpAny_leaves_madeW (base := PySem.W.hideAll s.heap (frs (cxOf (CX1 P w) P w K mg base N qual scope f cd A outer s₀ H₀ E).stack)) (h := s.heap) I.ok.frames rfl (fun b o q => PySem.W.of_hideAll _ q) (PySem.W.funFrames_hide F hin) hm fun h' t hf' _ _ hs => ?_
  have ne0 : ∀ b o, s₀.heap.get? b = some o → b ∉ frs outer → b ∉ frs (cxOf (CX1 P w) P w K mg base N qual scope f cd A outer s₀ H₀ E).stack := fun b o e hb z => by
    rcases frs_own.mp z with z | z
    · exact absurd (Heap.lt_size e) (by rw [z]; exact Nat.lt_irrefl _)
    · exact hb z
  have nox : ∀ b : Addr, b ∉ (cxOf (CX1 P w) P w K mg base N qual scope f cd A outer s₀ H₀ E).ex := fun b z => absurd (show b ∈ ([] : List Addr) from z) (by simp)
  have keepB : ∀ b o, s₀.heap.get? b = some o → H₀ b = none → b ∉ frs outer → (PySem.W.hideAll s.heap (frs (cxOf (CX1 P w) P w K mg base N qual scope f cd A outer s₀ H₀ E).stack)).get? b = some o := fun b o e n hb =>
    PySem.W.hideAll_get _ (I.base.keep b o e n hb (nox b)) (ne0 b o e hb)
  have slotB : ∀ b o, s₀.heap.get? b = some o → H₀ b = none → b ∈ frs outer → ∃ sl, h'.get? b = some { o with slots := sl } := fun b o e n hb => by
    obtain ⟨sl, e1⟩ := I.base.slot b o e n hb (nox b)
    obtain ⟨_, o3, e3, d3⟩ := F.mem (frs_own.mpr (.inr hb))
    rw [e1] at e3; cases e3
    obtain ⟨sl4, e4⟩ := hs b _ (hm.keeps b _ e1) d3
    exact ⟨sl4, e4⟩
  have thereB : ∀ b o, s₀.heap.get? b = some o → b ∉ frs outer → ∃ u, (PySem.W.hideAll s.heap (frs (cxOf (CX1 P w) P w K mg base N qual scope f cd A outer s₀ H₀ E).stack)).get? b = some u := fun b o e hb => by
    obtain ⟨o1, e1⟩ := I.base.there b o e (nox b)
    exact ⟨o1, PySem.W.hideAll_get _ e1 (ne0 b o e hb)⟩
  have trk : ∀ b o u, H b = some o → s.heap.get? b = some u → (PySem.W.hideAll s.heap (frs (cxOf (CX1 P w) P w K mg base N qual scope f cd A outer s₀ H₀ E).stack)).get? b = some u := fun b o u e q =>
    PySem.W.hideAll_get _ q fun z => by rw [I.stkFree b z] at e; cases e
  refine ⟨e, C, H, rfl, ⟨I.os, I.bare, ⟨fun b o e n hb _ => hf'.1 b o (keepB b o e n hb), fun b o e n hb _ => slotB b o e n hb, fun b o e n _ => I.base.free b o e n (nox b), fun b o e _ => ?_, I.base.tups, I.base.frzs, I.base.tbls⟩,
    I.hok.trkd fun b u o e q => hf'.1 b u (trk b o u e q), ?_, _, _, hf', keepB, fun b o q => ?_, thereB⟩, hE⟩
  · by_cases hb : b ∈ frs outer
    · obtain ⟨sl, e1⟩ := slotB b o e (I.ok.frf b hb) hb
      exact ⟨_, e1⟩
    · obtain ⟨u, e1⟩ := thereB b o e hb
      exact ⟨u, hf'.1 b u e1⟩
  · cases q : s₀.heap.get? e with
    | none => rfl
    | some o =>
      obtain ⟨o1, e1⟩ := I.base.there e o q (nox e)
      rw [hm.new] at e1; cases e1
  · obtain ⟨u, hu⟩ := (I.hok b o q).there
    exact ⟨u, trk b o u q hu⟩
end
def tRaise (C : Addr) (E : XK) (t : TA) : TS := fun _ σ H => t σ H fun vs H1 => vs.length ≤ sizeLine ∧ E (.ref C) none H1
theorem exc_obj {K : PySem.W.Frag} {h : Heap} {C : Addr} {bmB : List Value} {newId : String} (X : K.In h) (q : PySem.W.excIn K C bmB newId = true) :
    ∃ bm N nm qn bs hdct sn sub ab col dd k0 k1 k2 k3 k5 mN, h.get? C = some (excClassObj nm qn C N bs bm hdct sn sub ab col dd k0 k1 k2 k3 k5 newId) ∧ h.Ns N mN ∧ mN "__init__" = none ∧ OwnTail h bmB bm := by
  unfold PySem.W.excIn at q
  split at q
  · rename_i dd cd sl ho
    split at q
    · rename_i C' bm k0 k1 k2 k3 n k5 hm hs
      simp only [Bool.and_eq_true, beq_iff_eq, Bool.not_eq_true'] at q
      obtain ⟨⟨⟨⟨⟨rfl, rfl⟩, hdel⟩, ht⟩, hok⟩, hni⟩ := q
      obtain ⟨nm, bs, mro, ns, qn, hd, sn, sub, ab, col, del⟩ := cd
      dsimp only at hm hdel hok hni
      subst hm hdel
      have hsl : sl = #[k0, k1, k2, k3, some (.builtin n), k5] := by
        obtain ⟨l⟩ := sl
        simp only at hs
        rw [hs]
      subst hsl
      exact ⟨bm, ns, nm, qn, bs, hd, sn, sub, ab, col, dd, k0, k1, k2, k3, k5, _, X _ _ ho, .of_isNs (PySem.W.isNs_of_in X hok), PySem.W.nsMap_none_of_in X hok hni, PySem.W.tail_of_in X ht⟩
    · cases q
  · cases q
section
variable {X : Cx} {C : Addr} {x : Str} {e : Expr} {es : List Expr} {t : TA} {np cpos pos : Pos} {E : XK} {bmB : List Value} {B newId initId : String}
theorem ps_raise (hr : Raises X E) (hA : X.calm = true) (hg : Gl X x) (hm : X.mg x = some (.ref C)) (hq : PySem.W.excIn X.K C bmB newId = true) (FB : ExcBaseFacts B newId initId bmB) (ha : PA X (e :: es) t)
    (hdb : (x == ("__debug__" : Str)) = false := by decide) (he : starEach (e :: es) X.env = (false, eval e X.env) :: starEach es X.env := by rfl) (hpl : (backTo cpos (starEach es X.env)).any (·.1) = false := by rfl) :
    PS X (.Raise (some (.Call (.Name x np) (e :: es) [] cpos)) none pos) (tRaise C E t) := by
  intro pins s σ H D I h
  obtain ⟨bm, N, nm, qn, bs, hdct, sn, sub, ab, col, dd, k0, k1, k2, k3, k5, mN, hC, hN, hni, T⟩ := exc_obj I.ok.mod.kin hq
  refine wpAny_Raise_call_subT (C := C) (nm := nm) (q := qn) (N := N) (bs := bs) (bm := bm) (hdct := hdct) (sn := sn) (sub := sub) (ab := ab) (col := col) (dd := dd) (k0 := k0) (k1 := k1) (k2 := k2) (k3 := k3) (k5 := k5)
    FB (mN := mN) (T.hasType FB.hasBase) (I.ok.hd hA) (by rw [he]; show (false || (backTo cpos (starEach es X.env)).any (·.1)) = false; rw [hpl]; rfl) hni (ld_glob I hg hm ⟨rfl, ?_⟩ hdb)
  have ha' := ha cpos pins s σ H _ I h
  rw [he] at ha' ⊢
  refine Calls.evalArgs_plain (thn ha' fun us s1 ⟨vs, H1, I1, r, z, hE⟩ => ⟨rfl, by rw [← r.length]; exact z, I1.bk _ _ hC, hN.keeps I1.bk, T.keeps I1.bk, fun h' e' hm' => ?_⟩)
  exact hr pins σ H1 s1 e' (.ref C) us h' I1 hm' hE
end
def Cx.tryX (X : Cx) (pins : List (Addr × Obj)) (xe : Value → Shared → Prop) : Cx := { X with pn := X.pn ++ pins, xe := xe }
def Cx.handX (X : Cx) (pins : List (Addr × Obj)) (e : Value) : Cx := { X with A := X.A.mark (some e), calm := false, pn := X.pn ++ pins, xe := fun _ _ => False }
theorem Cx.Ok.tryX {X : Cx} (ok : X.Ok) (pins : List (Addr × Obj)) (xe : Value → Shared → Prop) : (X.tryX pins xe).Ok :=
  ⟨ok.mod, ok.kind, ok.glob, ok.blt, ok.above, ok.inj, ok.has, ok.cab, ok.hd, ok.frames, ok.stk, ok.exf, ok.bs, ok.bsz, ok.noex, ok.exfs, ok.funs, ok.frf⟩
theorem Cx.Ok.handX {X : Cx} (ok : X.Ok) (pins : List (Addr × Obj)) (e : Value) : (X.handX pins e).Ok :=
  ⟨ok.mod, ok.kind, ok.glob, ok.blt, ok.above, ok.inj, ok.has, ok.cab, fun z => Bool.noConfusion (show false = true from z), ok.frames, ok.stk, ok.exf, ok.bs, ok.bsz, ok.noex, ok.exfs, ok.funs, ok.frf⟩
section
variable {X : Cx} {pins pins' : List (Addr × Obj)} {σ : St} {H H' : Hp} {s : Shared} {xe : Value → Shared → Prop} {ev : Value}
theorem Inv.tryX (I : Inv X pins σ H s) (xe : Value → Shared → Prop) : Inv (X.tryX pins xe) [] σ H s :=
  ⟨I.ok.tryX pins xe, I.os, I.bare, I.base, I.loc, I.cell, I.free, I.freeC, fun p hp => I.pin p (by rw [List.append_nil] at hp; exact hp), I.hok, I.len⟩
theorem Inv.untry (ok : X.Ok) (I : Inv (X.tryX pins xe) pins' σ H s) : Inv X pins σ H s :=
  ⟨ok, I.os, I.bare, I.base, I.loc, I.cell, I.free, I.freeC, fun p hp => I.pin p (List.mem_append_left _ hp), I.hok, I.len⟩
theorem Inv.handX (I : Inv X pins σ H s) (ev : Value) : Inv (X.handX pins ev) [] σ H s :=
  ⟨I.ok.handX pins ev, I.os, I.bare, I.base, I.loc, I.cell, I.free, I.freeC, fun p hp => I.pin p (by rw [List.append_nil] at hp; exact hp), I.hok, I.len⟩
theorem Inv.unhand (ok : X.Ok) (I : Inv (X.handX pins ev) pins' σ H s) : Inv X pins σ H s :=
  ⟨ok, I.os, I.bare, I.base, I.loc, I.cell, I.free, I.freeC, fun p hp => I.pin p (List.mem_append_left _ hp), I.hok, I.len⟩
theorem SP.untry {D : Ends} {f : Flow} {s' : Shared} (ok : X.Ok) (h : SP (X.tryX pins xe) pins' D f s') : SP X pins D f s' := by
  cases f with
  | next => obtain ⟨σ', H', I, q⟩ := h; exact ⟨σ', H', I.untry ok, q⟩
  | brk => obtain ⟨σ', H', I, q⟩ := h; exact ⟨σ', H', I.untry ok, q⟩
  | cont => obtain ⟨σ', H', I, q⟩ := h; exact ⟨σ', H', I.untry ok, q⟩
  | ret u => obtain ⟨v, σ', H', I, r, q⟩ := h; exact ⟨v, σ', H', I.untry ok, r, q⟩
theorem Inv.adopt {a : Addr} {o : HO} (J : Inv X pins σ H s) (na : H a = none) (h0 : X.s₀.heap.get? a = none) (hl : X.env.locals ≠ a) (hc : ∀ x c, X.env.cells.lookup x = some c → c ≠ a) (hp : ∀ p ∈ X.pn ++ pins, p.1 ≠ a)
    (new : ObjOk X.prog X.w (upd H a o) s.heap a o) : Inv X pins σ (upd H a o) s := by
  have ne : ∀ b u, H b = some u → b ≠ a := fun b u e z => by rw [z, na] at e; cases e
  refine ⟨J.ok, J.os, J.bare, ⟨J.base.keep, J.base.slot, fun b ob e n hx => ?_, J.base.there, fun b xs e => ?_, fun b ob u e => ?_, fun b ps e => ?_⟩, J.loc, J.cell, ?_, fun x c e => ?_, fun p hq => ?_, fun b u e => ?_, J.len⟩
  · have z : b ≠ a := fun z => by rw [z, h0] at e; cases e
    rw [upd_ne z]; exact J.base.free b ob e n hx
  · have q := J.base.tups b xs e
    rw [upd_ne (ne b _ q)]; exact q
  · have q := J.base.frzs b ob u e
    rw [upd_ne (ne b _ q)]; exact q
  · obtain ⟨m, q⟩ := J.base.tbls b ps e
    exact ⟨m, by rw [upd_ne (ne b _ q)]; exact q⟩
  · rw [upd_ne hl]; exact J.free
  · rw [upd_ne (hc x c e)]; exact J.freeC x c e
  · obtain ⟨e1, e2, e3⟩ := J.pin p hq
    exact ⟨e1, by rw [upd_ne (hp p hq)]; exact e2, e3⟩
  · by_cases z : b = a
    · subst z; rw [upd_same] at e; cases e; exact new
    · rw [upd_ne z] at e
      exact (J.hok b u e).stay (fun c v _ q => q) (fun c q => by rw [upd_ne (ne c _ q)]; exact q) fun c xs q => by rw [upd_ne (ne c _ q)]; exact q
theorem name_gone {M : Model} {A : Around} {E : Value → Shared → Prop} {i : Nat} {n : Str} {pos : Pos} {Q : Unit → Shared → Prop} (I : Inv X pins σ H s) (hN : X.N.Nodup) (hi : X.N[i]? = some n) (hk : X.env.kindOf n = some .local)
    (h : ∀ s', Inv X pins (σ.set i none) H s' → Q () s') : wpAny M A (do bindName X.env n .none; unbindBehindTheSuite X.env n pos) Q E s := by
  obtain ⟨m, hn, hl⟩ := id I.loc
  have hcls : (X.env.scope.kind == .class || (X.env.scope.kind == .module && X.env.locals != X.env.globals)) = false := by rw [I.ok.kind]; rfl
  have hiσ : i < σ.length := by rw [I.len]; exact (List.getElem?_eq_some_iff.mp hi).1
  obtain ⟨oL, _, _, hoL, _⟩ := id hn
  refine wpAny_nameGoes_keeps hk hn hcls fun h' v hn' hs => ?_
  have low : ∀ b o, X.s₀.heap.get? b = some o → b ≠ X.env.locals := fun b o e => Nat.ne_of_lt (Nat.lt_of_lt_of_le (Heap.lt_size e) I.ok.above)
  refine h _ ⟨I.ok, I.os, I.bare, ⟨fun b o e n hb hx => (hs.2 b (low b o e)).trans (I.base.keep b o e n hb hx), fun b o e n hb hx => ?_, I.base.free, fun b o e hx => ?_, I.base.tups, I.base.frzs, I.base.tbls⟩, ⟨_, hn', fun j y v' e1 e2 e3 => ?_⟩, fun y c e => ?_, I.free, I.freeC, fun p hp => ?_,
    I.hok.trkd fun b u o e q => (hs.2 b fun z => by rw [z, I.free] at e; cases e).trans q, by simpa using I.len⟩
  · obtain ⟨sl, e1⟩ := I.base.slot b o e n hb hx
    exact ⟨sl, (hs.2 b (low b o e)).trans e1⟩
  · obtain ⟨o', e1⟩ := I.base.there b o e hx
    exact ⟨o', (hs.2 b (low b o e)).trans e1⟩
  · by_cases hj : j = i
    · subst hj
      rw [List.getElem?_set_self hiσ] at e2
      cases e2
    · rw [List.getElem?_set_ne (Ne.symm hj)] at e2
      obtain ⟨u', r', q⟩ := hl j y v' e1 e2 e3
      refine ⟨u', r', ?_⟩
      rcases q with ⟨k, e⟩ | ⟨k, c, e, z⟩
      · refine .inl ⟨k, ?_⟩
        have : y ≠ n := fun e => hj (nodup_ix hN e1 (e ▸ hi))
        simp [this, e]
      · exact .inr ⟨k, c, e, z.sameBut hs (I.cne y c e)⟩
  · obtain ⟨w', z⟩ := I.cell y c e
    exact ⟨w', z.sameBut hs (I.cne y c e)⟩
  · obtain ⟨e, n, ne, nf, d⟩ := I.pin p hp
    exact ⟨(hs.2 p.1 ne).trans e, n, ne, nf, d⟩
end
theorem Fly.move {P : Program} {w : World} {outer : List Env} {H H' : Hp} {s s' : Shared} {a : Addr} {C : Value} {B : Heap} {a0 : Value} {h' : Heap} (un : Un (frs outer) [] H H' s.heap s'.heap) (hok : HOk P w H' s'.heap)
    (hf : Heap.FlyingW B outer a C a0 s'.heap) (k1 : ∀ b o, s.heap.get? b = some o → H b = none → b ∉ frs outer → B.get? b = some o) (k2 : ∀ b o, H' b = some o → ∃ u, B.get? b = some u)
    (k3 : ∀ b o, s.heap.get? b = some o → b ∉ frs outer → ∃ u, B.get? b = some u) (hb : B.StaysIn h') (hs : s'.heap.UpToSlots h') : Un (frs outer) [] H H' s.heap h' ∧ HOk P w H' h' := by
  refine ⟨⟨fun b o e n hb' _ => hb b o (k1 b o e n hb'), fun b o e n hb' _ => ?_, un.free, fun b o e _ => ?_, un.tups, un.frzs, un.tbls⟩, hok.trkd fun b u o e q => ?_⟩
  · obtain ⟨sl, e1⟩ := un.slot b o e n hb' (by simp)
    obtain ⟨_, o3, e3, d3⟩ := hf.2.2.1.mem hb'
    rw [e1] at e3; cases e3
    obtain ⟨sl4, e4⟩ := hs b _ e1 d3
    exact ⟨sl4, e4⟩
  · by_cases hb' : b ∈ frs outer
    · obtain ⟨o1, e1⟩ := un.there b o e (by simp)
      obtain ⟨_, o3, e3, d3⟩ := hf.2.2.1.mem hb'
      rw [e1] at e3; cases e3
      obtain ⟨sl, e4⟩ := hs b _ e1 d3
      exact ⟨_, e4⟩
    · obtain ⟨u, e1⟩ := k3 b o e hb'
      exact ⟨u, hb b u e1⟩
  · obtain ⟨u', e'⟩ := k2 b o e
    have := hf.1 b u' e'
    rw [q] at this; cases this
    exact hb b u e'
abbrev XS := Value → St → Hp → Prop
def PassX (P : Program) (w : World) (X : Cx) (Φ : XS) : Prop := ∀ (pins : List (Addr × Obj)) (σ : St) (H : Hp) (s : Shared) (e : Value) (s' : Shared), Inv X pins σ H s → CX1 P w X.stack H s (fun c _ H' => Φ c σ H') e s' → X.xe e s'
def tCallX (sp : Sp) (dvs : List V) (Φ : XS) (t : TA) : TE := fun σ H Q => t σ H fun vs H1 => sp (vs ++ dvs) H1 Q fun c _ H' => Φ c σ H'
section
variable {X : Cx} {P : Program} {w : World} {k : Nat} {f : Addr} {fd : FuncData} {ps : List Str} {sp : Sp} {dvs : List V} {ds : List Value} {Φ : XS} {x : Str} {p pos : Pos} {e : Expr} {es : List Expr} {t : TA}
theorem pe_callX (F : FnOk X.prog X.w X.K X.mg X.base (CX1 P w) k f fd ps sp) (hr : Room k X.A) (hg : Gl X x) (hm : X.mg x = some (.ref f)) (hk : PySem.W.keepIn X.K (.ref f) = true) (hb : Binds X.K fd ps ds) (hd : Vals dvs ds) (hx : PassX P w X Φ)
    (ha : PA X (e :: es) t) (hdb : (x == ("__debug__" : Str)) = false := by decide) (he : starEach (e :: es) X.env = (false, eval e X.env) :: starEach es X.env := by rfl) (hpl : (backTo pos (starEach es X.env)).any (·.1) = false := by rfl) :
    PE X (.Call (.Name x p) (e :: es) [] pos) (tCallX sp dvs Φ t) := by
  intro pins s σ H Q I h
  refine wpAny_Call_Name_kw (ld_glob I hg hm ?_ hdb)
  refine PySem.W.callWith_K (h₀ := X.base) I.ok.mod.kin hk (thn (ha pos pins s σ H _ I h) fun us s1 ⟨vs, H1, I1, r, q⟩ => ⟨I1.kIn, ?_⟩) he hpl
  have r2 : Vals (vs ++ dvs) (us ++ ds) := r.append hd
  have hl : (us ++ ds).length = ps.length := by rw [← r2.length]; exact F.len _ _ _ _ q
  refine wpAny_call (codeAny_mono (F.run X.A X.stack s1 H1 ⟨us, []⟩ (us ++ ds) (vs ++ dvs) Q _ hr I1.env0 (hb s1 us I1.kIn hl) r2 q) fun r s' hq => ?_)
  cases r with
  | error e => exact hx pins σ H1 s1 e s' I1 hq
  | ok fl =>
    cases fl with
    | ret u => exact I1.after hq
    | next => exact False.elim hq
    | brk => exact False.elim hq
    | cont => exact False.elim hq
end
def excO (a C : Addr) : HO := .ext (XT.ExcAt a C)
def Ends.hand (D : Ends) (i : Nat) : Ends := { nx := fun σ H => D.nx (σ.set i none) H, rt := D.rt, bk := fun σ H => D.bk (σ.set i none) H, ct := fun σ H => D.ct (σ.set i none) H }
abbrev Pins := List (Addr × Obj)
section
variable {X : Cx} {C : Addr} {i : Nat} {n x : Str} {body : List Stmt} {b₀ : Stmt} {suite : List Stmt} {np hpos pos : Pos} {tb : Pins → (Value → Shared → Prop) → XS → TS} {th : Pins → Value → TS} {bmB : List Value} {newId : String}
end
end L2
set_option maxHeartbeats 4000000
namespace L2
open PySem PySem.Spec PyProof.Rows
section
variable {X : Cx}
theorem bits_of {x : Int} {m : Nat} (h : x.natAbs < 2 ^ m) : Builtin.Int.intBits x ≤ m := PySem.intBits_le_iff.mpr h
def CMulL (i j : Int) : Prop := i.natAbs < 2 ^ 100000 ∧ j.natAbs < 2 ^ 100000
theorem log2_lt_of {n m : Nat} (hm : 0 < m) (h : n < 2 ^ m) : n.log2 < m := by
  rcases Nat.eq_zero_or_pos n with h0 | hp
  · rw [h0]; exact hm
  · exact (Nat.log2_lt (Nat.ne_of_gt hp)).mpr h
def CDivL (_ j : Int) : Prop := j ≠ 0 ∧ j.natAbs < 2 ^ 8999
theorem op_fdivL : OpR X (binaryOp .FloorDiv) (rI CDivL fun i j => .int (i.fdiv j)) := opI fun _ _ _ _ _ _ _ hc q => floordiv_int hc.1 q (.inl (PyProof.noPylong_of_log2 (Nat.lt_trans (log2_lt_of (by decide) hc.2) (by decide))))
def rIsi (K : PySem.W.Frag) : List V → Hp → VK → Prop := fun xs H Q => ∃ x t T b, xs = [x, .ty T] ∧ TyOf K H x t ∧ PySem.W.kitOne K t (.type T) = some b ∧ Q (.bl b) H
theorem call_isi : CallR X (.builtin "isinstance") (rIsi X.K) := by
  intro pins s σ H vs us Q I r h
  obtain ⟨x, t, T, b, rfl, ty, e, q⟩ := h
  obtain ⟨u, c, rfl, rx, rc⟩ := vals2 r
  cases (show c = Value.type T from rc)
  exact isinst_ok I rx ty e fun tk => ⟨.bl b, H, I.tok tk, rfl, q⟩
theorem kit_same (K : PySem.W.Frag) (t : Value) : PySem.W.kitOne K t t = some true := by unfold PySem.W.kitOne; simp
def rIsiE (K : PySem.W.Frag) : List V → Hp → VK → Prop := fun xs H Q => ∃ a C c b, xs = [.ref a, c] ∧ H a = some (excO a C) ∧ XT.ExcK K C ∧
  ((∃ D, c = .ref D ∧ PySem.W.kitOne K (.ref C) (.ref D) = some b) ∨ (∃ T, c = .ty T ∧ PySem.W.kitOne K (.ref C) (.type T) = some b) ∨
    (∃ (p : Addr) (Ds : List Addr), c = .ref p ∧ H p = some (.tup (Ds.map V.ref)) ∧ PySem.W.kitAny K (.ref C) (Ds.map Value.ref) = some b)) ∧ Q (.bl b) H
theorem vals_refs : ∀ {Ds : List Addr} {us : List Value}, Vals (Ds.map V.ref) us → us = Ds.map Value.ref
  | [], _, .nil => rfl
  | _ :: _, _, .cons r t => by
    cases (show _ = Value.ref _ from r)
    rw [vals_refs t]; rfl
theorem call_isiE : CallR X (.builtin "isinstance") (rIsiE X.K) := by
  intro pins s σ H vs us Q I r h
  obtain ⟨a, C, c, b, rfl, ha, Z, h, q⟩ := h
  obtain ⟨u, cv, rfl, rx, rc⟩ := vals2 r
  cases (show u = Value.ref a from rx)
  have hx : XT.ExcAt a C s.heap := (I.hok a _ ha).1
  rcases h with ⟨D, rfl, e⟩ | ⟨T, rfl, e⟩ | ⟨p, Ds, rfl, hp, e⟩
  · cases (show cv = Value.ref D from rc)
    exact PySem.W.kia_one (XT.kitx_exc Z) I.kIn hx e (fun z => nomatch z) fun tk => ⟨.bl b, H, I.tok tk, rfl, q⟩
  · cases (show cv = Value.type T from rc)
    exact PySem.W.kia_one (XT.kitx_exc Z) I.kIn hx e (fun z => nomatch z) fun tk => ⟨.bl b, H, I.tok tk, rfl, q⟩
  · cases (show cv = Value.ref p from rc)
    obtain ⟨_, its, rv, ot, h1, h2, n, h3⟩ := I.hok p _ hp
    obtain ⟨c0, dd, dat, sl⟩ := ot
    cases (show c0 = _ from h2)
    cases (show dat = _ from h3)
    rw [vals_refs rv] at h1
    exact PySem.W.kia_tup (XT.kitx_exc Z) I.kIn hx h1 e (fun z => nomatch z) fun tk => ⟨.bl b, H, I.tok tk, rfl, q⟩
def eqVs : List V → List V → Bool
  | [], [] => true
  | x :: xs, y :: ys => eqV x y && eqVs xs ys
  | _, _ => false
theorem eqVs_len : ∀ {xs ys : List V}, xs.length ≠ ys.length → eqVs xs ys = false
  | [], [], h => absurd rfl h
  | [], _ :: _, _ => rfl
  | _ :: _, [], _ => rfl
  | x :: xs, y :: ys, h => by
    unfold eqVs
    rw [eqVs_len (fun z => h (by simp [z]))]; simp
theorem eqVs_all : ∀ {xs ys : List V}, xs.length = ys.length → (List.range xs.length).all (fun j => eqV (xs.getD j .non) (ys.getD j .non)) = eqVs xs ys
  | [], [], _ => rfl
  | [], _ :: _, h => by simp at h
  | _ :: _, [], h => by simp at h
  | x :: xs, y :: ys, h => by
    have ih := eqVs_all (xs := xs) (ys := ys) (by simpa using h)
    rw [List.length_cons, List.range_succ_eq_map, List.all_cons, List.all_map]
    unfold eqVs
    rw [← ih]
    rfl
theorem eqAt_items {A : Around} {s : Shared} {xs ys : List V} {us ws : List Value} (r : Vals xs us) (q : Vals ys ws) (fx : xs.all flatV = true) (fy : ys.all flatV = true) (j : Nat) (h1 : j < us.toArray.size) (h2 : j < ws.toArray.size) :
    SeqAt.EqAt A s us.toArray[j] ws.toArray[j] (eqV (xs.getD j .non) (ys.getD j .non)) := by
  have l1 := r.length
  have l2 := q.length
  have h1' : j < xs.length := by simpa [l1] using h1
  have h2' : j < ys.length := by simpa [l2] using h2
  obtain ⟨u, hu, ru⟩ := r.get (i := j) (x := xs[j]) (List.getElem?_eq_getElem h1')
  obtain ⟨v, hv, rv⟩ := q.get (i := j) (x := ys[j]) (List.getElem?_eq_getElem h2')
  have e1 : us.toArray[j] = u := by
    have := List.getElem?_eq_some_iff.mp hu
    obtain ⟨_, z⟩ := this; simpa using z
  have e2 : ws.toArray[j] = v := by
    have := List.getElem?_eq_some_iff.mp hv
    obtain ⟨_, z⟩ := this; simpa using z
  rw [e1, e2, List.getD_eq_getElem?_getD, List.getD_eq_getElem?_getD, List.getElem?_eq_getElem h1', List.getElem?_eq_getElem h2']
  exact eqAt_V ru rv (List.all_eq_true.mp fx _ (List.getElem_mem h1')) (List.all_eq_true.mp fy _ (List.getElem_mem h2'))
def rEqL (K : PySem.W.Frag) : R2 := fun x y H Q => ∃ a b xs ys, x = .ref a ∧ y = .ref b ∧ SqL K H a xs ∧ SqL K H b ys ∧ xs.all flatV = true ∧ ys.all flatV = true ∧ Q (.bl (eqVs xs ys)) H
theorem op_eqL (hu : X.A.units < cLine) : OpR X (compareOp .Eq) (rEqL X.K) := by
  intro pins s σ H x y v u Q I rx ry h
  obtain ⟨a, b, xs, ys, rfl, rfl, ha, hb, fx, fy, q⟩ := h
  cases (show v = Value.ref a from rx)
  cases (show u = Value.ref b from ry)
  obtain ⟨its, rv, p, _⟩ := I.list ha
  obtain ⟨its2, rv2, p2, _⟩ := I.list hb
  have l1 := rv.length
  have l2 := rv2.length
  by_cases hz : xs.length = ys.length
  · refine SeqAt.eq_listAt (e := fun j => eqV (xs.getD j .non) (ys.getD j .non)) p.isList p2.isList (by simp [← l1, ← l2, hz]) hu (fun j h1 h2 => eqAt_items rv rv2 fx fy j h1 h2) ?_
    have e : (List.range its.toArray.size).all (fun j => eqV (xs.getD j .non) (ys.getD j .non)) = eqVs xs ys := by
      rw [← eqVs_all hz]; simp [← l1]
    rw [e]
    exact ⟨.bl _, H, I, rfl, q⟩
  · rw [eqVs_len hz] at q
    exact SeqAt.eq_list_lengthsAt p.isList p2.isList (by simp [← l1, ← l2, hz]) hu ⟨.bl _, H, I, rfl, q⟩
variable {tg : Expr}
end
section
variable {P : Program} {w : World} {K : PySem.W.Frag} {mg : Str → Option Value} {base : Heap}
theorem Fun.okx {x qual : Str} {st : Stmt} {f : Addr} {fd : FuncData} {N ps : List Str} {k : Nat} {sp : Sp} (F : Fun K x qual st f fd) (S : FnScope N ps (defScope st)) (len : ∀ vs H Q E, sp vs H Q E → vs.length = ps.length)
    (hbody : ∀ (cdv : Value) (A : Around) (outer : List Env) (s : Shared) (H : Hp) (vs : List V) (Q : VK) (E : XK), Room k (A.deeper (envOfC qual (defScope st) s.heap.objs.size f cdv)) → sp vs H Q E →
      ∃ t, PSs (cxOf (CX1 P w) P w K mg base N qual (defScope st) f cdv A outer s H E) (defBody st) t ∧ t { nx := fun _ H' => Q .non H', rt := Q } (start N vs) H) : FnOk P w K mg base (CX1 P w) (k + 1) f fd ps sp := by
  obtain ⟨oc, od, kV, doc, pm, an, cdv, ct, osl, rfl, lk, hcd⟩ := F.ex
  refine fn_of lk hcd S len fun A outer s H vs Q E hr hsp => ?_
  exact hbody cdv A outer s H vs Q E hr hsp
theorem Fun.okn {x qual : Str} {st : Stmt} {f : Addr} {fd : FuncData} {N ps : List Str} {k : Nat} {sp : Sp} (F : Fun K x qual st f fd) (S : FnScope N ps (defScope st)) (len : ∀ vs H Q E, sp vs H Q E → vs.length = ps.length)
    (hbody : ∀ (cdv : Value) (A : Around) (outer : List Env) (s : Shared) (H : Hp) (vs : List V) (Q : VK) (E : XK), Room k (A.deeper (envOfC qual (defScope st) s.heap.objs.size f cdv)) → sp vs H Q E →
      ∃ t, PSs (cxOf (CX1 P w) P w K mg base N qual (defScope st) f cdv A outer s H E).nox (defBody st) t ∧ t { nx := fun _ H' => Q .non H', rt := Q } (start N vs) H) : FnOk P w K mg base (CX1 P w) (k + 1) f fd ps sp := by
  obtain ⟨oc, od, kV, doc, pm, an, cdv, ct, osl, rfl, lk, hcd⟩ := F.ex
  refine fn_of lk hcd S len fun A outer s H vs Q E hr hsp => ?_
  obtain ⟨t, h, q⟩ := hbody cdv A outer s H vs Q E hr hsp
  exact ⟨t, h.nox, q⟩
end
end L2
set_option maxHeartbeats 4000000
namespace L2
open PySem PySem.Spec PyProof.Rows
section
variable {X : Cx}
def oLt := (op_lt (X := X)).or op_lt_str
def isiAny := (call_isi (X := X)).or call_isiE
def ixAny := ix_seq (X := X)
theorem mt_app : MtR X "list.append" rAppend := mt_append (X := X)
end
theorem cls_of_mro {K : PySem.W.Frag} {C : Addr} {b : Value} {r : Bool} (h : PySem.W.mroIn K C b = some r) : (PySem.W.clsIn K C).isSome = true := by
  unfold PySem.W.mroIn at h
  cases q : PySem.W.clsIn K C with
  | none => rw [q] at h; cases h
  | some c => rfl
end L2
set_option maxHeartbeats 4000000
namespace L2
open PySem PySem.Spec PyProof.Rows
section
variable {X : Cx}
def cutL (xs : List Nat) (lo hi : Option Int) : List Nat := (xs.drop (HT.sIx xs.length 0 lo)).take (HT.sIx xs.length xs.length hi - HT.sIx xs.length 0 lo)
def cutS (z : Str) (lo hi : Option Int) : Str := ⟨(cutL z.cps.toList lo hi).toArray⟩
theorem slice_cutS (z : Str) (lo hi : Option Int) : Txt.slice z lo hi = cutS z lo hi := by
  obtain ⟨h1, h2, _⟩ := slice_bounds lo hi z.length
  have e : Builtin.Str.strSliceIndices lo hi 1 z.length = sliceRange (sliceBounds lo hi none z.length).1 (sliceBounds lo hi none z.length).2.1 1 := rfl
  have hl : z.cps.toList.length = z.length := by rw [Array.length_toList]; rfl
  rw [h1, h2, sliceRange_one] at e
  have hb := HT.sIx_le z.length z.length (Nat.le_refl _) hi
  unfold Txt.slice cutS cutL
  rw [e, pick_run, hl]
  split
  · rename_i q
    rw [List.length_map, List.length_range] at q
    have q' : HT.sIx z.length z.length hi - HT.sIx z.length 0 lo = z.length := by simpa using q
    obtain ⟨cps⟩ := z
    have hz : (⟨cps⟩ : Str).length = cps.size := rfl
    have : (cps.toList.drop (HT.sIx (Str.length ⟨cps⟩) 0 lo)).take (HT.sIx (Str.length ⟨cps⟩) (Str.length ⟨cps⟩) hi - HT.sIx (Str.length ⟨cps⟩) 0 lo) = cps.toList := by
      rw [q', hz]
      rcases Nat.eq_zero_or_pos cps.size with z0 | zp
      · have : cps.toList = [] := List.eq_nil_of_length_eq_zero (by simpa using z0)
        rw [this]; simp
      · have : HT.sIx cps.size 0 lo = 0 := by rw [hz] at q' hb; omega
        rw [this, List.drop_zero, List.take_of_length_le (by rw [Array.length_toList]; exact Nat.le_refl _)]
    show (⟨cps⟩ : Str) = ⟨((cps.toList.drop (HT.sIx (Str.length ⟨cps⟩) 0 lo)).take (HT.sIx (Str.length ⟨cps⟩) (Str.length ⟨cps⟩) hi - HT.sIx (Str.length ⟨cps⟩) 0 lo)).toArray⟩
    rw [this]
  · rfl
def rSlS : V → Option Int → Option Int → Hp → VK → Prop := fun x lo hi H Q => ∃ z : Str, x = .str z ∧ z.length ≤ sizeLine ∧ Q (.str (cutS z lo hi)) H
theorem sl_str : SlR X rSlS := by
  intro pins s σ H x v vl vu lo hi sl Q I rx hs pl pu h
  obtain ⟨z, rfl, hz, q⟩ := h
  obtain ⟨t, rfl⟩ := rx
  refine ⟨"str", _, F.slot_str_getitem.lookup, typeIs_str _ _ _, ?_⟩
  rw [← slice_cutS] at q
  have fin : ∀ (t' : Tok) (k : Nat), EP X pins σ Q (.str (Txt.slice z lo hi) t') { s with toks := k } := fun t' k => ⟨.str _, H, I.tok k, ⟨t', rfl⟩, q⟩
  have hl := Nat.le_trans (Txt.slice_le z lo hi) hz
  cases pl with
  | none =>
    cases pu with
    | none => exact wpAny_getItem_str_slice (l := none) (u := none) (st := none) hs rfl (post_val_or_str ⟨hl, fin⟩)
    | int j tj => exact wpAny_getItem_str_slice (l := none) (u := some (j, tj)) (st := none) hs rfl (post_val_or_str ⟨hl, fin⟩)
  | int i ti =>
    cases pu with
    | none => exact wpAny_getItem_str_slice (l := some (i, ti)) (u := none) (st := none) hs rfl (post_val_or_str ⟨hl, fin⟩)
    | int j tj => exact wpAny_getItem_str_slice (l := some (i, ti)) (u := some (j, tj)) (st := none) hs rfl (post_val_or_str ⟨hl, fin⟩)
def slAny := (sl_list (X := X)).or sl_str
def Its (z : Str) : It := ⟨fun i _ => i < z.length, fun i H x H' => H' = H ∧ ∃ c, z.cps.toList[i]? = some c ∧ x = .str ⟨#[c]⟩, fun i _ => z.length ≤ i⟩
theorem turn_str {P : Program} {w : World} {K : PySem.W.Frag} {nm : Str} {np : Pos} {ty : String} (it : Addr) (z : Str) (t : Tok)
    (hi : ∀ (A : Around) (s : Shared) (i c : Nat) (Q : Option Value → Shared → Prop) (E : Value → Shared → Prop), s.heap.IsStrIter it ty z t i → z.cps[i]? = some c →
      (∀ h', h'.IsStrIter it ty z t (i + 1) → Heap.SameBut it s.heap h' → Q (some (.str ⟨#[c]⟩ s.toks)) { s with heap := h', toks := s.toks + 1 }) → wpAny (model P w) A (pyNext (.ref it)) Q E s)
    (he : ∀ (A : Around) (s : Shared) (i : Nat) (Q : Option Value → Shared → Prop) (E : Value → Shared → Prop), A.handled = none → s.heap.IsStrIter it ty z t i → z.cps[i]? = none →
      (∀ h', Heap.ExtBut it s.heap h' → Q none { s with heap := h' }) → wpAny (model P w) A (pyNext (.ref it)) Q E s)
    (hse : ∀ (A : Around) (s : Shared) (i : Nat) (Q : Value → Shared → Prop) (E : Value → Shared → Prop), s.heap.IsStrIter it ty z t i → Q (.ref it) s → wpAny (model P w) A (pyIter (.ref it)) Q E s) :
    Turn P w K (.Name nm np) (Its z) [it] it (fun i h => h.IsStrIter it ty z t i) where
  mem := by simp
  obj := fun i h st b hb => by
    have e : b = it := by simpa using hb
    subst e
    obtain ⟨o, ho, _, hd⟩ := st
    exact ⟨o, ho, fun v q => by rw [hd] at q; cases q⟩
  keep := fun i h h' st k => by
    obtain ⟨o, ho, r⟩ := st
    exact ⟨o, k it (by simp) o ho, r⟩
  item := by
    intro X hP hw hK hc i pins s σ H E I hf st hg
    subst hP hw hK
    obtain ⟨f0, f1, f2, f3, f4, f5⟩ := hf it (by simp)
    have hg' : i < z.cps.size := hg
    refine hi X.A s i z.cps[i] _ E st (by simp [hg']) fun h' st' sb => ?_
    have I1 : Inv X pins σ H { s with heap := h', toks := s.toks + 1 } := I.turned (fun b o hb e => (sb.2 b hb).trans e) f0 f1 f3 f4 f5
    exact ⟨_, rfl, wpAny_pure ⟨.str ⟨#[z.cps[i]]⟩, H, I1, ⟨_, rfl⟩, ⟨rfl, z.cps[i], by rw [Array.getElem?_toList]; simp [hg'], rfl⟩, st', fun b hb => (hf b hb).1⟩⟩
  done := by
    intro X hP hw hK hc i pins s σ H E I hf st hg
    subst hP hw hK
    obtain ⟨f0, f1, f2, f3, f4, f5⟩ := hf it (by simp)
    have hg' : z.cps.size ≤ i := hg
    exact he X.A s i _ E (I.ok.hd hc) st (by simp [hg']) fun h' eb => ⟨rfl, I.turned (t' := s.toks) (fun b o hb e => eb b o hb e) f0 f1 f3 f4 f5⟩
  self := fun A i s Q E st h => hse A s i Q E st h
theorem PI.or {tg iter : Expr} {te : TE} {f g : V → Hp → (It → Hp → Prop) → Prop} (h : PI X tg iter (fun σ H R => te σ H fun x H1 => f x H1 R)) (h' : PI X tg iter (fun σ H R => te σ H fun x H1 => g x H1 R)) (he : PE X iter te)
    (hf : ∀ pins s σ H x v R, Inv X pins σ H s → RelV x v → f x H R → wpAny (model X.prog X.w) X.A (pyIter v) (PIE X pins σ tg R) X.xe s)
    (hg : ∀ pins s σ H x v R, Inv X pins σ H s → RelV x v → g x H R → wpAny (model X.prog X.w) X.A (pyIter v) (PIE X pins σ tg R) X.xe s) :
    PI X tg iter (fun σ H R => te σ H fun x H1 => f x H1 R ∨ g x H1 R) := by
  intro pins s σ H R I hq
  refine thn (he pins s σ H _ I hq) fun v s1 ⟨x, H1, I1, r1, q1⟩ => ?_
  rcases q1 with q1 | q1
  · exact hf pins s1 σ H1 x v R I1 r1 q1
  · exact hg pins s1 σ H1 x v R I1 r1 q1
def repS (z : Str) (n : Int) : Str := ⟨(List.replicate n.toNat z.cps.toList).flatten.toArray⟩
theorem foldl_cps (a : Array Nat) : ∀ (k : Nat) (acc : Array Nat), (List.replicate k a).foldl (· ++ ·) acc = acc ++ ((List.replicate k a.toList).flatten).toArray
  | 0, acc => by simp
  | k + 1, acc => by
    rw [List.replicate_succ, List.foldl_cons, foldl_cps a k, List.replicate_succ, List.flatten_cons]
    apply Array.ext'
    simp [List.append_assoc]
theorem mul_repS {z : Str} {n : Int} : Txt.mul z n = repS z n := by
  unfold Txt.mul repS
  by_cases h : n < 1
  · rw [if_pos h, show n.toNat = 0 by omega]; rfl
  rw [if_neg h]
  split
  · rename_i q
    obtain ⟨cps⟩ := z
    rw [Bool.or_eq_true] at q
    rcases q with q | q
    · have : n = 1 := by simpa using q
      subst this
      show (⟨cps⟩ : Str) = ⟨([cps.toList].flatten).toArray⟩
      simp
    · have : (⟨cps⟩ : Str).length = 0 := by simpa using q
      have : cps.size = 0 := this
      have e : cps.toList = [] := List.eq_nil_of_length_eq_zero (by simpa using this)
      have e2 : (List.replicate n.toNat cps.toList).flatten = [] := by rw [e]; simp
      show (⟨cps⟩ : Str) = ⟨((List.replicate n.toNat cps.toList).flatten).toArray⟩
      rw [e2, ← e]
  · rw [foldl_cps]; simp
theorem op_mul_str : OpR X (binaryOp .Mult) (fun x y H Q => ∃ z n, x = .str z ∧ y = .int n ∧ 0 ≤ n ∧ n ≤ 4000 ∧ z.length ≤ 4000 ∧ Q (.str (repS z n)) H) := by
  intro pins s σ H x y v u Q I rx ry h
  obtain ⟨z, n, rfl, rfl, h0, h1, hz, q⟩ := h
  obtain ⟨t, rfl⟩ := rx
  obtain ⟨t', rfl⟩ := ry
  rw [← mul_repS] at q
  have hs : sizeLine = 16777216 := sizeLine_eq
  have hm : z.length * n.toNat ≤ 4000 * 4000 := Nat.mul_le_mul hz (by omega)
  refine SB.mul ⟨by rw [decide_eq_false (by omega), decide_eq_false (by omega)]; rfl, fun h _ hh => ?_, fun _ _ => ?_⟩ fun t' k => ⟨.str _, H, I.tok k, ⟨t', rfl⟩, q⟩
  · have hn : 0 < n := by
      rcases Int.lt_or_eq_of_le h0 with z | z
      · exact z
      · subst z; trivial
    have : (z.length : Int) ≤ (2 ^ 63 - 1) / n := Int.le_ediv_of_mul_le hn (Int.le_trans (Int.mul_le_mul (Int.ofNat_le.mpr hz) h1 h0 (by omega)) (by decide))
    omega
  · unfold Builtin.Str.tooLong
    rw [hs]
    exact decide_eq_false (by omega)
theorem op_le_str : OpR X (compareOp .LtE) (fun x y H Q => ∃ i j, x = .str i ∧ y = .str j ∧ Q (.bl (!decide (j.cps.toList < i.cps.toList))) H) := by
  intro pins s σ H x y v u Q I rx ry h
  obtain ⟨i, j, rfl, rfl, q⟩ := h
  obtain ⟨t, rfl⟩ := rx
  obtain ⟨t', rfl⟩ := ry
  exact P.le_str ⟨.bl _, H, I, rfl, q⟩
end
end L2
set_option maxHeartbeats 4000000
namespace L2
open PySem PySem.Spec PyProof.Rows
theorem closure_go {env : Env} : ∀ (names : List (Str × NameKind)) (acc : List (Str × Addr)), (∀ p ∈ names, p.2 = .free → ∃ c, env.cells.lookup p.1 = some c) → (∀ x c, acc.lookup x = some c → env.cells.lookup x = some c) →
    ∃ cl, (forIn names acc fun (x : Str × NameKind) (r : List (Str × Addr)) => if (x.2 == NameKind.free) = true then (cellOf env x.1 >>= fun c => (pure (ForInStep.yield ((x.1, c) :: r)) : Sem _)) else (pure (ForInStep.yield r) : Sem _)) = pure cl ∧
      (∀ x c, cl.lookup x = some c → env.cells.lookup x = some c) ∧ (∀ x c, acc.lookup x = some c → ∃ c', cl.lookup x = some c') ∧ ∀ x, (x, NameKind.free) ∈ names → ∃ c, cl.lookup x = some c
  | [], acc, _, h2 => ⟨acc, rfl, h2, fun x c e => ⟨c, e⟩, fun _ z => nomatch z⟩
  | (n, k) :: r, acc, h1, h2 => by
    rw [List.forIn_cons]
    by_cases hk : k = .free
    · subst hk
      obtain ⟨c, hc⟩ := h1 (n, .free) List.mem_cons_self rfl
      have e : cellOf env n = pure c := by unfold cellOf; rw [hc]
      have sub : ∀ x c', ((n, c) :: acc).lookup x = some c' → env.cells.lookup x = some c' := fun x c' q => by
        rw [List.lookup_cons] at q
        cases hx : x == n with
        | true => rw [hx] at q; cases q; rw [eq_of_beq hx]; exact hc
        | false => rw [hx] at q; exact h2 x c' q
      obtain ⟨cl, q1, q2, q3, q4⟩ := closure_go r ((n, c) :: acc) (fun p hp => h1 p (List.mem_cons_of_mem _ hp)) sub
      refine ⟨cl, ?_, q2, fun x c' e' => ?_, fun x hx => ?_⟩
      · show ((if (NameKind.free == NameKind.free) = true then (cellOf env n >>= fun c => pure (ForInStep.yield ((n, c) :: acc))) else pure (ForInStep.yield acc)) >>= _) = _
        rw [if_pos (show (NameKind.free == NameKind.free) = true by decide), e, pure_bind, pure_bind]; exact q1
      · cases hx : x == n with
        | true => exact q3 x c (by rw [List.lookup_cons, hx])
        | false => exact q3 x c' (by rw [List.lookup_cons, hx]; exact e')
      · rcases List.mem_cons.mp hx with z | z
        · cases z; exact q3 n c (by rw [List.lookup_cons, beq_self_eq_true])
        · exact q4 x z
    · have hb : (k == NameKind.free) = false := by simpa using hk
      obtain ⟨cl, q1, q2, q3, q4⟩ := closure_go r acc (fun p hp => h1 p (List.mem_cons_of_mem _ hp)) h2
      refine ⟨cl, ?_, q2, q3, fun x hx => ?_⟩
      · show ((if (k == NameKind.free) = true then _ else pure (ForInStep.yield acc)) >>= _) = _
        rw [if_neg (by rw [hb]; exact Bool.false_ne_true), pure_bind]; exact q1
      · rcases List.mem_cons.mp hx with z | z
        · cases z; exact absurd rfl hk
        · exact q4 x z
theorem closure_of {env : Env} {scope : Scope} (h : ∀ p ∈ scope.names, p.2 = .free → ∃ c, env.cells.lookup p.1 = some c) :
    ∃ cl, closureFor scope env = pure cl ∧ (∀ x c, cl.lookup x = some c → env.cells.lookup x = some c) ∧ ∀ x, (x, NameKind.free) ∈ scope.names → ∃ c, cl.lookup x = some c := by
  obtain ⟨cl, q1, q2, _, q4⟩ := closure_go scope.names [] h (fun _ _ z => nomatch z)
  refine ⟨cl, ?_, q2, q4⟩
  unfold closureFor
  dsimp only
  rw [q1]
  rfl
theorem lookup_mem' : ∀ {l : List (Str × NameKind)} {x : Str} {k : NameKind}, l.lookup x = some k → (x, k) ∈ l
  | (n, k') :: r, x, k, h => by
    rw [List.lookup_cons] at h
    cases hx : x == n with
    | true => rw [hx] at h; cases h; rw [eq_of_beq hx]; exact List.mem_cons_self
    | false => rw [hx] at h; exact List.mem_cons_of_mem _ (lookup_mem' h)
theorem relabel_cell {scope : Scope} {env : Env} {x : Str} (hc : ∀ p ∈ scope.names, p.2 ≠ .cell) (h : (relabel scope env).names.lookup x = some .cell ∨ (relabel scope env).names.lookup x = some .free) : (x, NameKind.free) ∈ scope.names := by
  have : ∃ k, (x, k) ∈ (relabel scope env).names ∧ (k = .cell ∨ k = .free) := by
    rcases h with h | h
    · exact ⟨_, lookup_mem' h, .inl rfl⟩
    · exact ⟨_, lookup_mem' h, .inr rfl⟩
  obtain ⟨k, hm, hk⟩ := this
  obtain ⟨⟨n, k0⟩, hp, e⟩ := List.mem_map.mp hm
  dsimp only at e
  split at e
  · rename_i q
    cases e
    have : k0 = .free := by
      rw [Bool.and_eq_true, Bool.and_eq_true] at q
      exact eq_of_beq q.1.1
    rw [this] at hp; exact hp
  · cases e
    rcases hk with rfl | rfl
    · exact absurd rfl (hc _ hp)
    · exact hp
theorem relabel_free {env : Env} : ∀ {names : List (Str × NameKind)} {x : Str}, names.lookup x = some .free →
    (names.map fun (n, k) => if (k == NameKind.free && env.scope.kind == .function && env.kindOf n == some .cell) then (n, NameKind.cell) else (n, k)).lookup x ≠ some .local
  | [], _, h => nomatch h
  | (n, k) :: r, x, h => by
    rw [List.map_cons]
    rw [List.lookup_cons] at h
    dsimp only
    cases hx : x == n with
    | true =>
      rw [hx] at h
      cases h
      split
      · rw [List.lookup_cons, hx]; intro z; cases z
      · rw [List.lookup_cons, hx]; intro z; cases z
    | false =>
      rw [hx] at h
      split
      · rw [List.lookup_cons, hx]; exact relabel_free h
      · rw [List.lookup_cons, hx]; exact relabel_free h
structure CP where
  cl : List (Str × Addr)
  C : Addr
  s : Shared
  H : Hp
  fp : List Addr
def Cx.compC (X : Cx) (N : List Str) (scope : Scope) (c : CP) : Cx :=
  { X with N := N, s₀ := c.s, H₀ := c.H, env := compEnvC scope c.cl c.C X.env, outer := X.stack, ex := c.fp, fn := fun _ => false, pn := [], xe := fun _ _ => False }
abbrev Cx.comp (X : Cx) (N : List Str) (scope : Scope) (cl : List (Str × Addr)) (C : Addr) (s : Shared) (H : Hp) (fp : List Addr) : Cx := X.compC N scope ⟨cl, C, s, H, fp⟩
section
variable {X : Cx} {pins : List (Addr × Obj)} {σ : St} {H : Hp} {s : Shared} {N : List Str} {scope : Scope} {cl : List (Str × Addr)} {C : Addr} {fp : List Addr}
theorem Inv.compOk (I : Inv X pins σ H s) (hf : ∀ b ∈ fp, FpOk X pins H b) (hlt : ∀ b ∈ fp, b < s.heap.objs.size) (hC : s.heap.objs.size ≤ C) (hkind : scope.kind = .function) (hcell : ∀ p ∈ scope.names, p.2 ≠ .cell)
    (h1 : ∀ x c, cl.lookup x = some c → X.env.cells.lookup x = some c) (h2 : ∀ x, (x, NameKind.free) ∈ scope.names → ∃ c, cl.lookup x = some c) : (X.comp N scope cl C s H fp).Ok where
  mod := I.ok.mod
  kind := hkind
  glob := I.ok.glob
  blt := I.ok.blt
  above := hC
  inj := fun x y c e1 e2 => I.ok.inj x y c (h1 x c e1) (h1 y c e2)
  has := fun x h => h2 x (relabel_cell hcell h)
  cab := fun _ _ z => nomatch z
  hd := I.ok.hd
  frames := I.ok.frames
  stk := .inl rfl
  exf := fun b hb => ⟨fun z => Nat.lt_irrefl _ (Nat.lt_of_lt_of_le (hlt b hb) (by rw [z]; exact hC)), fun x c e => (hf b hb).2.2.2.2.1 x c (h1 x c e)⟩
  bs := I.bs
  bsz := Nat.le_trans I.ok.bsz I.sz
  noex := fun b o e hb => by
    rcases (hf b hb).2.2.2.1 with z | z
    · exact I.ok.noex b o e z
    · exact absurd (Nat.lt_of_lt_of_le (Heap.lt_size e) (Nat.le_trans I.ok.bsz z)) (Nat.lt_irrefl _)
  exfs := fun b hb z => by
    rcases List.mem_cons.mp (I.stkSub b z) with e | e
    · exact (hf b hb).2.1 e
    · exact (hf b hb).2.2.1 e
  funs := I.stack
  frf := I.stkFree
end
def compSt (cap : List (Option Nat)) (σ : St) : St := cap.map fun o => match o with
  | none => none
  | some j => (σ[j]?).join
def PIfs (X : Cx) (ifs : List Expr) (t : TT) : Prop := ∀ (pins : List (Addr × Obj)) (s : Shared) (σ : St) (H : Hp) (Q : Bool → Hp → Prop), Inv X pins σ H s → t σ H Q →
  wpAny (model X.prog X.w) X.A (forIn ifs true fun (c : Expr) (r : Bool) => if r = true then (PySem.isTrue c X.env (eval c X.env) >>= fun ok => (pure (ForInStep.yield ok) : Sem _)) else (pure (ForInStep.yield r) : Sem _)) (TP X pins σ Q) X.xe s
def tTrue : TT := fun _ H Q => Q true H
theorem pf_nil {X : Cx} : PIfs X [] tTrue := fun pins s σ H Q I h => wpAny_tests_nil ⟨H, I, h⟩
theorem comp_loop {prog : Program} {w : World} {A : Around} {R : Result → Shared → Prop} {s : Shared} {elt tg iter : Expr} {ifs : List Expr} {scope : Scope} {pos : Pos} {it acc : Value} {env : Env} (J : Nat → Shared → Prop)
    (turn : ∀ n s, J n s → wpAny (model prog w) A (pyNext it) (fun r s₁ => match r with
      | none => R (.ok .next) s₁
      | some v => wpAny (model prog w) A (letOwnedTupleGo tg it v) (fun _ s₂ => wpAny (model prog w) A (assign tg env v) (fun _ s₃ =>
          wpAny (model prog w) A (forIn ifs true fun (c : Expr) (r : Bool) => if r = true then (PySem.isTrue c env (eval c env) >>= fun ok => (pure (ForInStep.yield ok) : Sem _)) else (pure (ForInStep.yield r) : Sem _)) (fun ok s₄ =>
            if ok = true then wpAny (model prog w) A (eval elt env) (fun x s₅ => wpAny (model prog w) A (call (.builtin "list.append") [acc, x]) (fun _ s₆ => ∃ m, m < n ∧ J m s₆) (fun _ _ => False) s₅) (fun _ _ => False) s₄
            else ∃ m, m < n ∧ J m s₄) (fun _ _ => False) s₃) (fun _ _ => False) s₂) (fun _ _ => False) s₁) (fun _ _ => False) s)
    (n : Nat) (h : J n s) : codeAny (model prog w) A (.compLoop (.ListComp elt [⟨tg, iter, ifs, 0⟩] scope pos) 0 it acc env) R s := by
  have off : ∀ {α : Type} {t : Sem α} {Q : α → Shared → Prop} {E : Value → Shared → Prop} {s : Shared}, wpAny (model prog w) A t Q (fun _ _ => False) s → wpAny (model prog w) A t Q E s := fun h => wpAny_mono h (fun _ _ q => q) fun _ _ z => z.elim
  refine codeAny_loop rfl J (fun n s hJ => ?_) n h
  show wpAny _ A ((compTurn (.ListComp elt [⟨tg, iter, ifs, 0⟩] scope pos) 0 it acc env).onRaise (fun x => do noteFrame x env; theTreesLotGoes x)) _ _ s
  refine wpAny_noted ?_
  rw [compTurn_list]
  refine wpAny_bind (wpAny_standAt (wpAny_bind (off (thn (turn n s hJ) fun r s₁ h₁ => ?_))))
  cases r with
  | none => exact wpAny_pure h₁
  | some v =>
    refine wpAny_bind (off (thn h₁ fun _ s₂ h₂ => wpAny_bind (off (thn h₂ fun _ s₃ h₃ => wpAny_bind (off (thn h₃ fun ok s₄ h₄ => ?_))))))
    cases ok with
    | false => exact wpAny_pure ⟨rfl, h₄⟩
    | true => exact wpAny_bind (wpAny_bind (off (thn h₄ fun x s₅ h₅ => wpAny_bind (off (thn h₅ fun _ s₆ h₆ => wpAny_pure (wpAny_pure ⟨rfl, h₆⟩))))))
def LCgo (J : It) (g : TG) (tt : TT) (te : TE) (D : Addr) (σ : St) (H : Hp) (Q : VK) : Prop := ∃ W : Nat → Nat → St → Hp → Prop, (∃ m, W 0 m σ H) ∧ ∀ i m σc Hc, W i m σc Hc →
  (J.stop i Hc ∧ Q (.ref D) Hc) ∨ (J.go i Hc ∧ ∃ N : St → Hp → Prop, (∀ σ' H', N σ' H' → ∃ m', m' < m ∧ W (i + 1) m' σ' H') ∧ ∀ x H', J.yld i Hc x H' → g x σc H' fun σ2 H2 => tt σ2 H2 fun b H3 =>
    if b = true then te σ2 H3 fun v H4 => ∃ ys, H4 D = some (.lst ys) ∧ ys.length < sizeLine ∧ N σ2 (upd H4 D (.lst (ys ++ [v]))) else N σ2 H3)
def tLC (cap : List (Option Nat)) (wi : TI) (g : CP → TG) (tt : CP → TT) (te : CP → TE) : TE := fun σ H Q => wi σ H fun J H1 => ∀ D, H1 D = none → ∀ c : CP, LCgo J (g c) (tt c) (te c) D (compSt cap σ) (upd H1 D (.lst [])) Q
section
variable {X : Cx} {N : List Str} {scope : Scope} {tg elt iter : Expr} {ifs : List Expr} {pos : Pos} {wi : TI} {g : CP → TG} {tt : CP → TT} {te : CP → TE} {cap : List (Option Nat)}
structure CompParts (X : Cx) (N : List Str) (scope : Scope) (tg : Expr) (ifs : List Expr) (elt : Expr) (g : CP → TG) (tt : CP → TT) (te : CP → TE) : Prop where
  tg : ∀ c, PG (X.compC N scope c) tg (g c)
  ifs : ∀ c, PIfs (X.compC N scope c) ifs (tt c)
  elt : ∀ c, PE (X.compC N scope c) elt (te c)
def CapOk (X : Cx) (N : List Str) (scope : Scope) (cap : List (Option Nat)) : Prop := cap.length = N.length ∧ ∀ (i : Nat) (x : Str) (j : Nat), N[i]? = some x → cap[i]? = some (some j) → X.N[j]? = some x ∧ X.env.kindOf x = some .cell ∧ scope.names.lookup x = some .free
theorem comp_block (hc : X.calm = true) (hkind : scope.kind = .function) (hcell : ∀ p ∈ scope.names, p.2 ≠ .cell) (hcap : CapOk X N scope cap) (B : CompParts X N scope tg ifs elt g tt te) {cl : List (Str × Addr)}
    (h1 : ∀ x c, cl.lookup x = some c → X.env.cells.lookup x = some c) (h2 : ∀ x, (x, NameKind.free) ∈ scope.names → ∃ c, cl.lookup x = some c) (hfk : X.env.scope.kind = .function)
    {pins : List (Addr × Obj)} {σ : St} {H : Hp} {s : Shared} {it : Addr} {fp : List Addr} {tn : Nat → Heap → Prop} {J : It} {Q : VK} {E : Value → Shared → Prop} {RR : Value → Addr → Result → Shared → Prop}
    (I : Inv X pins σ H s) (T : Turn X.prog X.w X.K tg J fp it tn) (st : tn 0 s.heap) (f : ∀ b ∈ fp, FpOk X pins H b)
    (h : ∀ D, H D = none → ∀ c : CP, LCgo J (g c) (tt c) (te c) D (compSt cap σ) (upd H D (.lst [])) Q)
    (hR : ∀ D C H' s' m, Inv X pins σ H' s' → Q (.ref D) H' → s'.heap.Ns C m → s.heap.objs.size ≤ C → H' C = none → RR (.ref D) C (.ok .next) s') :
    wpAny (model X.prog X.w) X.A (newList []) (fun acc s₃ => wpAny (model X.prog X.w) X.A (newFunctionEnv scope X.env.globals cl [] X.env.qual none .none (some X.env)) (fun cenv s₄ =>
      codeAny (model X.prog X.w) X.A (.compStart (.ListComp elt [⟨tg, iter, ifs, 0⟩] scope pos) 0 (.ref it) acc { cenv with scope := relabel scope X.env }) (RR acc cenv.locals) s₄) E s₃) E s := by
  have hlt : ∀ b ∈ fp, b < s.heap.objs.size := fun b hb => by obtain ⟨o, e, _⟩ := T.obj _ _ st b hb; exact Heap.lt_size e
  refine wpAny_newObj_type (wpAny_newFunctionEnv hcell (by intro y hy; simp at hy) (fun h₁ hns₁ hsb₁ => ?_) hkind)
  dsimp only at hns₁ hsb₁ ⊢
  generalize hD : s.heap.push { cls := .type "list", dict := none, data := .seq ([] : List Value).toArray } = G at hns₁ hsb₁ ⊢
  have hC : G.objs.size = s.heap.objs.size + 1 := by rw [← hD, Heap.size_push]
  have hCle : s.heap.objs.size ≤ G.objs.size := by rw [hC]; exact Nat.le_succ _
  have hDC : s.heap.objs.size ≠ G.objs.size := by rw [hC]; exact Nat.ne_of_lt (Nat.lt_succ_self _)
  have old : ∀ b o, s.heap.get? b = some o → h₁.get? b = some o := fun b o e =>
    hsb₁.extBut b o (by have := Heap.lt_size e; rw [hC]; exact Nat.ne_of_lt (Nat.lt_succ_of_lt this)) (Heap.get?_push_of_some _ (hD ▸ Heap.get?_push_of_some _ e))
  have hacc : h₁.get? s.heap.objs.size = some { cls := .type "list", dict := none, data := .seq ([] : List Value).toArray } := hsb₁.extBut _ _ hDC (Heap.get?_push_of_some _ (hD ▸ Heap.get?_push_size _ rfl))
  have hDn : H s.heap.objs.size = none := I.hok.fresh (Nat.le_refl _)
  have hCn : H G.objs.size = none := I.hok.fresh hCle
  obtain ⟨W, ⟨m0, w0⟩, turn⟩ := h s.heap.objs.size hDn ⟨cl, G.objs.size, s, H, fp⟩
  have ok := I.compOk (N := N) (C := G.objs.size) f hlt hCle hkind hcell h1 h2
  have tup' : ∀ b xs, H b = some (.tup xs) → upd H s.heap.objs.size (.lst []) b = some (.tup xs) := fun b xs e => by rw [upd_ne (ne_of_none e hDn)]; exact e
  have hok1 : HOk X.prog X.w (upd H s.heap.objs.size (.lst [])) h₁ := I.hok.laid old (Nat.le_refl _) ⟨Nat.zero_le _, [], _, .nil, hacc⟩
  have I1 : Inv (X.comp N scope cl G.objs.size s H fp) [] (compSt cap σ) (upd H s.heap.objs.size (.lst [])) { s with heap := h₁, toks := s.toks + ([] : List (Str × Value)).length } := by
    refine ⟨ok, rfl, I.bare, Un.laid old (Nat.le_refl _) hDn, ⟨_, hns₁, fun i x v e1 e2 e3 => ?_⟩, fun x c e => ?_, ?_, fun x c e => ?_, (fun p hp => absurd (show p ∈ ([] : List (Addr × Obj)) from hp) (by simp)), hok1, ?_⟩
    · unfold compSt at e2
      rw [List.getElem?_map] at e2
      cases hj : cap[i]? with
      | none => rw [hj] at e2; cases e2
      | some o =>
        cases o with
        | none => rw [hj] at e2; cases e2
        | some j =>
          rw [hj] at e2
          have e2' : (σ[j]?).join = some v := Option.some.inj e2
          have e4 : σ[j]? = some (some v) := by
            cases q : σ[j]? with
            | none => rw [q] at e2'; cases e2'
            | some y => rw [q] at e2'; exact congrArg some e2'
          obtain ⟨c1, c2, c3⟩ := hcap.2 i x j e1 hj
          obtain ⟨m, hn, hl⟩ := I.loc
          obtain ⟨u, r, l⟩ := hl j x v c1 e4 (.inr (.inl c2))
          refine ⟨u, r, ?_⟩
          rcases l with ⟨k, _⟩ | ⟨_, c, hc', z⟩
          · rw [c2] at k; cases k
          · have fm : (x, NameKind.free) ∈ scope.names := lookup_mem' c3
            obtain ⟨c', hc2⟩ := h2 x fm
            have : c' = c := by have := h1 x c' hc2; rw [hc'] at this; exact (Option.some.inj this).symm
            subst this
            obtain ⟨oc, hoc, hd⟩ := z
            refine .inr ⟨?_, c', hc2, ⟨oc, old _ _ hoc, hd⟩⟩
            rcases e3 with q | q | q
            · exact absurd q (relabel_free c3)
            · exact .inl q
            · exact .inr q
    · obtain ⟨v, oc, hoc, hd⟩ := I.cell x c (h1 x c e)
      exact ⟨v, oc, old _ _ hoc, hd⟩
    · rw [show (X.comp N scope cl G.objs.size s H fp).env.locals = G.objs.size from rfl, upd_ne (Ne.symm hDC)]; exact hCn
    · have z := I.freeC x c (h1 x c e)
      obtain ⟨v, oc, hoc, hd⟩ := I.cell x c (h1 x c e)
      rw [upd_ne (Nat.ne_of_lt (Heap.lt_size hoc))]; exact z
    · unfold compSt; rw [List.length_map]; exact hcap.1
  have fok : ∀ {H' : Hp}, (∀ b ∈ fp, H' b = none) → ∀ b ∈ fp, FpOk (X.comp N scope cl G.objs.size s H fp) [] H' b := fun hn b hb =>
    ⟨hn b hb, (ok.exf b hb).1, ok.exfs b hb, .inl hb, (ok.exf b hb).2, (fun p hp => absurd (show p ∈ ([] : List (Addr × Obj)) from hp) (by simp))⟩
  have st1 : tn 0 h₁ := T.keep _ _ _ st fun b _ o e => old b o e
  have fr1 : ∀ b ∈ fp, upd H s.heap.objs.size (.lst []) b = none := fun b hb => by rw [upd_ne (Nat.ne_of_lt (hlt b hb))]; exact (f b hb).1
  have loop : ∀ s₃ : Shared, s₃ = { s with heap := h₁, toks := s.toks + ([] : List (Str × Value)).length } →
      codeAny (model X.prog X.w) X.A (.compLoop (.ListComp elt [⟨tg, iter, ifs, 0⟩] scope pos) 0 (.ref it) (.ref s.heap.objs.size) (compEnvC scope cl G.objs.size X.env)) (RR (.ref s.heap.objs.size) G.objs.size) s₃ := by
    rintro s₃ rfl
    refine comp_loop (fun n s' => ∃ i σ' H', Inv (X.comp N scope cl G.objs.size s H fp) [] σ' H' s' ∧ tn i s'.heap ∧ (∀ b ∈ fp, H' b = none) ∧ W i n σ' H') ?_ m0 ⟨0, _, _, I1, st1, fr1, w0⟩
    rintro n s3 ⟨i, σ3, H3, I3, st3, fr3, w3⟩
    rcases turn i n σ3 H3 w3 with ⟨stop, q⟩ | ⟨go, N', hN, step⟩
    · refine thn (T.done (X.comp N scope cl G.objs.size s H fp) rfl rfl rfl hc i [] s3 σ3 H3 _ I3 (fok fr3) st3 stop) fun r s4 ⟨hr, I4⟩ => ?_
      subst hr
      obtain ⟨m, hn, _⟩ := I4.loc
      refine hR _ _ H3 s4 m (I.call' (ch := fp) I4.os I4.base I4.hok I4.bare fun b hb => ?_) q hn hCle I4.free
      obtain ⟨_, z1, _, z3, z4, z5⟩ := f b hb
      exact ⟨z3, z1, z4, z5⟩
    · refine thn (T.item (X.comp N scope cl G.objs.size s H fp) rfl rfl rfl hc i [] s3 σ3 H3 _ I3 (fok fr3) st3 go) fun r s4 ⟨u, hr, h4⟩ => ?_
      subst hr
      refine thn h4 fun _ s5 ⟨x, H5, I5, r5, y5, st5, fr5⟩ => ?_
      have I5' := I5.pinned (fok fr5) (T.obj _ _ st5)
      refine thn (B.tg ⟨cl, G.objs.size, s, H, fp⟩ _ s5 σ3 H5 x u _ I5' r5 (step x H5 y5)) fun _ s6 ⟨σ6, H6, I6, q6⟩ => ?_
      refine thn (B.ifs ⟨cl, G.objs.size, s, H, fp⟩ _ s6 σ6 H6 _ I6 q6) fun ok7 s7 ⟨H7, I7, q7⟩ => ?_
      have again : ∀ {s8 : Shared} {H8 : Hp}, Inv (X.comp N scope cl G.objs.size s H fp) ([] ++ pinsAt fp s5.heap) σ6 H8 s8 → N' σ6 H8 → ∃ m, m < n ∧ ∃ i σ' H', Inv (X.comp N scope cl G.objs.size s H fp) [] σ' H' s8 ∧ tn i s8.heap ∧ (∀ b ∈ fp, H' b = none) ∧ W i m σ' H' := fun {s8 H8} I8 n8 => by
        obtain ⟨m', hm, w8⟩ := hN σ6 H8 n8
        have pn : ∀ b o, b ∈ fp → s5.heap.get? b = some o → s8.heap.get? b = some o ∧ H8 b = none := fun b o hb e =>
          let z := I8.pin (b, o) (List.mem_append_right _ (List.mem_append_right _ (mem_pinsAt hb e))); ⟨z.1, z.2.1⟩
        refine ⟨m', hm, i + 1, σ6, H8, I8.unpinned, T.keep _ _ _ st5 fun b hb o e => (pn b o hb e).1, fun b hb => ?_, w8⟩
        obtain ⟨o, e, d⟩ := T.obj _ _ st5 b hb
        exact (pn b o hb e).2
      cases ok7 with
      | false => rw [if_neg Bool.false_ne_true] at q7 ⊢; exact again I7 q7
      | true =>
        rw [if_pos rfl] at q7 ⊢
        refine thn (B.elt ⟨cl, G.objs.size, s, H, fp⟩ _ s7 σ6 H7 _ I7 q7) fun v s8 ⟨y, H8, I8, r8, ys, hy, hs, n8⟩ => ?_
        refine thn (mt_append (X := X.comp N scope cl G.objs.size s H fp) _ s8 σ6 H8 (.ref s.heap.objs.size) [y] (.ref s.heap.objs.size) [v] (fun z H9 => z = .non ∧ H9 = upd H8 s.heap.objs.size (.lst (ys ++ [y]))) I8 rfl (.cons r8 .nil) ⟨_, ys, y, rfl, rfl, hy, hs, rfl, rfl⟩) fun _ s9 ⟨z, H9, I9, _, _, e9⟩ => ?_
        subst e9
        exact again I9 n8
  exact codeAny_compStart_list (loop _ rfl) (T.self _ 0 _ _ _ st1 (loop _ rfl))
end
end L2
set_option maxHeartbeats 4000000
namespace L2
open PySem PySem.Spec PyProof.Rows
section
variable {X : Cx} {N : List Str} {scope : Scope} {tg elt iter : Expr} {ifs : List Expr} {pos : Pos} {wi : TI} {g : CP → TG} {tt : CP → TT} {te : CP → TE} {cap : List (Option Nat)}
structure CompSc (X : Cx) (N : List Str) (scope : Scope) (cap : List (Option Nat)) : Prop where
  kind : scope.kind = .function
  cell : ∀ p ∈ scope.names, p.2 ≠ .cell
  names : ∀ p ∈ scope.names, p.2 = .local → scope.names.lookup p.1 = some .local
  free : ∀ p ∈ scope.names, p.2 = .free → X.env.kindOf p.1 = some .cell ∨ X.env.kindOf p.1 = some .free
  cap : CapOk X N scope cap
def compScB (XN : List Str) (xsc : Scope) (N : List Str) (scope : Scope) (cap : List (Option Nat)) : Bool :=
  scope.kind == .function && scope.names.all (fun p => p.2 != .cell) && scope.names.all (fun p => p.2 != .local || scope.names.lookup p.1 == some .local) &&
  scope.names.all (fun p => p.2 != .free || (xsc.names.lookup p.1 == some .cell || xsc.names.lookup p.1 == some .free)) && cap.length == N.length &&
  (List.range N.length).all fun i => match N[i]?, cap[i]? with
    | some x, some (some j) => XN[j]? == some x && xsc.names.lookup x == some .cell && scope.names.lookup x == some .free
    | _, _ => true
theorem compSc_of (h : compScB X.N X.env.scope N scope cap = true) : CompSc X N scope cap := by
  unfold compScB at h
  simp only [Bool.and_eq_true] at h
  obtain ⟨⟨⟨⟨⟨h1, h2⟩, h3⟩, h4⟩, h5⟩, h6⟩ := h
  refine ⟨eq_of_beq h1, fun p hp z => ?_, fun p hp z => ?_, fun p hp z => ?_, eq_of_beq h5, fun i x j e1 e2 => ?_⟩
  · have := List.all_eq_true.mp h2 p hp
    rw [z] at this; cases this
  · have := List.all_eq_true.mp h3 p hp
    rw [z] at this
    simpa using this
  · have := List.all_eq_true.mp h4 p hp
    rw [z] at this
    have e : (NameKind.free != NameKind.free) = false := by decide
    rw [e, Bool.false_or, Bool.or_eq_true] at this
    rcases this with q | q
    · exact .inl (eq_of_beq q)
    · exact .inr (eq_of_beq q)
  · have hi : i < N.length := (List.getElem?_eq_some_iff.mp e1).1
    have := List.all_eq_true.mp h6 i (List.mem_range.mpr hi)
    rw [e1, e2] at this
    simp only [Bool.and_eq_true] at this
    exact ⟨eq_of_beq this.1.1, eq_of_beq this.1.2, eq_of_beq this.2⟩
theorem CompSc.clo {pins : List (Addr × Obj)} {σ : St} {H : Hp} {s : Shared} (S : CompSc X N scope cap) (I : Inv X pins σ H s) :
    ∃ cl, closureFor scope X.env = pure cl ∧ (∀ x c, cl.lookup x = some c → X.env.cells.lookup x = some c) ∧ ∀ x, (x, NameKind.free) ∈ scope.names → ∃ c, cl.lookup x = some c :=
  closure_of fun p hp z => I.ok.has p.1 (S.free p hp z)
theorem Inv.letGo {pins : List (Addr × Obj)} {σ : St} {H H2 : Hp} {s s2 : Shared} {C : Addr} {h' : Heap} (I2 : Inv X pins σ H2 s2) (I : Inv X pins σ H s) (hC : s2.heap.objs.size ≤ C) (hn : H C = none) (hs : Heap.SameBut C s.heap h') : Inv X pins σ H { s with heap := h' } := by
  obtain ⟨f0, f1, f2, f3, f4, f5⟩ := I2.fpOk (H' := H) hC hn
  exact I.turned (t' := s.toks) (fun b o hb e => hs.extBut b o hb e) f0 f1 f3 f4 f5
theorem pe_lc (S : CompSc X N scope cap) (hc : X.calm = true) (hi : PI X tg iter wi) (B : CompParts X N scope tg ifs elt g tt te) (hs : ∀ x, foldedSetIterable iter X.env x = pure x := by intro _; rfl) :
    PE X (.ListComp elt [⟨tg, iter, ifs, 0⟩] scope pos) (tLC cap wi g tt te) := by
  intro pins s σ H Q I h
  obtain ⟨cl, hcl, h1, h2⟩ := S.clo I
  rw [eval_ListComp]
  refine wpAny_comprehension_free (use := none) rfl hs hcl S.kind S.names (thn (hi pins s σ H _ I h) fun v s1 q1 => thn q1 fun itv s2 ⟨it, fp, tn, J, H2, e, I2, T, st, f, q⟩ => ?_)
  subst e
  refine comp_block (RR := fun acc C => compPost (model X.prog X.w) X.A X.xe none (EP X pins σ Q) acc C) hc S.kind S.cell S.cap B h1 h2 I2.ok.kind I2 T st f q fun D C H' s' m I' q' hn hC hCn => ?_
  exact ⟨m, hn, fun h' hs' => ⟨.ref D, H', I2.letGo I' hC hCn hs', rfl, q'⟩⟩
end
structure Walk (J : It) (xs : List V) (Ok : Hp → Prop) : Prop where
  go : ∀ i H, i < xs.length → Ok H → J.go i H
  stop : ∀ i H, xs.length ≤ i → Ok H → J.stop i H
  yld : ∀ i H x H', i < xs.length → Ok H → J.yld i H x H' → H' = H ∧ xs[i]? = some x
theorem walk_list {K : PySem.W.Frag} {a : Addr} {xs : List V} : Walk (Itl K a) xs (fun H => SqL K H a xs) where
  go := fun i H h q => ⟨xs, xs[i], q, by simp [h]⟩
  stop := fun i H h q => ⟨xs, q, h⟩
  yld := fun i H x H' _ q y => ⟨y.1, y.2 xs q⟩
theorem walk_tup {K : PySem.W.Frag} {a : Addr} {xs : List V} : Walk (Itt K a) xs (fun H => SqT K H a xs) where
  go := fun i H h q => ⟨xs, xs[i], q, by simp [h]⟩
  stop := fun i H h q => ⟨xs, q, h⟩
  yld := fun i H x H' _ q y => ⟨y.1, y.2 xs q⟩
def chr1 (c : Nat) : V := .str ⟨#[c]⟩
theorem walk_str {z : Str} : Walk (Its z) (z.cps.toList.map chr1) (fun _ => True) where
  go := fun i H h _ => by
    rw [List.length_map, Array.length_toList] at h
    exact h
  stop := fun i H h _ => by
    rw [List.length_map, Array.length_toList] at h
    exact h
  yld := fun i H x H' _ _ y => by
    obtain ⟨e, c, hc, rfl⟩ := y
    exact ⟨e, by rw [List.getElem?_map, hc]; rfl⟩
def upto (lo : Int) (n : Nat) : List V := (List.range n).map fun (k : Nat) => V.int (lo + k)
theorem walk_range {lo : Int} {n : Nat} : Walk (Itr lo n) (upto lo n) (fun _ => True) where
  go := fun i H h _ => by
    unfold upto at h; rw [List.length_map, List.length_range] at h
    exact h
  stop := fun i H h _ => by
    unfold upto at h; rw [List.length_map, List.length_range] at h
    exact h
  yld := fun i H x H' h _ y => by
    unfold upto at h; rw [List.length_map, List.length_range] at h
    obtain ⟨e, hx⟩ := y
    subst hx
    refine ⟨e, ?_⟩
    unfold upto
    rw [List.getElem?_map, List.getElem?_range h]
    rfl
theorem for_walk {J : It} {xs : List V} {Ok : Hp → Prop} (Wk : Walk J xs Ok) {g : TG} {tb : TS} {D : Ends} {σ : St} {H : Hp} (Pv : Nat → St → Hp → Prop) (h0 : Pv 0 σ H) (hl : ∀ i σ H, i ≤ xs.length → Pv i σ H → Ok H)
    (hs : ∀ i x σ H, xs[i]? = some x → Pv i σ H → g x σ H fun σ2 H2 => tb { D with nx := Pv (i + 1), ct := Pv (i + 1), bk := D.nx } σ2 H2) (hd : ∀ σ H, Pv xs.length σ H → D.nx σ H) :
    ∃ W : Nat → Nat → St → Hp → Prop, (∃ m, W 0 m σ H) ∧ ∀ i m σ H, W i m σ H →
      (J.stop i H ∧ D.nx σ H) ∨ (J.go i H ∧ ∃ N : St → Hp → Prop, (∀ σ' H', N σ' H' → ∃ m', m' < m ∧ W (i + 1) m' σ' H') ∧ ∀ x H', J.yld i H x H' → g x σ H' fun σ2 H2 => tb { D with nx := N, ct := N, bk := D.nx } σ2 H2) := by
  refine ⟨fun i m σ H => m = xs.length - i ∧ i ≤ xs.length ∧ Pv i σ H, ⟨xs.length, by simp, Nat.zero_le _, h0⟩, ?_⟩
  rintro i m σ H ⟨rfl, hi, p⟩
  have q := hl i σ H hi p
  by_cases hlt : i < xs.length
  · refine .inr ⟨Wk.go i H hlt q, Pv (i + 1), fun σ' H' p' => ⟨xs.length - (i + 1), by omega, rfl, hlt, p'⟩, fun x H' y => ?_⟩
    obtain ⟨e, y'⟩ := Wk.yld i H x H' hlt q y
    subst e
    exact hs i x σ _ y' p
  · have e : i = xs.length := by omega
    subst e
    exact .inl ⟨Wk.stop _ H (Nat.le_refl _) q, hd σ H p⟩
theorem lc_walk {J : It} {xs : List V} {Ok : Hp → Prop} (Wk : Walk J xs Ok) {g : TG} {tt : TT} {te : TE} {σ : St} {H : Hp} {D : Addr} {Q : VK} (Pv : Nat → St → Hp → Prop) (h0 : Pv 0 σ H) (hl : ∀ i σ H, i ≤ xs.length → Pv i σ H → Ok H)
    (hs : ∀ i x σ H, xs[i]? = some x → Pv i σ H → g x σ H fun σ2 H2 => tt σ2 H2 fun b H3 => if b = true then te σ2 H3 fun v H4 => ∃ ys, H4 D = some (.lst ys) ∧ ys.length < sizeLine ∧ Pv (i + 1) σ2 (upd H4 D (.lst (ys ++ [v]))) else Pv (i + 1) σ2 H3)
    (hd : ∀ σ H, Pv xs.length σ H → Q (.ref D) H) : LCgo J g tt te D σ H Q := by
  refine ⟨fun i m σ H => m = xs.length - i ∧ i ≤ xs.length ∧ Pv i σ H, ⟨xs.length, by simp, Nat.zero_le _, h0⟩, ?_⟩
  rintro i m σ H ⟨rfl, hi, p⟩
  have q := hl i σ H hi p
  by_cases hlt : i < xs.length
  · refine .inr ⟨Wk.go i H hlt q, Pv (i + 1), fun σ' H' p' => ⟨xs.length - (i + 1), by omega, rfl, hlt, p'⟩, fun x H' y => ?_⟩
    obtain ⟨e, y'⟩ := Wk.yld i H x H' hlt q y
    subst e
    exact hs i x σ _ y' p
  · have e : i = xs.length := by omega
    subst e
    exact .inl ⟨Wk.stop _ H (Nat.le_refl _) q, hd σ H p⟩
end L2
set_option maxHeartbeats 4000000
namespace L2
open PySem PySem.Spec PyProof.Rows
def Small (n : Int) : Prop := Builtin.Int.intBits n ≤ 1048576
theorem small_of {n : Int} (h : n.natAbs.log2 + 1 ≤ 1048576) : Small n := PySem.intBits_le_iff.mpr (Nat.lt_of_lt_of_le Nat.lt_log2_self (Nat.pow_le_pow_right (by decide) h))
theorem small_zero : Small 0 := by unfold Small; decide
theorem Small.le {m n : Int} (h : Small n) (e : m.natAbs ≤ n.natAbs) : Small m := PySem.intBits_le_iff.mpr (Nat.lt_of_le_of_lt e (PySem.intBits_le_iff.mp h))
theorem script_small : ∀ {ns : List Int} {w : Nat}, PySem.W.WData.weightAll (ns.map PySem.W.WData.int) ≤ w → w ≤ 1048576 → ∀ n ∈ ns, Small n
  | [], _, _, _, _, h => nomatch h
  | x :: r, w, h, hw, n, hn => by
    rw [List.map_cons] at h
    unfold PySem.W.WData.weightAll at h
    rcases List.mem_cons.mp hn with e | e
    · subst e
      unfold PySem.W.WData.weight at h
      by_cases z : n = 0
      · rw [z]; exact small_zero
      · rw [if_neg (by simpa using z)] at h
        exact small_of (by omega)
    · exact script_small (ns := r) (w := w) (by omega) hw n e
theorem script_layable {ns : List Int} (h : PySem.W.WData.layableAll [PySem.W.WData.list (ns.map PySem.W.WData.int)] = true) : ∀ n ∈ ns, Small n := by
  unfold PySem.W.WData.layableAll at h
  rw [List.all_cons, Bool.and_eq_true] at h
  have h1 := h.1
  unfold PySem.W.WData.layable at h1
  rw [Bool.and_eq_true] at h1
  have h2 := of_decide_eq_true h1.2
  unfold PySem.W.WData.weight at h2
  exact script_small h2 (by decide)
theorem walk_b {l : PySem.W.OpenLaw} {n k : Nat} {q : Program} {loose : List Str} {XP : (Str → Option Value) → Heap → Prop} {YP : World → Heap → Prop} {d : DefRec} {K : Params → PySem.W.Frag} {CX : World → CXT} {sp : World → Sp} {x : Str}
    (hn : l.most = some n) (hn2 : n ≤ sizeLine) (hdf : d.params.defaults = []) (hr : Room k callerA)
    (hY : ∀ (w : World) (h : Heap), YP w h → (K w.params).In h)
    (F : ∀ (w : World) (mg : Str → Option Value) (fa : Addr) (h : Heap), (K w.params).In h → h.Ns mainGlobals mg → mg d.name = some (.ref fa) →
      ∃ fd : FuncData, (∀ (s : Shared) (u : Value), BindsTo s fd ⟨[u], []⟩ [(x, u)]) ∧
        ∀ base : Heap, (K w.params).In base → base.Ns mainGlobals mg → FnOk l.prog w (K w.params) mg base (CX w) k fa fd [x] (sp w))
    (hsp : ∀ (w : World) (H : Hp) (a : Addr) (ns : List Int), ns.length ≤ n → (∀ n ∈ ns, Small n) → Only H → SqL (K w.params) H a (ns.map V.int) → sp w [.ref a] H (fun v _ => v = .bl true) fun _ _ _ => False)
    (hCX : ∀ (w : World) (H : Hp) (s : Shared) (e : Value) (s' : Shared), CX w [] H s (fun _ _ _ => False) e s' → False) :
    PySem.W.WalkO q loose XP YP l.row.toRowW d [] (fun f vs => PySem.call f vs) := by
  intro w s₀ s₁ mg mb G Y fa o pm cd doc dV kV ho hd hcd hD hmg hg args vals as hpre hlay hrd hwl hlo
  obtain rfl : dV = .none := PySem.W.Dflts.none hD hdf
  obtain rfl : kV = .none := PySem.W.Dflts.noKw hD
  obtain ⟨a, vs, ns, rfl, rfl, hobj, hints, hlen⟩ := Att.script_of hn hpre hwl
  have KX := hY w _ Y
  obtain ⟨fd, hb, hF⟩ := F w mg fa _ KX G.T.g hmg
  have hc := law_call KX G.T.g G.T.b G.T.builtins G.T.nolimit hg hobj hints (Nat.le_trans hlen hn2) hr hF hb (fun H hO hS => hsp w H a ns hlen (script_layable hlay) hO hS) fun H e s' => hCX w H s₁ e s'
  refine PySem.W.enter_call (codeAny_mono hc fun r s' hq => ?_)
  obtain ⟨rfl, h2, h3, h4⟩ := hq
  exact ⟨.inl ⟨.bool true, .bool true, [], rfl, fun _ => rfl, .bool true, Att.post_true l _, fun _ => ⟨List.Pairwise.nil, fun _ hm => (nomatch hm)⟩⟩, h2, h3, h4⟩
section
variable {X : Cx}
def CMulB (i j : Int) : Prop := Builtin.Int.intBits i ≤ 4000000 ∧ Builtin.Int.intBits j ≤ 4000000
end
end L2
set_option maxHeartbeats 4000000
namespace L2
open PySem PySem.Spec PyProof.Rows
def tx (l : List Nat) : Str := ⟨l.toArray⟩
theorem tx_cps (l : List Nat) : (tx l).cps.toList = l := rfl
theorem tx_len (l : List Nat) : (tx l).length = l.length := List.size_toArray ..
theorem tx_app (l m : List Nat) : tx l ++ tx m = tx (l ++ m) := by
  show (⟨l.toArray ++ m.toArray⟩ : Str) = ⟨(l ++ m).toArray⟩
  rw [List.append_toArray]
theorem tx_inj {l m : List Nat} (h : tx l = tx m) : l = m := congrArg (fun z : Str => z.cps.toList) h
theorem tx_rep (l : List Nat) (n : Int) : repS (tx l) n = tx (List.replicate n.toNat l).flatten := rfl
abbrev vt (l : List Nat) : V := .str (tx l)
theorem cut_to (l : List Nat) (k : Nat) : cutL l none (some (k : Int)) = l.take k := by
  unfold cutL
  rw [HT.sIx_none, HT.sIx_nat, List.drop_zero, Nat.sub_zero]
  by_cases h : k ≤ l.length
  · rw [Nat.min_eq_left h]
  · rw [Nat.min_eq_right (by omega), List.take_length, List.take_of_length_le (by omega)]
theorem cut_from (l : List Nat) (k : Nat) : cutL l (some (k : Int)) none = l.drop k := by
  unfold cutL
  rw [HT.sIx_none, HT.sIx_nat]
  by_cases h : k ≤ l.length
  · rw [Nat.min_eq_left h, List.take_of_length_le (by rw [List.length_drop]; omega)]
  · rw [Nat.min_eq_right (by omega), Nat.sub_self, List.take_zero, List.drop_of_length_le (by omega)]
section
variable {X : Cx}
def oLeA := (op_le (X := X)).or op_le_str
def iAny (K : PySem.W.Frag) (te : TE) : TI := fun σ H R => te σ H fun x H1 => (∃ a xs, x = .ref a ∧ SqL K H1 a xs ∧ R (Itl K a) H1) ∨ (∃ a xs, x = .ref a ∧ SqT K H1 a xs ∧ R (Itt K a) H1) ∨ (∃ z, x = .str z ∧ R (Its z) H1)
theorem piAny {e : Expr} {te : TE} {nm : Str} {np : Pos} (he : PE X e te) : PI X (.Name nm np) e (iAny X.K te) := by
  intro pins s σ H R I h
  refine thn (he pins s σ H _ I h) fun v s1 ⟨x, H1, I1, r1, q1⟩ => ?_
  have fp : ∀ b ∈ [s1.heap.objs.size], FpOk X pins H1 b := fun b hb => by
    have e : b = s1.heap.objs.size := by simpa using hb
    subst e
    exact I1.fpOk (Nat.le_refl _) (I1.hok.fresh (Nat.le_refl _))
  rcases q1 with ⟨a, xs, rfl, hq, q⟩ | ⟨a, xs, rfl, hq, q⟩ | ⟨z, rfl, q⟩
  · cases r1
    obtain ⟨its, rv, p, hz⟩ := I1.list hq
    exact wpAny_pyIter_list p.isList ⟨s1.heap.objs.size, [s1.heap.objs.size], _, _, H1, rfl, I1.kept (t' := s1.toks) fun b o e => Heap.get?_push_of_some _ e, turn_list a _, ⟨_, Heap.get?_push_size _ rfl, rfl, rfl⟩, fp, q⟩
  · cases r1
    obtain ⟨its, rv, p, hz⟩ := I1.tuple hq
    exact wpAny_pyIter_tuple (show s1.heap.IsTuple a its.toArray from p) ⟨s1.heap.objs.size, [s1.heap.objs.size], _, _, H1, rfl, I1.kept (t' := s1.toks) fun b o e => Heap.get?_push_of_some _ e, turn_tuple a _, ⟨_, Heap.get?_push_size _ rfl, rfl, rfl⟩, fp, q⟩
  · obtain ⟨t, rfl⟩ := r1
    cases ha : z.cps.all (· < 128) with
    | false =>
      exact wpAny_pyIter_wide ha ⟨s1.heap.objs.size, [s1.heap.objs.size], _, _, H1, rfl, I1.kept (t' := s1.toks) fun b o e => Heap.get?_push_of_some _ e, turn_str (ty := "str_iterator") _ z t (fun _ _ _ _ _ _ h1 h2 h3 => wpAny_pyNext_wide_item h1 h2 h3) (fun _ _ _ _ _ h0 h1 h2 h3 => wpAny_pyNext_wide_end h0 h1 h2 h3)
        (fun _ _ _ _ _ h1 h2 => wpAny_pyIter_striter_wide h1 h2), ⟨_, Heap.get?_push_size _ rfl, rfl, rfl⟩, fp, q⟩
    | true =>
      exact wpAny_pyIter_ascii ha ⟨s1.heap.objs.size, [s1.heap.objs.size], _, _, H1, rfl, I1.kept (t' := s1.toks) fun b o e => Heap.get?_push_of_some _ e, turn_str (ty := "str_ascii_iterator") _ z t (fun _ _ _ _ _ _ h1 h2 h3 => wpAny_pyNext_ascii_item h1 h2 h3) (fun _ _ _ _ _ h0 h1 h2 h3 => wpAny_pyNext_ascii_end h0 h1 h2 h3)
        (fun _ _ _ _ _ h1 h2 => wpAny_pyIter_striter_ascii h1 h2), ⟨_, Heap.get?_push_size _ rfl, rfl, rfl⟩, fp, q⟩
theorem walk_tx (l : List Nat) : Walk (Its (tx l)) (l.map fun c => vt [c]) (fun _ => True) := walk_str
theorem strsAre_of : ∀ {ls : List (List Nat)} {us : List Value}, Vals (ls.map vt) us → StrsAre us (ls.map tx)
  | [], _, .nil => .nil
  | l :: ls, _, .cons r t => by
    obtain ⟨k, rfl⟩ := r
    exact .cons _ _ (strsAre_of t)
theorem sum_lens (ls : List (List Nat)) : ((ls.map tx).map (·.length)).sum = ls.flatten.length := by
  induction ls with
  | nil => rfl
  | cons l r ih => rw [List.map_cons, List.map_cons, List.sum_cons, ih, tx_len, List.flatten_cons, List.length_append]
def between (sep : List Nat) : List (List Nat) → List Nat
  | [] => []
  | [l] => l
  | l :: m :: r => l ++ sep ++ between sep (m :: r)
theorem between_nil (ls : List (List Nat)) : between [] ls = ls.flatten := by
  induction ls with
  | nil => rfl
  | cons l r ih =>
    cases r with
    | nil => simp [between]
    | cons m r => unfold between; rw [ih]; simp
theorem tx_join (sep : List Nat) : ∀ ls : List (List Nat), Txt.join (tx sep) (ls.map tx) = tx (between sep ls) := by
  intro ls
  show Builtin.Str.glued (tx sep) (ls.map tx) = _
  rw [StrLaws.glued_eq_join]
  induction ls with
  | nil => rfl
  | cons l r ih =>
    cases r with
    | nil => rfl
    | cons m r =>
      rw [List.map_cons, List.map_cons]
      show tx l ++ tx sep ++ Str.join (tx sep) (tx m :: r.map tx) = _
      rw [List.map_cons] at ih
      rw [ih, tx_app, tx_app]
      rfl
def rJoin (K : PySem.W.Frag) : V → List V → Hp → VK → Prop := fun x vs H Q => ∃ sep p ls, x = vt sep ∧ vs = [.ref p] ∧ (SqL K H p (ls.map vt) ∨ SqT K H p (ls.map vt)) ∧ ls.flatten.length + ls.length * sep.length ≤ 16777216 ∧ Q (vt (between sep ls)) H
theorem mt_join : MtR X "str.join" (rJoin X.K) := by
  intro pins s σ H x vs v us Q I rx rs h
  obtain ⟨sep, p, ls, rfl, rfl, hp, hz, q⟩ := h
  obtain ⟨t, rfl⟩ := rx
  obtain ⟨u, rfl, ru⟩ := vals1 rs
  cases (show u = Value.ref p from ru)
  rw [show vt (between sep ls) = .str (Txt.join (tx sep) (ls.map tx)) by rw [tx_join]] at q
  have hok : ((ls.map tx).map (·.length)).sum + (ls.map tx).length * (tx sep).length ≤ 16777216 := by rw [sum_lens, List.length_map, tx_len]; exact hz
  have fin : ∀ t' k, EP X pins σ Q (.str (Txt.join (tx sep) (ls.map tx)) t') { s with toks := k } := fun t' k => ⟨.str _, H, I.tok k, ⟨t', rfl⟩, q⟩
  rcases hp with hp | hp
  · obtain ⟨its, rv, p', _⟩ := I.list hp
    exact join_list p'.isList (by simpa using strsAre_of rv) hok fin
  · obtain ⟨its, rv, p', _⟩ := I.tuple hp
    exact join_tuple p' (by simpa using strsAre_of rv) hok fin
def PF (X : Cx) (e : Expr) (t : St → Hp → (Str → Hp → Prop) → Prop) : Prop := ∀ (pins : List (Addr × Obj)) (s : Shared) (σ : St) (H : Hp) (Q : Str → Hp → Prop), Inv X pins σ H s → t σ H Q →
  wpAny (model X.prog X.w) X.A (eval e X.env) (fun u s' => ∃ z tk H', u = .str z tk ∧ Inv X pins σ H' s' ∧ Q z H') X.xe s
def PFs (X : Cx) (es : List Expr) (t : Str → St → Hp → (Str → Hp → Prop) → Prop) : Prop := ∀ (acc : Str) (pins : List (Addr × Obj)) (s : Shared) (σ : St) (H : Hp) (Q : Str → Hp → Prop), Inv X pins σ H s → t acc σ H Q →
  Joins (model X.prog X.w) X.A X.xe (evalEach es X.env) acc (fun out s' => ∃ H', Inv X pins σ H' s' ∧ Q out H') s
end
end L2
set_option maxHeartbeats 4000000
namespace L2
open PySem PySem.Spec PyProof.Rows
def addNew (acc : List Nat) (c : Nat) : List Nat := if c ∈ acc then acc else acc ++ [c]
def firsts (l : List Nat) : List Nat := l.foldl addNew []
def memb (l : List Nat) : Str → Bool := fun z => decide (∃ c ∈ firsts l, z = tx [c])
def SignSet (P : Program) (w : World) (h : Heap) (a : Addr) (l : List Nat) : Prop := h.SetOf (strKind P w) a (memb l) (firsts l).length
theorem SignSet.at {P : Program} {w : World} {h h' : Heap} {a : Addr} {l : List Nat} (S : SignSet P w h a l) (k : ∀ o, h.get? a = some o → h'.get? a = some o) : SignSet P w h' a l := by
  obtain ⟨o, es, ep, tb, ho, r⟩ := S
  exact ⟨o, es, ep, tb, k o ho, r⟩
section
variable {prog : Program} {w : World} {A : Around} {R : Result → Shared → Prop} {I : Addr} {fp wr : List Addr} {G : Array GenState → Array GenState → Prop} {l : List Nat} {St : Nat → Shared → Prop}
end
namespace SetF
end SetF
section
variable {prog : Program} {w : World} {A : Around} {E : Value → Shared → Prop} {s : Shared}
end
end L2
set_option maxHeartbeats 4000000
namespace L2
open PySem PySem.Spec PyProof.Rows
structure PAs (X : Cx) (es : List Expr) (t : TA) : Prop where
  h : PA X es t
theorem pas_nil {X : Cx} : PAs X [] tNil := ⟨pa_nil⟩
theorem pas_cons {X : Cx} {e : Expr} {te : TE} {es : List Expr} {t : TA} (ha : PE X e te) (hr : PAs X es t) (hs : starEach (e :: es) X.env = (false, eval e X.env) :: starEach es X.env := by rfl) : PAs X (e :: es) (tCons te t) := ⟨pa_cons ha hr.h hs⟩
section
variable {X : Cx}
theorem truth_at {bs : List Bool} {us : List Value} (r : Vals (bs.map V.bl) us) (A : Around) : TruthOf X.prog X.w A (fun i v => us.toArray[i]? = some v) (fun i => bs.getD i false) := by
  intro i v s Q E hv hq
  have hv' : us[i]? = some v := by simpa using hv
  have hl := r.length
  rw [List.length_map] at hl
  have hi : i < bs.length := by have := (List.getElem?_eq_some_iff.mp hv').1; omega
  obtain ⟨u, hu, ru⟩ := r.get (i := i) (x := .bl bs[i]) (by rw [List.getElem?_map, List.getElem?_eq_getElem hi]; rfl)
  rw [hv'] at hu; cases hu
  cases (show v = Value.bool bs[i] from ru)
  refine wpAny_truthy_bool ?_
  have e : bs.getD i false = bs[i] := by rw [List.getD_eq_getElem?_getD, List.getElem?_eq_getElem hi]; rfl
  rw [← e]; exact hq
theorem all_range (bs : List Bool) : (List.range bs.length).all (fun i => bs.getD i false) = bs.all id := by
  induction bs with
  | nil => rfl
  | cons b r ih =>
    rw [List.length_cons, List.range_succ_eq_map, List.all_cons, List.all_map, List.all_cons, ← ih]
    rfl
theorem callAll (hc : X.calm = true) : CallR X (.builtin "all") (fun xs H Q => ∃ (p : Addr) (bs : List Bool), xs = [.ref p] ∧ SqL X.K H p (bs.map V.bl) ∧ Q (.bl (bs.all id)) H) := by
  intro pins s σ H vs us Q I r h
  obtain ⟨p, bs, rfl, hp, q⟩ := h
  obtain ⟨u, rfl, ru⟩ := vals1 r
  cases (show u = Value.ref p from ru)
  obtain ⟨its, rv, pl, _⟩ := I.list hp
  have hlen : its.toArray.size = bs.length := by have := rv.length; rw [List.length_map] at this; simp [this]
  have hne : p ≠ s.heap.objs.size := by obtain ⟨o, ho, _⟩ := pl.isList; exact Nat.ne_of_lt (Heap.lt_size ho)
  have hh := I.ok.hd hc
  refine call_all_walk (wpAny_pyIter_list pl.isList ⟨s.heap.objs.size, _, _, _, _, _, fun i => bs.getD i false, rfl, Walks.list (by simp [hh]) _ p hne its.toArray, ⟨⟨_, Heap.get?_push_size _ rfl, rfl, rfl⟩, pl.isList.push _⟩, truth_at rv _, fun h' tk k => ?_⟩)
  rw [hlen, all_range]
  refine ⟨.bl _, H, I.kept (t' := tk) fun b u e => k b u ?_ (Heap.get?_push_of_some _ e), rfl, q⟩
  intro z
  exact absurd (Heap.lt_size e) (by rw [List.mem_singleton.mp z]; exact Nat.lt_irrefl _)
theorem vals_signs : ∀ (l : List Nat) (us : List Value), us.length = l.length → (∀ (j : Nat) v, us[j]? = some v → SignAt (tx l) j v) → Vals (l.map fun c => vt [c]) us := by
  intro l us hl h
  have key : ∀ (us : List Value) (m : Nat), us.length + m = l.length → (∀ (j : Nat) v, us[j]? = some v → SignAt (tx l) (m + j) v) → Vals ((l.drop m).map fun c => vt [c]) us := by
    intro us
    induction us with
    | nil => intro m hm _; rw [List.drop_of_length_le (by simp at hm; omega)]; exact .nil
    | cons u r ih =>
      intro m hm hs
      rw [List.length_cons] at hm
      obtain ⟨c, tk, hc, rfl⟩ := hs 0 u rfl
      have hc' : l[m]? = some c := by rw [← tx_cps l, Array.getElem?_toList]; exact hc
      obtain ⟨hlt, e⟩ := List.getElem?_eq_some_iff.mp hc'
      rw [List.drop_eq_getElem_cons hlt, e, List.map_cons]
      refine .cons ⟨tk, rfl⟩ (ih (m + 1) (by omega) fun j v hv => ?_)
      have := hs (j + 1) v hv
      rw [show m + (j + 1) = m + 1 + j by omega] at this
      exact this
  have := key us 0 (by omega) (fun j v hv => by rw [Nat.zero_add]; exact h j v hv)
  rwa [List.drop_zero] at this
theorem callListS (hc : X.calm = true) : CallR X (.type "list") (fun xs H Q => ∃ l, xs = [vt l] ∧ l.length ≤ sizeLine ∧ ∀ p, H p = none → Q (.ref p) (upd H p (.lst (l.map fun c => vt [c])))) := by
  intro pins s σ H vs us Q I r h
  obtain ⟨l, rfl, hl, q⟩ := h
  obtain ⟨u, rfl, ru⟩ := vals1 r
  obtain ⟨t, rfl⟩ := ru
  have sz : (tx l).cps.size = l.length := List.size_toArray ..
  refine call_list_str (I.ok.hd hc) (tx l) t (fun h' tk acc c' k e it => ?_) (by rw [sz]; exact hl)
  have hv := vals_signs l acc.toList (by rw [Array.length_toList, it.1, sz]) fun j v hv => it.2 j v (by simpa using hv)
  refine ⟨.ref s.heap.objs.size, _, I.laid (o := .lst (l.map fun c => vt [c])) k (Nat.le_refl _) ⟨by rw [List.length_map]; exact hl, acc.toList, c', hv, by simpa using e⟩, rfl, q _ (I.hok.fresh (Nat.le_refl _))⟩
def callList (hc : X.calm = true) := (call_list_of (X := X)).or (callListS hc)
theorem eqVs_min {xs ys : List V} : ((List.range (min xs.length ys.length)).all (fun j => eqV (xs.getD j .non) (ys.getD j .non)) && xs.length == ys.length) = eqVs xs ys := by
  by_cases h : xs.length = ys.length
  · rw [h, Nat.min_self, beq_self_eq_true, Bool.and_true, ← h, eqVs_all h]
  · rw [eqVs_len h, beq_eq_false_iff_ne.mpr h, Bool.and_false]
def rEqT (K : PySem.W.Frag) (neg : Bool) : R2 := fun x y H Q => ∃ a b xs ys, x = .ref a ∧ y = .ref b ∧ SqT K H a xs ∧ SqT K H b ys ∧ xs.all flatV = true ∧ ys.all flatV = true ∧ Q (.bl (if neg then !eqVs xs ys else eqVs xs ys)) H
theorem op_eqT (hu : X.A.units < cLine) : OpR X (compareOp .Eq) (rEqT X.K false) := by
  intro pins s σ H x y v u Q I rx ry h
  obtain ⟨a, b, xs, ys, rfl, rfl, ha, hb, fx, fy, q⟩ := h
  cases (show v = Value.ref a from rx)
  cases (show u = Value.ref b from ry)
  obtain ⟨its, rv, p, _⟩ := I.tuple ha
  obtain ⟨its2, rv2, p2, _⟩ := I.tuple hb
  refine SeqAt.eq_tupleAt (e := fun j => eqV (xs.getD j .non) (ys.getD j .non)) p p2 hu (fun j h1 h2 => eqAt_items rv rv2 fx fy j h1 h2) ?_
  refine ⟨.bl _, H, I, rfl, ?_⟩
  rw [show its.toArray.size = xs.length by simp [rv.length], show its2.toArray.size = ys.length by simp [rv2.length], eqVs_min]
  exact q
theorem op_neT (hu : X.A.units < cLine) : OpR X (compareOp .NotEq) (rEqT X.K true) := by
  intro pins s σ H x y v u Q I rx ry h
  obtain ⟨a, b, xs, ys, rfl, rfl, ha, hb, fx, fy, q⟩ := h
  cases (show v = Value.ref a from rx)
  cases (show u = Value.ref b from ry)
  obtain ⟨its, rv, p, _⟩ := I.tuple ha
  obtain ⟨its2, rv2, p2, _⟩ := I.tuple hb
  refine SeqAt.RcNeAt.tuples (e := fun j => eqV (xs.getD j .non) (ys.getD j .non)) p p2 hu (fun j h1 h2 => eqAt_items rv rv2 fx fy j h1 h2) X.prog X.w X.xe _ ?_
  refine ⟨.bl _, H, I, rfl, ?_⟩
  rw [show its.toArray.size = xs.length by simp [rv.length], show its2.toArray.size = ys.length by simp [rv2.length], eqVs_min]
  exact q
def oEqA (hu : X.A.units < cLine) := (op_eq (X := X)).or ((op_eqL hu).or (op_eqT hu))
theorem Inv.big {pins : List (Addr × Obj)} {σ : St} {H : Hp} {s : Shared} (I : Inv X pins σ H s) : sysModules < s.heap.objs.size :=
  Nat.lt_trans (by decide) (I.mod.glob.keeps I.bk).lt
def tDNewK : TE := fun _ H Q => ∀ p, H p = none → Q (.ref p) (upd H p (.dK []))
theorem pe_dnewK {pos : Pos} : PE X (.Dict [] [] pos) tDNewK := fun pins s σ H Q I h =>
  wpAny_Dict_empty ⟨.ref s.heap.objs.size, _, I.laid (a := s.heap.objs.size) (o := .dK []) (t' := s.toks) (fun _ _ q => Heap.get?_push_of_some _ q) (Nat.le_refl _)
    ⟨Nat.zero_le _, beq_eq_false_iff_ne.mpr (Ne.symm (Nat.ne_of_lt I.big)), [], .nil, Heap.DictOf.new s.heap⟩, rfl, h _ (I.hok.fresh (Nat.le_refl _))⟩
end
end L2
namespace L2
open PySem PySem.Spec PyProof.Rows
section
variable {X : Cx}
end
end L2
namespace L2
open PySem PySem.Spec PyProof.Rows
section
variable {K : PySem.W.Frag}
theorem same_new {H : Hp} {p : Addr} (h : H p = none) (o : HO) : Same H (upd H p o) := fun b u q => by rw [upd_ne (ne_of_none q h)]; exact q
theorem same_over {H H3 : Hp} {p : Addr} (s : Same H H3) (h : H p = none) (o : HO) : Same H (upd H3 p o) := fun b u q => by rw [upd_ne (ne_of_none q h)]; exact s b u q
theorem same_tup {H H' : Hp} {a : Addr} {xs : List V} (e : Same H H') (h : SqT K H a xs) : SqT K H' a xs := by
  rcases h with (h | ⟨o, h⟩) | h
  · exact .inl (.inl (e _ _ h))
  · exact .inl (.inr ⟨o, e _ _ h⟩)
  · exact .inr h
theorem same_lst {H H' : Hp} {a : Addr} {xs : List V} (e : Same H H') (h : SqL K H a xs) : SqL K H' a xs := e.seq h
theorem same_at {H H' : Hp} {a : Addr} {o : HO} (e : Same H H') (h : H a = some o) : H' a = some o := e _ _ h
theorem new_tup {H : Hp} {p a : Addr} {o : HO} {xs : List V} (n : H p = none) (h : SqT K H a xs) : SqT K (upd H p o) a xs := same_tup (same_new n o) h
theorem new_lst {H : Hp} {p a : Addr} {o : HO} {xs : List V} (n : H p = none) (h : SqL K H a xs) : SqL K (upd H p o) a xs := same_lst (same_new n o) h
theorem new_at {H : Hp} {p a : Addr} {o u : HO} (n : H p = none) (h : H a = some u) : upd H p o a = some u := same_new n o _ _ h
theorem new_same {H H1 : Hp} {p : Addr} {o : HO} (n : H1 p = none) (h : Same H H1) : Same H (upd H1 p o) := h.trans (same_new n o)
theorem ne_at {H : Hp} {p a : Addr} {o u : HO} (n : a ≠ p) (h : H a = some u) : upd H p o a = some u := by rw [upd_ne n]; exact h
theorem ne_tup {H : Hp} {p a : Addr} {o : HO} {xs : List V} (n : a ≠ p) (h : SqT K H a xs) : SqT K (upd H p o) a xs := by
  rcases h with (h | ⟨u, h⟩) | h
  · exact .inl (.inl (ne_at n h))
  · exact .inl (.inr ⟨u, ne_at n h⟩)
  · exact .inr h
theorem ne_lst {H : Hp} {p a : Addr} {o : HO} {xs : List V} (n : a ≠ p) (h : SqL K H a xs) : SqL K (upd H p o) a xs := by
  rcases h with (h | ⟨u, h⟩) | h
  · exact .inl (.inl (ne_at n h))
  · exact .inl (.inr ⟨u, ne_at n h⟩)
  · exact .inr h
theorem over_same {H H1 : Hp} {p : Addr} {o : HO} (n : H p = none) (h : Same H H1) : Same H (upd H1 p o) := same_over h n o
theorem ixL {H : Hp} {Q : VK} {p : Addr} {xs : List V} {i : Int} {v : V} (h : SqL K H p xs) (e : atI xs i = some v) (q : Q v H) : rIx K (.ref p) (.int i) H Q := .inl ⟨p, xs, i, v, rfl, rfl, h, e, q⟩
theorem ixT {H : Hp} {Q : VK} {p : Addr} {xs : List V} {i : Int} {v : V} (h : SqT K H p xs) (e : atI xs i = some v) (q : Q v H) : rIx K (.ref p) (.int i) H Q := .inr (.inl ⟨p, xs, i, v, rfl, rfl, h, e, q⟩)
theorem ixS {H : Hp} {Q : VK} {l : List Nat} {i : Int} {c : Nat} (h : l.length ≤ sizeLine) (e : atI l i = some c) (q : Q (vt [c]) H) : rIx K (vt l) (.int i) H Q := .inr (.inr ⟨tx l, i, c, rfl, rfl, by rw [tx_len]; exact h, e, q⟩)
theorem appL {H : Hp} {Q : VK} {l : Addr} {xs : List V} {y : V} (h : H l = some (.lst xs)) (z : xs.length < sizeLine) (q : Q .non (upd H l (.lst (xs ++ [y])))) : rAppend (.ref l) [y] H Q := ⟨l, xs, y, rfl, rfl, h, z, q⟩
theorem tyL {H : Hp} {p : Addr} {xs : List V} (h : SqL K H p xs) : tyV K "list" (.ref p) H := .inl ⟨rfl, _, h⟩
theorem cutT {H : Hp} {Q : VK} {l : List Nat} {lo hi : Option Int} (z : l.length ≤ sizeLine) (q : Q (vt (cutL l lo hi)) H) : rSlS (vt l) lo hi H Q := ⟨tx l, rfl, by rw [tx_len]; exact z, q⟩
theorem lenvS {H : Hp} {l : List Nat} (h : l.length ≤ sizeLine) : LenV K (vt l) H l.length := ⟨by rw [tx_len]; exact h, (tx_len l).symm⟩
theorem ifT {c A B : Prop} [Decidable c] (h : c) (a : A) : if decide c = true then A else B := by rw [decide_eq_true h]; exact iteT a
theorem ifF {c A B : Prop} [Decidable c] (h : ¬ c) (b : B) : if decide c = true then A else B := by rw [decide_eq_false h]; exact iteF b
theorem ifnT {c A B : Prop} [Decidable c] (h : ¬ c) (a : A) : if (!decide c) = true then A else B := by rw [decide_eq_false h]; exact iteT a
theorem ifnF {c A B : Prop} [Decidable c] (h : c) (b : B) : if (!decide c) = true then A else B := by rw [decide_eq_true h]; exact iteF b
theorem if2 {c A B : Prop} [Decidable c] (a : c → A) (b : ¬ c → B) : if decide c = true then A else B := by
  by_cases h : c
  · exact ifT h (a h)
  · exact ifF h (b h)
theorem ifn2 {c A B : Prop} [Decidable c] (a : ¬ c → A) (b : c → B) : if (!decide c) = true then A else B := by
  by_cases h : c
  · exact ifnF h (b h)
  · exact ifnT h (a h)
theorem vtx {l m : List Nat} : (vt l = vt m) ↔ l = m := ⟨fun h => tx_inj (V.str.inj h), congrArg _⟩
theorem cdivK {i j : Int} (h : 0 < j) (h2 : j < 1000000000) : CDivL i j := by
  refine ⟨by omega, Nat.lt_of_lt_of_le (show j.natAbs < 2 ^ 30 by omega) (Nat.pow_le_pow_right (by decide) (by decide))⟩
def MulOk (i j : Int) : Prop := CMul i j ∨ CMulL i j ∨ CMulB i j
theorem mulN {X : Cx} : OpR X (binaryOp .Mult) (rI MulOk fun i j => .int (i * j)) := opI fun _ _ _ _ _ _ _ hc q => by
  rcases hc with hc | hc | hc
  · exact mul_int q hc.ok
  · exact mul_int q (PySem.IntMulOk.of_le (bits_of hc.1) (bits_of hc.2) (by decide))
  · exact mul_int q (PySem.IntMulOk.of_le hc.1 hc.2 (by decide))
def rCatX : R2 := fun x y H Q => ∃ l m, x = vt l ∧ y = vt m ∧ l.length + m.length ≤ sizeLine ∧ Q (vt (l ++ m)) H
theorem op_catX {X : Cx} : OpR X (binaryOp .Add) rCatX := fun pins s σ H x y v u Q I rx ry h => by
  obtain ⟨l, m, rfl, rfl, hz, q⟩ := h
  exact op_add_str pins s σ H _ _ v u Q I rx ry ⟨_, _, rfl, rfl, by rw [tx_len, tx_len]; exact hz, by rw [tx_app]; exact q⟩
theorem ip_catX {X : Cx} : OpR X (inplaceOp .Add) rCatX := fun pins s σ H x y v u Q I rx ry h => by
  obtain ⟨l, m, rfl, rfl, hz, q⟩ := h
  exact iop_add_str pins s σ H _ _ v u Q I rx ry ⟨_, _, rfl, rfl, by rw [tx_len, tx_len]; exact hz, by rw [tx_app]; exact q⟩
def rRepX : R2 := fun x y H Q => ∃ l n, x = vt l ∧ y = .int n ∧ (0 ≤ n ∧ n ≤ 4000 ∧ l.length ≤ 4000) ∧ Q (vt (List.replicate n.toNat l).flatten) H
theorem op_repX {X : Cx} : OpR X (binaryOp .Mult) rRepX := fun pins s σ H x y v u Q I rx ry h => by
  obtain ⟨l, n, rfl, rfl, ⟨h1, h2, h3⟩, q⟩ := h
  exact op_mul_str pins s σ H _ _ v u Q I rx ry ⟨_, _, rfl, rfl, h1, h2, by rw [tx_len]; exact h3, by rw [tx_rep]; exact q⟩
def oMulN {X : Cx} := (mulN (X := X)).or (op_repX.or op_rep)
def oAddN {X : Cx} := (op_add (X := X)).or (op_catX.or (op_cat.or op_catT))
theorem catX {H : Hp} {Q : VK} {l m : List Nat} (z : l.length + m.length ≤ sizeLine) (q : Q (vt (l ++ m)) H) : rCatX (vt l) (vt m) H Q := ⟨l, m, rfl, rfl, z, q⟩
theorem mulL {i j : Int} (h1 : -(2 ^ 64) < i) (h2 : i < 2 ^ 64) : MulOk i j := .inl (.inl ⟨h1, h2⟩)
theorem mulR {i j : Int} (h1 : -(2 ^ 64) < j) (h2 : j < 2 ^ 64) : MulOk i j := .inl (.inr ⟨h1, h2⟩)
theorem ip_addN {X : Cx} : OpR X (inplaceOp .Add) (rI0 fun i j => .int (i + j)) := opI0 fun _ _ _ _ _ _ _ q => PyProof.Rows.iadd_int q
def ipAdd {X : Cx} := (ip_addN (X := X)).or ip_catX
theorem lc_vals {J : It} {xs : List V} {Ok : Hp → Prop} (Wk : Walk J xs Ok) {te : TE} {H : Hp} {D : Addr} {Q : VK} {caps : St} (R : Nat → V → Prop) (hl : ∀ ys, Ok (upd H D (.lst ys))) (hz : xs.length < sizeLine)
    (hs : ∀ (i : Nat) (x : V) (ys : List V) (C : VK), xs[i]? = some x → (∀ v, R i v → C v (upd H D (.lst ys))) → te (some x :: caps) (upd H D (.lst ys)) C)
    (hd : ∀ ys, ys.length = xs.length → (∀ (j : Nat) v, ys[j]? = some v → R j v) → Q (.ref D) (upd H D (.lst ys))) : LCgo J (gName 0) tTrue te D (none :: caps) (upd H D (.lst [])) Q := by
  refine lc_walk Wk (fun i σ H' => ∃ r ys, σ = r :: caps ∧ H' = upd H D (.lst ys) ∧ ys.length = i ∧ ∀ (j : Nat) v, ys[j]? = some v → R j v) ⟨none, [], rfl, rfl, rfl, fun j v h => nomatch h⟩ (fun i σ H' _ ⟨_, _, _, e, _⟩ => by rw [e]; exact hl _) ?_ ?_
  · rintro i x σ H' hx ⟨r, ys, rfl, rfl, hy, hR⟩
    have hi := (List.getElem?_eq_some_iff.mp hx).1
    simp only [gName, tTrue, if_true]
    refine hs i x ys _ hx fun v hv => ⟨ys, upd_same, by omega, _, _, rfl, upd_upd, by rw [List.length_append, hy]; rfl, fun j u hu => ?_⟩
    by_cases z : j < ys.length
    · rw [List.getElem?_append_left z] at hu; exact hR j u hu
    · rw [List.getElem?_append_right (by omega)] at hu
      have : j - ys.length = 0 := by
        have := (List.getElem?_eq_some_iff.mp hu).1
        simp at this; omega
      rw [this] at hu
      cases hu
      have : j = i := by omega
      rw [this]; exact hv
  · rintro σ H' ⟨r, ys, rfl, rfl, hy, hR⟩
    exact hd ys hy hR
theorem lc_grow {J : It} {xs : List V} {Ok : Hp → Prop} (Wk : Walk J xs Ok) {te : TE} {H : Hp} {D : Addr} {Q : VK} {caps : St} (hD : H D = none) (R : Hp → Nat → V → Prop) (hm : ∀ H1 H2 j v, (∀ b o, b ≠ D → H1 b = some o → H2 b = some o) → R H1 j v → R H2 j v)
    (hl : ∀ H1, Same H H1 → Ok H1) (hz : xs.length < sizeLine)
    (hs : ∀ (i : Nat) (x : V) (H1 : Hp) (ys : List V) (C : VK), xs[i]? = some x → Same H H1 → H1 D = some (.lst ys) → (∀ H2 v, Same H1 H2 → R H2 i v → C v H2) → te (some x :: caps) H1 C)
    (hd : ∀ H1 ys, Same H H1 → H1 D = some (.lst ys) → ys.length = xs.length → (∀ (j : Nat) v, ys[j]? = some v → R H1 j v) → Q (.ref D) H1) : LCgo J (gName 0) tTrue te D (none :: caps) (upd H D (.lst [])) Q := by
  refine lc_walk Wk (fun i σ H' => ∃ r ys, σ = r :: caps ∧ Same H H' ∧ H' D = some (.lst ys) ∧ ys.length = i ∧ ∀ (j : Nat) v, ys[j]? = some v → R H' j v) ⟨none, [], rfl, same_new hD _, upd_same, rfl, fun j v h => nomatch h⟩ (fun i σ H' _ ⟨_, _, _, e, _⟩ => hl _ e) ?_ ?_
  · rintro i x σ H' hx ⟨r, ys, rfl, hS, hy, hn, hR⟩
    have hi := (List.getElem?_eq_some_iff.mp hx).1
    simp only [gName, tTrue, if_true]
    refine hs i x H' ys _ hx hS hy fun H2 v h2 hv => ⟨ys, h2 _ _ hy, by omega, _, _, rfl, ?_, upd_same, by rw [List.length_append, hn]; rfl, fun j u hu => ?_⟩
    · exact same_over (hS.trans h2) hD _
    · have up : ∀ b o, b ≠ D → H2 b = some o → upd H2 D (.lst (ys ++ [v])) b = some o := fun b o hb e => by rw [upd_ne hb]; exact e
      by_cases z : j < ys.length
      · rw [List.getElem?_append_left z] at hu
        exact hm _ _ _ _ up (hm _ _ _ _ (fun b o _ e => h2 b o e) (hR j u hu))
      · rw [List.getElem?_append_right (by omega)] at hu
        have : j - ys.length = 0 := by
          have := (List.getElem?_eq_some_iff.mp hu).1
          simp at this; omega
        rw [this] at hu
        cases hu
        have : j = i := by omega
        rw [this]; exact hm _ _ _ _ up hv
  · rintro σ H' ⟨r, ys, rfl, hS, hy, hn, hR⟩
    exact hd H' ys hS hy hn hR
end
end L2
namespace PySem
theorem wpAny_excMatches_up {M : Model} {A : Around} {E : Value → Shared → Prop} {nm q : Str} {R C N : Addr} {bs bm : List Value} {hdct : Bool} {sn : List Str} {sub : List Value} {ab : Bool} {col : Option Bool} {dd : Option Addr} {k0 k1 k2 k3 k5 : Option Value} {newId : String} {K : PySem.W.Frag} {h : Heap} {g : Array GenState} {d : Drawn} {t : Nat} {os : OsState} {e : Addr} {oe : Obj} {Q : Bool → Shared → Prop}
    (X : K.In h) (hup : PySem.W.mroIn K R (.ref C) = some true) (hC : h.get? C = some (excClassObj nm q C N bs bm hdct sn sub ab col dd k0 k1 k2 k3 k5 newId)) (he : h.get? e = some oe) (hcls : oe.cls = .ref R) (hbase : bm.contains (.type "BaseException") = true)
    (hq : Q true ⟨h, g, d, t, os⟩) : wpAny M A (excMatches (.ref e) (.ref C)) Q E ⟨h, g, d, t, os⟩ := by
  have hcB : (Value.ref C :: bm).contains (.type "BaseException") = true := by rw [List.contains_cons, hbase, Bool.or_true]
  have f := tc_notTuple
  unfold excMatches
  repeat (first | (with_reducible refine wpAny_loadPart_at he ?_; rw [hcls]) | with_reducible refine wpAny_loadPart_at hC ?_ | (with_reducible refine wpAny_isSubtype_exc hC ?_; rw [hcB]) | with_reducible refine XT.sub_K X hup ?_ | wp_step)
  exact hq
end PySem
namespace L2
open PySem PySem.Spec PyProof.Rows
def tTryU (K : PySem.W.Frag) (C : Addr) (i : Nat) (tb : Pins → (Value → Shared → Prop) → XS → TS) (th : Pins → Value → TS) : TS := fun D σ H => ∀ pins xe,
  tb pins xe (fun c σ' H' => ∃ R, c = .ref R ∧ PySem.W.mroIn K R (.ref C) = some true ∧ ∀ a, H' a = none → ∀ ps e, th ps e (D.hand i) (σ'.set i (some (.ref a))) (upd H' a (excO a R))) D σ H
section
variable {X : Cx} {C : Addr} {i : Nat} {n x : Str} {body : List Stmt} {b₀ : Stmt} {suite : List Stmt} {np hpos pos : Pos} {tb : Pins → (Value → Shared → Prop) → XS → TS} {th : Pins → Value → TS} {bmB : List Value} {newId : String}
theorem ps_tryU (hA : X.calm = true) (hex : X.ex = []) (hst : X.stack = X.env :: X.outer) (hfr : X.env.frame = some X.env.locals) (hN : X.N.Nodup) (hi : X.N[i]? = some n) (hk : X.env.kindOf n = some .local) (hg : Gl X x) (hm : X.mg x = some (.ref C))
    (hq : PySem.W.excIn X.K C bmB newId = true) (hbase : bmB.contains (.type "BaseException") = true)
    (hb : ∀ (pins : List (Addr × Obj)) (xe : Value → Shared → Prop) (Φ : XS), PassX X.prog X.w (X.tryX pins xe) Φ → PSs (X.tryX pins xe) body (tb pins xe Φ))
    (hh : ∀ (pins : List (Addr × Obj)) (e : Value), PSs (X.handX pins e) (b₀ :: suite) (th pins e)) (hdb : (x == ("__debug__" : Str)) = false := by decide) :
    PS X (.Try body [.ExceptHandler (some (.Name x np)) (some n) (b₀ :: suite) hpos] [] [] pos) (tTryU X.K C i tb th) := by
  intro pins s σ H D I h
  have ok := I.ok
  refine wpAny_Try_except (thn (hb pins _ _ ?_ [] s σ H D (I.tryX _) (h _ _)) fun f s1 z => ?_)
  · intro pins' σ1 H1 s1 e s2 I1 hc
    obtain ⟨a, Cv, H2, rfl, y, R, rfl, hup, hΦ⟩ := hc
    obtain ⟨B, a0, hf, k1, k2, k3⟩ := y.ex
    have hf : Heap.FlyingW B (X.env :: X.outer) a (.ref R) a0 s2.heap := hst ▸ hf
    show wpAny _ _ (noteFrame _ _) _ _ _
    refine wpAny_looks_onW (by rw [ok.frames, hst]) hfr hf fun h4 hh4 hs4 => ?_
    refine wpAny_landsW hh4 fun h5 hf5 hs5 => ?_
    have mv := Fly.move y.un y.hok (hst ▸ hf) k1 k2 k3 hf5.1 (hs4.trans hs5)
    have I5 : Inv X pins σ1 H2 { s2 with heap := h5 } := Inv.untry ok (Inv.call' (s' := { s2 with heap := h5 }) (ch := []) I1 y.os mv.1 mv.2 y.bare fun b z => absurd z (by simp))
    have J5 := I5.handX (.ref a)
    obtain ⟨ob, hob, hobc⟩ := hf5.there
    refine wpAny_handleBy_cons (codeAny_handlers_test ?_) (by intro q; cases q)
    refine ld_glob (X := X.handX pins (.ref a)) J5 hg hm ?_ hdb
    obtain ⟨bm, N, nm, qn, bs, hdct, sn, sub, ab, col, dd, k0, k1', k2', k3', k5, mN, hC, hNs, hni, T⟩ := exc_obj I5.kIn hq
    refine wpAny_excMatches_up I5.kIn hup hC hob hobc (T.hasType hbase) (codeAny_handlers_suite_as ?_)
    refine lands_againW hf5 fun h6 hf6 hs6 => ?_
    have mv6 := Fly.move y.un y.hok (hst ▸ hf) k1 k2 k3 hf6.1 ((hs4.trans hs5).trans hs6)
    have I6 : Inv X pins σ1 H2 { s2 with heap := h6 } := Inv.untry ok (Inv.call' (s' := { s2 with heap := h6 }) (ch := []) I1 y.os mv6.1 mv6.2 y.bare fun b z => absurd z (by simp))
    have lc : ∀ b o, s1.heap.get? b = some o → b ≠ a := fun b o e z => by rw [z, y.new] at e; cases e
    have I7 : Inv X pins σ1 (upd H2 a (excO a R)) { s2 with heap := h6 } := by
      refine I6.adopt y.gone ?_ ?_ (fun x c e => ?_) (fun p hp => ?_) ?_
      · cases q : X.s₀.heap.get? a with
        | none => rfl
        | some o =>
          by_cases hx : a ∈ X.ex
          · rw [hex] at hx; exact absurd hx (by simp)
          · obtain ⟨o1, e1⟩ := I1.base.there a o q hx
            exact absurd rfl (lc a o1 e1)
      · obtain ⟨m, ⟨o, _, _, ho, _⟩, _⟩ := I1.loc
        exact lc _ o ho
      · obtain ⟨v, o, ho, _⟩ := I1.cell x c e
        exact lc _ o ho
      · exact lc _ _ (I1.pin p (List.mem_append_left _ hp)).1
      · obtain ⟨o6, ho6, hc6⟩ := hf6.there
        exact ⟨⟨o6, ho6, hc6⟩, ⟨o6, ho6⟩, fun h1 h2 ⟨o, e1, e2⟩ k => ⟨o, k o e1, e2⟩⟩
    refine store_ok (X := X.handX pins (.ref a)) (v := .ref a) (I7.handX (.ref a)) hN hi (.inl hk) rfl (fun s8 I8 => ?_) (.inr hk)
    refine wpAny_mono (hh pins (.ref a) [] s8 _ _ _ I8 (hΦ a y.gone _ _)) (fun f s9 z => ?_) fun _ _ z => z.elim
    cases f with
    | next => obtain ⟨σ', H', J, q⟩ := z; exact name_gone (X := X) (J.unhand ok) hN hi hk fun s' J' => ⟨_, H', J', q⟩
    | brk => obtain ⟨σ', H', J, q⟩ := z; exact name_gone (X := X) (J.unhand ok) hN hi hk fun s' J' => ⟨_, H', J', q⟩
    | cont => obtain ⟨σ', H', J, q⟩ := z; exact name_gone (X := X) (J.unhand ok) hN hi hk fun s' J' => ⟨_, H', J', q⟩
    | ret u => obtain ⟨v, σ', H', J, r, q⟩ := z; exact name_gone (X := X) (J.unhand ok) hN hi hk fun s' J' => ⟨v, _, H', J', r, q⟩
  · cases f with
    | next => exact wpAny_execs_nil (SP.untry ok z)
    | brk => exact SP.untry ok z
    | cont => exact SP.untry ok z
    | ret u => exact SP.untry ok z
end
end L2
namespace PySem
namespace F
theorem owner_rev : Manifest.owners.lookup (String.ofList ['d', 'e', 's', 'r', 'e', 'v', 'e', 'r'].reverse) = some Manifest.sig_reversed := by kernel_rfl
theorem slot_rev_next : Slot "reversed" "__next__" "reversed.__next__" :=
  .of (owner := "reversed") (n := "__next__") (by rw [typeLookup_type, builtinLookup_eq_fast]; kernel_rfl) (by decide +kernel) (by decide +kernel) (by decide +kernel)
    (by first | exact .inl (by decide +kernel) | exact .inr (by decide +kernel)) (by rw [isSubtype_type]; kernel_rfl)
theorem entry_rev_next : entryFor table "reversed.__next__" = some Builtin.«reversed.__next__» := entryFor_of_tree (by kernel_rfl)
theorem args_rev_next_1 (a : Value) : argsOk "reversed.__next__" ⟨[a], []⟩ := by
  unfold argsOk; rw [signature?_of (id := "reversed.__next__") (n := ['_', '_', 't', 'x', 'e', 'n', '_', '_']) (o := ['d', 'e', 's', 'r', 'e', 'v', 'e', 'r']) (by kernel_rfl) owner_rev]; kernel_rfl
theorem slot_rev_iter : Slot "reversed" "__iter__" "reversed.__iter__" :=
  .of (owner := "reversed") (n := "__iter__") (by rw [typeLookup_type, builtinLookup_eq_fast]; kernel_rfl) (by decide +kernel) (by decide +kernel) (by decide +kernel)
    (by first | exact .inl (by decide +kernel) | exact .inr (by decide +kernel)) (by rw [isSubtype_type]; kernel_rfl)
theorem args_rev_iter_1 (a : Value) : argsOk "reversed.__iter__" ⟨[a], []⟩ := by
  unfold argsOk; rw [signature?_of (id := "reversed.__iter__") (n := ['_', '_', 'r', 'e', 't', 'i', '_', '_']) (o := ['d', 'e', 's', 'r', 'e', 'v', 'e', 'r']) (by kernel_rfl) owner_rev]; kernel_rfl
theorem entry_rev_iter : entryFor table "reversed.__iter__" = some Builtin.«dict_keyiterator.__iter__» :=
  entryFor_alias (id' := "dict_keyiterator.__iter__") (by kernel_rfl) (by first | rfl | decide +kernel | (unfold String.splitOn; simp +decide [String.splitOnAux])) (by decide +kernel) (by kernel_rfl)
theorem slot_rev_hint : Slot "reversed" "__length_hint__" "reversed.__length_hint__" :=
  .of (owner := "reversed") (n := "__length_hint__") (by rw [typeLookup_type, builtinLookup_eq_fast]; kernel_rfl) (by decide +kernel) (by decide +kernel) (by decide +kernel)
    (by first | exact .inl (by decide +kernel) | exact .inr (by decide +kernel)) (by rw [isSubtype_type]; kernel_rfl)
theorem entry_rev_hint : entryFor table "reversed.__length_hint__" = some Builtin.«reversed.__length_hint__» := entryFor_of_tree (by kernel_rfl)
theorem args_rev_hint_1 (a : Value) : argsOk "reversed.__length_hint__" ⟨[a], []⟩ := by
  unfold argsOk; rw [signature?_of (id := "reversed.__length_hint__") (n := ['_', '_', 't', 'n', 'i', 'h', '_', 'h', 't', 'g', 'n', 'e', 'l', '_', '_']) (o := ['d', 'e', 's', 'r', 'e', 'v', 'e', 'r']) (by kernel_rfl) owner_rev]; kernel_rfl
theorem slot_rev_init : Slot "reversed" "__init__" "object.__init__" :=
  .of (owner := "object") (n := "__init__") (by rw [typeLookup_type, builtinLookup_eq_fast]; kernel_rfl) (by decide +kernel) (by decide +kernel) (by decide +kernel)
    (by first | exact .inl (by decide +kernel) | exact .inr (by decide +kernel)) (by rw [isSubtype_type]; kernel_rfl)
theorem called_rev : TypeCalled "reversed" "reversed.__new__" "object.__init__" :=
  ⟨by decide +kernel, by decide +kernel, ⟨_, _, mro_reversed⟩, made_reversed, by decide +kernel, by rw [isSubtype_type]; kernel_rfl, slot_rev_init⟩
theorem rev_no_len : typeLookup (.type "reversed") "__len__" = pure none := by rw [typeLookup_type, builtinLookup_eq_fast]; kernel_rfl
end F
section
variable {prog : Program} {w : World} {A : Around} {E : Value → Shared → Prop} {s : Shared}
def Heap.IsRevStr (h : Heap) (a : Addr) (x : Str) (t : Tok) (i : Int) : Prop := ∃ o, h.get? a = some o ∧ o.cls = .type "reversed" ∧ o.data = .fields #[.str x t, rawInt i]
theorem Heap.IsRevStr.typeIs {a : Addr} {x : Str} {t : Tok} {i : Int} (z : s.heap.IsRevStr a x t i) : s.TypeIs (.ref a) "reversed" := let ⟨o, ho, hc, _⟩ := z; ⟨o, ho, hc⟩
theorem Heap.IsRevStr.at {h h' : Heap} {a : Addr} {x : Str} {t : Tok} {i : Int} (z : h.IsRevStr a x t i) (e : ∀ o, h.get? a = some o → h'.get? a = some o) : h'.IsRevStr a x t i := let ⟨o, ho, r⟩ := z; ⟨o, e _ ho, r⟩
end
section
variable {prog : Program} {w : World} {A : Around} {E : Value → Shared → Prop} {s : Shared}
end
end PySem
namespace L2
open PySem PySem.Spec PyProof.Rows
section
variable {X : Cx}
variable {o e : Expr} {to te : TE} {apos cpos rpos p2 : Pos}
theorem vals_rev {xs : List V} {its acc : List Value} (r : Vals xs its) (h : ItemsOf (fun i v => its.toArray[its.toArray.size - 1 - i]? = some v) acc.toArray its.toArray.size) : acc = its.reverse := by
  have hz : acc.length = its.length := by have := h.1; simpa using this
  refine List.ext_getElem? fun i => ?_
  by_cases hi : i < its.length
  · have ha : acc.toArray[i]? = some acc[i] := by simp [show i < acc.length by omega]
    have := h.2 i _ ha
    rw [List.getElem?_reverse hi, List.getElem?_eq_getElem (by omega)]
    simpa using this.symm
  · rw [List.getElem?_eq_none (by omega), List.getElem?_eq_none (by rw [List.length_reverse]; omega)]
def rNeL (K : PySem.W.Frag) : R2 := fun x y H Q => ∃ a b xs ys, x = .ref a ∧ y = .ref b ∧ SqL K H a xs ∧ SqL K H b ys ∧ xs.all flatV = true ∧ ys.all flatV = true ∧ Q (.bl (!eqVs xs ys)) H
theorem op_neL (hu : X.A.units < cLine) : OpR X (compareOp .NotEq) (rNeL X.K) := by
  intro pins s σ H x y v u Q I rx ry h
  obtain ⟨a, b, xs, ys, rfl, rfl, ha, hb, fx, fy, q⟩ := h
  cases (show v = Value.ref a from rx)
  cases (show u = Value.ref b from ry)
  obtain ⟨its, rv, p, _⟩ := I.list ha
  obtain ⟨its2, rv2, p2, _⟩ := I.list hb
  have l1 := rv.length
  have l2 := rv2.length
  by_cases hz : xs.length = ys.length
  · refine SeqAt.RcNeAt.lists (e := fun j => eqV (xs.getD j .non) (ys.getD j .non)) p.isList p2.isList (by simp [← l1, ← l2, hz]) hu (fun j h1 h2 => eqAt_items rv rv2 fx fy j h1 h2) X.prog X.w X.xe _ ?_
    have e : (List.range its.toArray.size).all (fun j => eqV (xs.getD j .non) (ys.getD j .non)) = eqVs xs ys := by
      rw [← eqVs_all hz]; simp [← l1]
    rw [e]
    exact ⟨.bl _, H, I, rfl, q⟩
  · rw [eqVs_len hz] at q
    exact SeqAt.RcNeAt.lists_lengths p.isList p2.isList (by simp [← l1, ← l2, hz]) hu X.prog X.w X.xe _ ⟨.bl _, H, I, rfl, q⟩
def oNeN (hu : X.A.units < cLine) := (op_ne (X := X)).or ((op_neT hu).or (op_neL hu))
end
end L2
namespace L2
open PySem PySem.Spec PyProof.Rows
section
variable {κ : Type} [DecidableEq κ]
def valV (kvs : List (κ × V)) (k : κ) : Option V := (kvs.find? fun kv => decide (kv.1 = k)).map (·.2)
def putK (kvs : List (κ × V)) (k : κ) (v : V) : List (κ × V) :=
  if (kvs.any fun kv => decide (kv.1 = k)) = true then kvs.map (fun kv => if kv.1 = k then (kv.1, v) else kv) else kvs ++ [(k, v)]
def dropK (kvs : List (κ × V)) (k : κ) : List (κ × V) := kvs.filter fun kv => decide (kv.1 ≠ k)
theorem valV_pos {p : κ × V} {r : List (κ × V)} {k : κ} (e : p.1 = k) : valV (p :: r) k = some p.2 := by simp [valV, List.find?_cons, e]
theorem valV_neg {p : κ × V} {r : List (κ × V)} {k : κ} (e : ¬ p.1 = k) : valV (p :: r) k = valV r k := by simp [valV, List.find?_cons, e]
theorem valV_any (k : κ) : ∀ kvs : List (κ × V), (kvs.any fun kv => decide (kv.1 = k)) = (valV kvs k).isSome
  | [] => rfl
  | p :: r => by
    rw [List.any_cons]
    by_cases e : p.1 = k
    · simp only [valV_pos e, decide_eq_true e, Bool.true_or, Option.isSome_some]
    · rw [valV_neg e, decide_eq_false e, Bool.false_or]; exact valV_any k r
theorem RelO.isSome_eq {o : Option V} {u : Option Value} (r : RelO o u) : o.isSome = u.isSome := by
  cases o with
  | none => cases u with
    | none => rfl
    | some _ => exact (show False from r).elim
  | some _ => cases u with
    | none => exact (show False from r).elim
    | some _ => rfl
theorem RelO.getD {o : Option V} {u : Option Value} {d : V} {d' : Value} (r : RelO o u) (rd : RelV d d') : RelV (o.getD d) (u.getD d') := by
  cases o with
  | none => cases u with
    | none => exact rd
    | some _ => exact (show False from r).elim
  | some _ => cases u with
    | none => exact (show False from r).elim
    | some _ => exact r
theorem KV.val {kvs : List (κ × V)} {vs : List (κ × Value)} (r : KV kvs vs) (k : κ) : RelO (valV kvs k) (valueAt vs k) := by
  unfold KV at r
  induction r with
  | nil => exact True.intro
  | @cons p q ps qs h t ih =>
    obtain ⟨h1, h2⟩ := h
    by_cases e : p.1 = k
    · have e' : q.1 = k := h1.symm.trans e
      have b : valueAt (q :: qs) k = some q.2 := by simp [valueAt, List.find?_cons, e']
      rw [valV_pos e, b]; exact h2
    · have e' : ¬ q.1 = k := fun z => e (h1.trans z)
      have b : valueAt (q :: qs) k = valueAt qs k := by simp [valueAt, List.find?_cons, e']
      rw [valV_neg e, b]; exact ih
theorem KV.any {kvs : List (κ × V)} {vs : List (κ × Value)} (r : KV kvs vs) (k : κ) : (kvs.any fun kv => decide (kv.1 = k)) = vs.any fun kv => decide (kv.1 = k) := by
  unfold KV at r
  induction r with
  | nil => rfl
  | cons h t ih => rw [List.any_cons, List.any_cons, ih, h.1]
theorem KV.repl {kvs : List (κ × V)} {vs : List (κ × Value)} (r : KV kvs vs) (k : κ) {y : V} {u : Value} (ry : RelV y u) :
    KV (kvs.map fun kv => if kv.1 = k then (kv.1, y) else kv) (vs.map fun kv => if kv.1 = k then (kv.1, u) else kv) := by
  unfold KV at r ⊢
  induction r with
  | nil => exact .nil
  | @cons p q ps qs h t ih =>
    rw [List.map_cons, List.map_cons]
    refine .cons ?_ ih
    obtain ⟨h1, h2⟩ := h
    by_cases e : p.1 = k
    · rw [if_pos e, if_pos (h1.symm.trans e)]; exact ⟨h1, ry⟩
    · rw [if_neg e, if_neg (fun z => e (h1.trans z))]; exact ⟨h1, h2⟩
theorem KV.put {kvs : List (κ × V)} {vs : List (κ × Value)} (r : KV kvs vs) (k : κ) {y : V} {u : Value} (ry : RelV y u) : KV (putK kvs k y) (stored vs k u) := by
  unfold putK stored
  rw [r.any k]
  by_cases e : (vs.any fun kv => decide (kv.1 = k)) = true
  · rw [if_pos e, if_pos e]; exact r.repl k ry
  · rw [if_neg e, if_neg e]; exact Paired.snoc r ⟨rfl, ry⟩
theorem KV.drop {kvs : List (κ × V)} {vs : List (κ × Value)} (r : KV kvs vs) (k : κ) : KV (dropK kvs k) (without vs k) := by
  unfold KV at r ⊢
  unfold dropK without
  induction r with
  | nil => exact .nil
  | @cons p q ps qs h t ih =>
    obtain ⟨h1, h2⟩ := h
    rw [List.filter_cons, List.filter_cons]
    by_cases e : p.1 = k
    · have a : ¬ decide (p.1 ≠ k) = true := by simp [e]
      have b : ¬ decide (q.1 ≠ k) = true := by simp [h1.symm.trans e]
      rw [if_neg a, if_neg b]; exact ih
    · have e' : ¬ q.1 = k := fun z => e (h1.trans z)
      have a : decide (p.1 ≠ k) = true := by simp [e]
      have b : decide (q.1 ≠ k) = true := by simp [e']
      rw [if_pos a, if_pos b]; exact .cons ⟨h1, h2⟩ ih
theorem KV.keys {kvs : List (κ × V)} {vs : List (κ × Value)} (r : KV kvs vs) : kvs.map (·.1) = vs.map (·.1) := by
  unfold KV at r
  induction r with
  | nil => rfl
  | cons h t ih => rw [List.map_cons, List.map_cons, ih, h.1]
theorem KV.length {kvs : List (κ × V)} {vs : List (κ × Value)} (r : KV kvs vs) : kvs.length = vs.length := Paired.length r
end
abbrev KT (H : Hp) : List (List Key × V) → List (List Key × Addr × Value) → Prop := Paired fun p q => p.1 = q.1 ∧ H q.2.1 = some (.tup (p.1.map kV)) ∧ RelV p.2 q.2.2
theorem KT.val {H : Hp} {kvs : List (List Key × V)} {xs : List (List Key × Addr × Value)} (r : KT H kvs xs) (k : List Key) : RelO (valV kvs k) ((atKey xs k).map (·.2)) := by
  induction r with
  | nil => exact True.intro
  | @cons p q ps qs h t ih =>
    obtain ⟨h1, _, h2⟩ := h
    by_cases e : p.1 = k
    · have e' : q.1 = k := h1.symm.trans e
      have b : atKey (q :: qs) k = some q.2 := by simp [atKey, List.find?_cons, e']
      rw [valV_pos e, b]; exact h2
    · have e' : ¬ q.1 = k := fun z => e (h1.trans z)
      have b : atKey (q :: qs) k = atKey qs k := by simp [atKey, List.find?_cons, e']
      rw [valV_neg e, b]; exact ih
theorem KT.repl {H : Hp} {kvs : List (List Key × V)} {xs : List (List Key × Addr × Value)} (r : KT H kvs xs) (k : List Key) {y : V} {u : Value} (ry : RelV y u) :
    KT H (kvs.map fun kv => if kv.1 = k then (kv.1, y) else kv) (xs.map (putAt k u)) := by
  induction r with
  | nil => exact .nil
  | @cons p q ps qs h t ih =>
    rw [List.map_cons, List.map_cons]
    refine .cons ?_ ih
    obtain ⟨h1, h2, h3⟩ := h
    unfold putAt
    by_cases e : p.1 = k
    · rw [if_pos e, if_pos (h1.symm.trans e)]; exact ⟨h1, h2, ry⟩
    · rw [if_neg e, if_neg (fun z => e (h1.trans z))]; exact ⟨h1, h2, h3⟩
theorem KT.put {H : Hp} {kvs : List (List Key × V)} {xs : List (List Key × Addr × Value)} (r : KT H kvs xs) (k : List Key) {b : Addr} {y : V} {u : Value} (hb : H b = some (.tup (k.map kV))) (ry : RelV y u) :
    KT H (putK kvs k y) (storedH xs k b u) := by
  have e : (kvs.any fun kv => decide (kv.1 = k)) = (atKey xs k).isSome := by
    rw [valV_any, (r.val k).isSome_eq, Option.isSome_map]
  unfold putK storedH
  rw [e]
  by_cases q : (atKey xs k).isSome = true
  · rw [if_pos q, if_pos q]; exact r.repl k ry
  · rw [if_neg q, if_neg q]; exact Paired.snoc r ⟨rfl, hb, ry⟩
theorem KT.keeps {H H' : Hp} {kvs : List (List Key × V)} {xs : List (List Key × Addr × Value)} (r : KT H kvs xs) (ht : ∀ b ys, H b = some (.tup ys) → H' b = some (.tup ys)) : KT H' kvs xs :=
  Paired.mapP r fun _ _ z => ⟨z.1, ht _ _ z.2.1, z.2.2⟩
section
variable {P : Program} {w : World} {H : Hp} {h : Heap} {a : Addr}
end
def DGet (H : Hp) (a : Addr) (y : V) (r : Option V) : Prop :=
  (∃ kvs k, Rd H a (.dK kvs) ∧ y = kV k ∧ r = valV kvs k) ∨ ∃ kvs k b, Rd H a (.dT kvs) ∧ y = .ref b ∧ H b = some (.tup (k.map kV)) ∧ r = valV kvs k
def DPut (H : Hp) (a : Addr) (y v : V) (H' : Hp) : Prop :=
  (∃ kvs k, H a = some (.dK kvs) ∧ y = kV k ∧ kvs.length < sizeLine ∧ H' = upd H a (.dK (putK kvs k v))) ∨
  ∃ kvs k b, H a = some (.dT kvs) ∧ y = .ref b ∧ H b = some (.tup (k.map kV)) ∧ kvs.length < sizeLine ∧ H' = upd H a (.dT (putK kvs k v))
theorem DGet.k {H : Hp} {a : Addr} {kvs : List (Key × V)} {k : Key} (e : H a = some (.dK kvs)) : DGet H a (kV k) (valV kvs k) := .inl ⟨kvs, k, .inl e, rfl, rfl⟩
theorem DGet.t {H : Hp} {a b : Addr} {kvs : List (List Key × V)} {k : List Key} (e : H a = some (.dT kvs)) (eb : H b = some (.tup (k.map kV))) : DGet H a (.ref b) (valV kvs k) := .inr ⟨kvs, k, b, .inl e, rfl, eb, rfl⟩
theorem DPut.k {H : Hp} {a : Addr} {kvs : List (Key × V)} {k : Key} {v : V} (e : H a = some (.dK kvs)) (hl : kvs.length < sizeLine) : DPut H a (kV k) v (upd H a (.dK (putK kvs k v))) := .inl ⟨kvs, k, e, rfl, hl, rfl⟩
theorem DPut.t {H : Hp} {a b : Addr} {kvs : List (List Key × V)} {k : List Key} {v : V} (e : H a = some (.dT kvs)) (eb : H b = some (.tup (k.map kV))) (hl : kvs.length < sizeLine) :
    DPut H a (.ref b) v (upd H a (.dT (putK kvs k v))) := .inr ⟨kvs, k, b, e, rfl, eb, hl, rfl⟩
section
variable {X : Cx} {pins : List (Addr × Obj)} {σ : St} {H : Hp} {s : Shared} {a : Addr} {y v : V} {u r : Value} {o : Option V} {A : Around} {E : Value → Shared → Prop}
end
section
variable {X : Cx} {pins : List (Addr × Obj)} {σ : St} {H : Hp} {s : Shared} {a : Addr} {kvs : List (Key × V)} {k : Key} {u : Value} {A : Around} {E : Value → Shared → Prop}
end
section
variable {X : Cx} {o i e value : Expr} {pos pos' tpos : Pos} {td ty tv : TE}
end
section
variable {X : Cx} {pos : Pos}
end
structure M1 (X : Cx) (o : Expr) (m : Str) (apos : Pos) (e : Expr) (cpos : Pos) : Prop where
  base : attributeBase o m X.env (eval o X.env) = eval o X.env
  few : ((backTo cpos (starEach [e] X.env)).all (fun x => !x.1) && (backToKw cpos (keywordEach [] X.env)).all (fun x => x.1.isSome)
    && decide (([e] : List Expr).length + ([] : List Keyword).length + (if ([] : List Keyword).isEmpty then 0 else 1) < 30)) = true
  line : (apos.endLine == cpos.line) = true
  trees : backTo cpos (starEach [e] X.env) = [(false, eval e X.env)]
structure M2 (X : Cx) (o : Expr) (m : Str) (apos : Pos) (e f : Expr) (cpos : Pos) : Prop where
  base : attributeBase o m X.env (eval o X.env) = eval o X.env
  few : ((backTo cpos (starEach [e, f] X.env)).all (fun x => !x.1) && (backToKw cpos (keywordEach [] X.env)).all (fun x => x.1.isSome)
    && decide (([e, f] : List Expr).length + ([] : List Keyword).length + (if ([] : List Keyword).isEmpty then 0 else 1) < 30)) = true
  line : (apos.endLine == cpos.line) = true
  trees : backTo cpos (starEach [e, f] X.env) = [(false, eval e X.env), (false, eval f X.env)]
section
variable {X : Cx} {pins : List (Addr × Obj)} {σ : St} {H : Hp} {s : Shared} {a : Addr} {y d : V} {u r : Value} {o : Option V} {A : Around} {E : Value → Shared → Prop}
end
section
variable {X : Cx} {o e f : Expr} {apos cpos : Pos} {td ty tx : TE}
end
section
variable {X : Cx} {pins : List (Addr × Obj)} {σ : St} {H : Hp} {s : Shared} {a : Addr} {kvs : List (Key × V)} {A : Around} {E : Value → Shared → Prop}
end
section
variable {X : Cx} {pins : List (Addr × Obj)} {σ : St} {H : Hp} {s : Shared} {a : Addr} {y : V} {u : Value} {A : Around} {E : Value → Shared → Prop}
end
end L2
namespace L2
open PySem PySem.Spec PyProof.Rows
section
variable {X : Cx}
end
section
variable {κ : Type} [DecidableEq κ]
end
end L2
namespace L2
open PySem PySem.Spec PyProof.Rows
section
variable {X : Cx} {pins : List (Addr × Obj)} {σ : St} {H : Hp} {s : Shared} {h' : Heap}
end
section
variable {X : Cx}
end
end L2
namespace L2
open PySem PySem.Spec PyProof.Rows
section
variable {X : Cx}
end
end L2
namespace L2
open PySem PySem.Spec PyProof.Rows
structure DEnt (o : Obj) (es : Array DictEntry) (ep : Nat) : Prop where
  ex : o.ExactDict
  da : o.data = .dict es ep
section
variable {prog : Program} {w : World} {A : Around} {E : Value → Shared → Prop} {s : Shared} {o : Obj} {es : Array DictEntry} {ep : Nat} {it d : Addr} {i : Nat}
theorem DEnt.typeIs (D : DEnt o es ep) (ho : s.heap.get? d = some o) : s.TypeIs (.ref d) "dict" := ⟨o, ho, D.ex.1⟩
end
section
variable {X : Cx}
end
end L2
namespace L2
open PySem PySem.Spec PyProof.Rows
section
variable {X : Cx}
end
end L2
namespace L2
open PySem PySem.Spec PyProof.Rows
section
variable {X : Cx}
theorem mt_popL : MtR X "list.pop" rPop := mt_pop (X := X)
def rEqE (K : PySem.W.Frag) (neg : Bool) : R2 := fun x y H Q => ∃ a b xs, x = .ref a ∧ y = .ref b ∧ SqL K H a xs ∧ SqL K H b [] ∧ Q (.bl (if neg then !xs.isEmpty else xs.isEmpty)) H
theorem op_eqE (hu : X.A.units < cLine) : OpR X (compareOp .Eq) (rEqE X.K false) := by
  intro pins s σ H x y v u Q I rx ry h
  obtain ⟨a, b, xs, rfl, rfl, ha, hb, q⟩ := h
  cases (show v = Value.ref a from rx)
  cases (show u = Value.ref b from ry)
  obtain ⟨its, rv, p, _⟩ := I.list ha
  obtain ⟨its2, rv2, p2, _⟩ := I.list hb
  have l1 := rv.length
  have l2 := rv2.length
  cases xs with
  | nil =>
    exact op_eqL hu pins s σ H _ _ _ _ Q I rx ry ⟨a, b, [], [], rfl, rfl, ha, hb, rfl, rfl, q⟩
  | cons z zs =>
    exact SeqAt.eq_list_lengthsAt p.isList p2.isList (by simp [← l1, ← l2]) hu ⟨.bl _, H, I, rfl, q⟩
theorem op_neE (hu : X.A.units < cLine) : OpR X (compareOp .NotEq) (rEqE X.K true) := by
  intro pins s σ H x y v u Q I rx ry h
  obtain ⟨a, b, xs, rfl, rfl, ha, hb, q⟩ := h
  cases (show v = Value.ref a from rx)
  cases (show u = Value.ref b from ry)
  obtain ⟨its, rv, p, _⟩ := I.list ha
  obtain ⟨its2, rv2, p2, _⟩ := I.list hb
  have l1 := rv.length
  have l2 := rv2.length
  cases xs with
  | nil =>
    exact op_neL hu pins s σ H _ _ _ _ Q I rx ry ⟨a, b, [], [], rfl, rfl, ha, hb, rfl, rfl, q⟩
  | cons z zs =>
    exact SeqAt.RcNeAt.lists_lengths p.isList p2.isList (by simp [← l1, ← l2]) hu X.prog X.w X.xe _ ⟨.bl _, H, I, rfl, q⟩
def rEqS (K : PySem.W.Frag) : R2 := fun x y H Q => ∃ a xs, x = .ref a ∧ y = .ref a ∧ SqT K H a xs ∧ Q (.bl true) H
theorem op_eqS (hu : X.A.units < cLine) : OpR X (compareOp .Eq) (rEqS X.K) := by
  intro pins s σ H x y v u Q I rx ry h
  obtain ⟨a, xs, rfl, rfl, ha, q⟩ := h
  cases (show v = Value.ref a from rx)
  cases (show u = Value.ref a from ry)
  obtain ⟨its, rv, p, _⟩ := I.tuple ha
  refine SeqAt.eq_tupleAt (e := fun _ => true) p p hu (fun j h1 h2 => SeqAt.EqAt.same _) ?_
  refine ⟨.bl true, H, I, ?_, q⟩
  show Value.bool _ = Value.bool true
  congr 1
  simp
def oEqW (hu : X.A.units < cLine) := (oEqA (X := X) hu).or ((op_eqE hu).or (op_eqS hu))
def oNeW (hu : X.A.units < cLine) := (oNeN (X := X) hu).or (op_neE hu)
end
end L2
namespace L2
open PySem PySem.Spec PyProof.Rows
section
variable {prog : Program} {w : World} {A : Around} {E : Value → Shared → Prop} {s : Shared} {it t : Addr} {i : Nat} {items : Array Value} {x : Value}
theorem tup_item {Q : Value → Shared → Prop} (hit : s.heap.IsTupleIter it t i) (ht : s.heap.IsTuple t items) (hx : items[i]? = some x)
    (q : ∀ h', Heap.IsTupleIter h' it t (i + 1) → Heap.SameBut it s.heap h' → Q x { s with heap := h' }) : wpAny (model prog w) A (Builtin.SmallTypes.nextOf (.ref it)) Q E s := by
  obtain ⟨o, ho, hc, hd⟩ := id hit
  obtain ⟨ot, hot, hoc, n, hod⟩ := ht
  have hty : s.TypeIs (.ref it) "tuple_iterator" := ⟨o, ho, hc⟩
  unfold Builtin.SmallTypes.nextOf
  refine wpAny_bind (wpAny_callSpecial?_slot (name := Str.ofString "__next__") hty F.slot_tuple_iterator_next
    (wpAny_call_entry F.slot_tuple_iterator_next hty F.entry_tuple_iterator_next ?_ (F.args_tuple_iterator_next_1 _)))
  have e1 : slotArgs "__next__" 0 { pos := [.ref it] } = pure (.ref it, []) := rfl
  show wpAny _ _ (slotArgs "__next__" 0 { pos := [.ref it] } >>= _) _ _ _
  rw [e1]
  refine wpAny_bind (wpAny_pure ?_)
  refine wpAny_bind (wpAny_field ho hd (x := .ref t) rfl ?_)
  show wpAny _ _ (field (.ref it) 1 >>= _) _ _ _
  refine wpAny_bind (wpAny_field ho hd (x := .int i 0) rfl ?_)
  show wpAny _ _ (seqItems? (.ref t) >>= _) _ _ _
  refine wpAny_bind (wpAny_seqItems hot hod ?_)
  have e3 : items[(i : Int).toNat]? = some x := by rw [Int.toNat_natCast]; exact hx
  dsimp only
  rw [e3]
  dsimp only
  refine wpAny_bind (wpAny_setField ho hd (by show 1 < 2; decide) ?_)
  have hit' : (s.heap.update it (Obj.mapFields (·.setIfInBounds 1 (rawInt ((i : Int) + 1))))).IsTupleIter it t (i + 1) :=
    ⟨_, Heap.get?_update_self _ ho (Obj.isFreed_of_fields (Obj.data_mapFields hd _)), (Obj.cls_mapFields ..).trans hc, by rw [Obj.data_mapFields hd]; simp [rawInt]⟩
  exact wpAny_pure ⟨_, rfl, wpAny_pure (q _ hit' (Heap.SameBut.update ..))⟩
theorem tup_end {Q : Value → Shared → Prop} (hh : A.handled = none) (hit : s.heap.IsTupleIter it t i) (ht : s.heap.IsTuple t items) (hx : items[i]? = none)
    (q : ∀ (h' : Heap) (e : Addr), Heap.ExtBut it s.heap h' → (∃ o, h'.get? e = some o ∧ o.cls = Value.type "StopIteration") → E (.ref e) { s with heap := h' }) : wpAny (model prog w) A (Builtin.SmallTypes.nextOf (.ref it)) Q E s := by
  obtain ⟨o, ho, hc, hd⟩ := id hit
  obtain ⟨ot, hot, hoc, n, hod⟩ := ht
  have hty : s.TypeIs (.ref it) "tuple_iterator" := ⟨o, ho, hc⟩
  unfold Builtin.SmallTypes.nextOf
  refine wpAny_bind (wpAny_callSpecial?_slot (name := Str.ofString "__next__") hty F.slot_tuple_iterator_next
    (wpAny_call_entry F.slot_tuple_iterator_next hty F.entry_tuple_iterator_next ?_ (F.args_tuple_iterator_next_1 _)))
  have e1 : slotArgs "__next__" 0 { pos := [.ref it] } = pure (.ref it, []) := rfl
  show wpAny _ _ (slotArgs "__next__" 0 { pos := [.ref it] } >>= _) _ _ _
  rw [e1]
  refine wpAny_bind (wpAny_pure ?_)
  refine wpAny_bind (wpAny_field ho hd (x := .ref t) rfl ?_)
  show wpAny _ _ (field (.ref it) 1 >>= _) _ _ _
  refine wpAny_bind (wpAny_field ho hd (x := .int i 0) rfl ?_)
  show wpAny _ _ (seqItems? (.ref t) >>= _) _ _ _
  refine wpAny_bind (wpAny_seqItems hot hod ?_)
  have e3 : items[(i : Int).toNat]? = none := by rw [Int.toNat_natCast]; exact hx
  dsimp only
  rw [e3]
  show wpAny _ _ (setField (.ref it) 0 .none >>= _) _ _ s
  refine wpAny_bind (wpAny_setField ho hd (by show 0 < 2; decide) ?_)
  show wpAny _ _ (newExc (.type "StopIteration") [] >>= _) _ _ _
  refine wpAny_bind ?_
  simp only [newExc, newTuple]
  refine wpAny_bind (wpAny_newObj_type ?_ (by size_fits))
  refine wpAny_bind (m := firstArgMember _ _) (wpAny_of_eq (a := Value.none) (by first | rfl | (simp only [firstArgMember]; rfl)) ?_)
  refine wpAny_newObj_type ?_ (by size_fits)
  simp only [raiseNew]
  refine wpAny_bind (wpAny_handled ?_)
  rw [show A.in1.handled = none from hh]
  refine wpAny_bind (wpAny_pure (wpAny_throw ?_))
  exact q _ _ (((Heap.SameBut.update ..).extBut.push _).push _) ⟨_, Heap.get?_push_size _ rfl, rfl⟩
theorem tup_stay {h h' : Heap} {t : Addr} {items : Array Value} (ht : h.IsTuple t items) (k : ∀ o, h.get? t = some o → h'.get? t = some o) : h'.IsTuple t items := by
  obtain ⟨ot, hot, r⟩ := ht
  exact ⟨ot, k _ hot, r⟩
theorem draws_tuple (hh : A.handled = none) (it t : Addr) (hne : t ≠ it) (items : Array Value) :
    Draws prog w A it [it, t] items.size (fun i v => items[i]? = some v) (fun i h => h.IsTupleIter it t i ∧ h.IsTuple t items) where
  live := fun i h ⟨⟨o, ho, _⟩, _⟩ => ⟨o, ho⟩
  frame := fun i h h' ⟨⟨o, ho, r⟩, ht⟩ k => ⟨⟨o, k it (by simp) o ho, r⟩, tup_stay ht (k t (by simp))⟩
  item := fun i s Q E hi ⟨hit, ht⟩ q => tup_item hit ht (Array.getElem?_eq_getElem hi) fun h' h1 h2 => q _ h' s.toks (Array.getElem?_eq_getElem hi) ⟨h1, tup_stay ht fun o ho => by rw [h2.2 t hne]; exact ho⟩ h2
  done := fun s Q E ⟨hit, ht⟩ q => tup_end hh hit ht (by simp) q
structure ZApart (z TI TO i1 i2 : Addr) : Prop where
  a1 : TI ≠ z
  a2 : TO ≠ z
  a3 : i1 ≠ z
  a4 : i2 ≠ z
  a5 : TI ≠ TO
  a6 : TI ≠ i1
  a7 : TI ≠ i2
  a8 : TO ≠ i1
  a9 : TO ≠ i2
  a0 : i1 ≠ i2
theorem zip_item {n1 n2 : Nat} {P1 P2 : Nat → Value → Prop} {S1 S2 : Nat → Heap → Prop} {fp1 fp2 : List Addr} {z TI TO i1 i2 : Addr} {a b : Value} {Q : Option Value → Shared → Prop}
    (D1 : Draws prog w A.in1 i1 fp1 n1 P1 S1) (D2 : Draws prog w A.in1 i2 fp2 n2 P2 S2) (ap : ZApart z TI TO i1 i2) (f1 : z ∉ fp1 ∧ TO ∉ fp1 ∧ i2 ∉ fp1) (f2 : z ∉ fp2 ∧ TO ∉ fp2 ∧ i1 ∉ fp2)
    (hz : IsZip s.heap z TI TO .none) (hI : IsPair s.heap TI (.ref i1) (.ref i2)) (hO : IsPair s.heap TO a b) (h1 : S1 i s.heap) (h2 : S2 i s.heap) (l1 : i < n1) (l2 : i < n2)
    (q : ∀ (x y : Value) (h' : Heap) (tk : Nat), P1 i x → P2 i y → IsZip h' z TI TO (rawInt s.heap.objs.size) → IsPair h' TO x y → IsPair h' TI (.ref i1) (.ref i2) → S1 (i + 1) h' → S2 (i + 1) h' → IsPair h' s.heap.objs.size x y → h'.objs.size = s.heap.objs.size + 1 →
      (∀ c o, c ≠ z → c ≠ TO → c ≠ i1 → c ≠ i2 → s.heap.get? c = some o → h'.get? c = some o) → Q (some (.ref s.heap.objs.size)) { s with heap := h', toks := tk }) :
    wpAny (model prog w) A (pyNext (.ref z)) Q E s := by
  have hty : s.TypeIs (.ref z) "zip" := ⟨_, hz, rfl⟩
  unfold pyNext
  refine wpAny_bind (wpAny_attempt (wpAny_callSpecial?_slot (name := Str.ofString "__next__") hty F.slot_zip_next
    (wpAny_call_entry F.slot_zip_next hty F.entry_zip_next ?_ (F.args_zip_next_1 _))))
  have e1 : slotArgs "__next__" 0 { pos := [.ref z] } = pure (.ref z, []) := rfl
  show wpAny _ _ (slotArgs "__next__" 0 { pos := [.ref z] } >>= _) _ _ _
  rw [e1]
  refine wpAny_bind (wpAny_pure ?_)
  refine wpAny_bind (wpAny_field hz rfl (x := .bool false) rfl ?_)
  refine wpAny_bind (wpAny_field hz rfl (x := .ref TI) rfl ?_)
  refine wpAny_bind (wpAny_seqItems hI rfl ?_)
  show wpAny _ _ (Builtin.SmallTypes.ownedTupleIsFree (.ref z) >>= _) _ _ _
  unfold Builtin.SmallTypes.ownedTupleIsFree
  refine wpAny_bind (wpAny_bind (wpAny_field hz rfl (x := .none) rfl (wpAny_pure ?_)))
  show wpAny _ _ (field (.ref z) 4 >>= _) _ _ _
  refine wpAny_bind (wpAny_field hz rfl (x := .ref TO) rfl ?_)
  refine wpAny_bind (wpAny_setField_rec hz (by show 0 < 5; decide) fun g1 hz1 b1 => ?_)
  have fz : ∀ (fp : List Addr), z ∉ fp → ∀ b ∈ fp, b ≠ z := fun fp h b hb e => h (e ▸ hb)
  have fO : ∀ (fp : List Addr), TO ∉ fp → ∀ b ∈ fp, b ≠ TO := fun fp h b hb e => h (e ▸ hb)
  have h11 : S1 i g1 := D1.frame i _ _ h1 fun b hb o ho => by rw [b1.2 b (fz _ f1.1 b hb)]; exact ho
  have h21 : S2 i g1 := D2.frame i _ _ h2 fun b hb o ho => by rw [b1.2 b (fz _ f2.1 b hb)]; exact ho
  have hO1 : IsPair g1 TO a b := by show g1.get? TO = _; rw [b1.2 TO ap.a2]; exact hO
  have hI1 : IsPair g1 TI (.ref i1) (.ref i2) := by show g1.get? TI = _; rw [b1.2 TI ap.a1]; exact hI
  refine wpAny_bind ?_
  show wpAny _ _ (forIn [(Value.ref i1, 0), (Value.ref i2, 1)] (none, ()) _) _ _ _
  rw [List.forIn_cons]
  refine wpAny_bind ?_
  dsimp only
  refine wpAny_bind (wpAny_onRaise ?_)
  show wpAny _ _ (Builtin.SmallTypes.nextOf (.ref i1) >>= fun v => pure (some v)) _ _ _
  refine wpAny_bind (D1.item i _ _ _ l1 h11 fun x g2 tk hP1 h12 b2 => wpAny_pure ?_)
  dsimp only at b2 ⊢
  have hz2 : g2.get? z = some { cls := Value.type "zip", data := Data.fields #[.ellipsis, .bool false, .bool false, .ref TI, .ref TO] } := by rw [b2.2 z (Ne.symm ap.a3)]; exact hz1
  have hO2 : IsPair g2 TO a b := by show g2.get? TO = _; rw [b2.2 TO ap.a8]; exact hO1
  have hI2 : IsPair g2 TI (.ref i1) (.ref i2) := by show g2.get? TI = _; rw [b2.2 TI ap.a6]; exact hI1
  have h22 : S2 i g2 := D2.frame i _ _ h21 fun b hb o ho => by rw [b2.2 b (fun e => f2.2.2 (e ▸ hb))]; exact ho
  refine wpAny_bind (wpAny_seqItems hO2 rfl ?_)
  dsimp only
  refine wpAny_bind (wpAny_updateSeq_pair hO2 fun g3 hO3 b3 => ?_)
  refine wpAny_bind (wpAny_letGo (wpAny_pure ?_))
  dsimp only
  have hO3' : IsPair g3 TO x b := hO3
  have hz3 : g3.get? z = some { cls := Value.type "zip", data := Data.fields #[.ellipsis, .bool false, .bool false, .ref TI, .ref TO] } := by rw [b3.2 z (Ne.symm ap.a2)]; exact hz2
  have hI3 : IsPair g3 TI (.ref i1) (.ref i2) := by show g3.get? TI = _; rw [b3.2 TI ap.a5]; exact hI2
  have h13 : S1 (i + 1) g3 := D1.frame _ _ _ h12 fun b hb o ho => by rw [b3.2 b (fO _ f1.2.1 b hb)]; exact ho
  have h23 : S2 i g3 := D2.frame i _ _ h22 fun b hb o ho => by rw [b3.2 b (fO _ f2.2.1 b hb)]; exact ho
  rw [List.forIn_cons]
  refine wpAny_bind ?_
  dsimp only
  refine wpAny_bind (wpAny_onRaise ?_)
  show wpAny _ _ (Builtin.SmallTypes.nextOf (.ref i2) >>= fun v => pure (some v)) _ _ _
  refine wpAny_bind (D2.item i _ _ _ l2 h23 fun y g4 tk2 hP2 h24 b4 => wpAny_pure ?_)
  dsimp only at b4 ⊢
  have hz4 : g4.get? z = some { cls := Value.type "zip", data := Data.fields #[.ellipsis, .bool false, .bool false, .ref TI, .ref TO] } := by rw [b4.2 z (Ne.symm ap.a4)]; exact hz3
  have hO4 : IsPair g4 TO x b := by show g4.get? TO = _; rw [b4.2 TO ap.a9]; exact hO3'
  have hI4 : IsPair g4 TI (.ref i1) (.ref i2) := by show g4.get? TI = _; rw [b4.2 TI ap.a7]; exact hI3
  have h14 : S1 (i + 1) g4 := D1.frame _ _ _ h13 fun b hb o ho => by rw [b4.2 b (fun e => f1.2.2 (e ▸ hb))]; exact ho
  refine wpAny_bind (wpAny_seqItems hO4 rfl ?_)
  dsimp only
  refine wpAny_bind (wpAny_updateSeq_pair hO4 fun g5 hO5 b5 => ?_)
  refine wpAny_bind (wpAny_letGo (wpAny_pure ?_))
  dsimp only
  have hO5' : IsPair g5 TO x y := hO5
  have hz5 : g5.get? z = some { cls := Value.type "zip", data := Data.fields #[.ellipsis, .bool false, .bool false, .ref TI, .ref TO] } := by rw [b5.2 z (Ne.symm ap.a2)]; exact hz4
  have hI5 : IsPair g5 TI (.ref i1) (.ref i2) := by show g5.get? TI = _; rw [b5.2 TI ap.a5]; exact hI4
  have h15 : S1 (i + 1) g5 := D1.frame _ _ _ h14 fun b hb o ho => by rw [b5.2 b (fO _ f1.2.1 b hb)]; exact ho
  have h25 : S2 (i + 1) g5 := D2.frame _ _ _ h24 fun b hb o ho => by rw [b5.2 b (fO _ f2.2.1 b hb)]; exact ho
  have sz5 : g5.objs.size = s.heap.objs.size := by rw [b5.1, b4.1, b3.1, b2.1, b1.1]
  rw [List.forIn_nil]
  refine wpAny_pure ?_
  dsimp only
  refine wpAny_bind (wpAny_seqItems hO5' rfl ?_)
  dsimp only
  refine wpAny_bind (wpAny_newTuple ?_ (by show 2 ≤ sizeLine; decide))
  dsimp only
  rw [sz5]
  show wpAny _ _ (Builtin.SmallTypes.ownedTupleHandOut (.ref z) (.ref s.heap.objs.size) >>= _) _ _ _
  unfold Builtin.SmallTypes.ownedTupleHandOut
  have hz6 : (g5.push { cls := Value.type "tuple", data := Data.seq [x, y].toArray }).get? z = some { cls := Value.type "zip", data := Data.fields #[.ellipsis, .bool false, .bool false, .ref TI, .ref TO] } := Heap.get?_push_of_some _ hz5
  refine wpAny_bind (wpAny_bind (wpAny_setField_rec hz6 (by show 0 < 5; decide) fun g7 hz7 b7 => ?_))
  refine wpAny_setField_rec hz7 (by show 1 < 5; decide) fun g8 hz8 b8 => ?_
  refine wpAny_pure ⟨_, rfl, wpAny_pure ?_⟩
  replace b7 : Heap.SameBut z (g5.push { cls := Value.type "tuple", data := Data.seq [x, y].toArray }) g7 := b7
  replace b8 : Heap.SameBut z g7 g8 := b8
  have up : ∀ c o, c ≠ z → g5.get? c = some o → g8.get? c = some o := fun c o hc h => by
    rw [b8.2 c hc, b7.2 c hc]; exact Heap.get?_push_of_some _ h
  have up' : ∀ (fp : List Addr), z ∉ fp → ∀ c ∈ fp, ∀ o, g5.get? c = some o → g8.get? c = some o := fun fp h c hc o ho => up c o (fun e => h (e ▸ hc)) ho
  have nz : s.heap.objs.size ≠ z := Nat.ne_of_gt (Heap.lt_size hz)
  refine q x y g8 tk2 hP1 hP2 hz8 (up _ _ ap.a2 hO5') (up _ _ ap.a1 hI5) (D1.frame _ _ _ h15 (up' _ f1.1)) (D2.frame _ _ _ h25 (up' _ f2.1)) ?_ ?_ ?_
  · show g8.get? _ = _
    rw [b8.2 _ nz, b7.2 _ nz, ← sz5]
    exact Heap.get?_push_size _ rfl
  · rw [b8.1, b7.1, Heap.size_push, sz5]
  · intro c o hc1 hc2 hc3 hc4 ho
    refine up c o hc1 ?_
    rw [b5.2 c hc2, b4.2 c hc4, b3.2 c hc2, b2.2 c hc3, b1.2 c hc1]
    exact ho
theorem zip_end {n1 : Nat} {P1 : Nat → Value → Prop} {S1 : Nat → Heap → Prop} {fp1 : List Addr} {z TI TO i1 i2 : Addr} {a b : Value} {Q : Option Value → Shared → Prop}
    (D1 : Draws prog w A.in1 i1 fp1 n1 P1 S1) (ap : ZApart z TI TO i1 i2) (f1 : z ∉ fp1)
    (hz : IsZip s.heap z TI TO .none) (hI : IsPair s.heap TI (.ref i1) (.ref i2)) (hO : IsPair s.heap TO a b) (h1 : S1 n1 s.heap)
    (q : ∀ (h' : Heap), (∀ c o, c ≠ z → c ≠ i1 → s.heap.get? c = some o → h'.get? c = some o) → Q none { s with heap := h' }) :
    wpAny (model prog w) A (pyNext (.ref z)) Q E s := by
  have hty : s.TypeIs (.ref z) "zip" := ⟨_, hz, rfl⟩
  unfold pyNext
  refine wpAny_bind (wpAny_attempt (wpAny_callSpecial?_slot (name := Str.ofString "__next__") hty F.slot_zip_next
    (wpAny_call_entry F.slot_zip_next hty F.entry_zip_next ?_ (F.args_zip_next_1 _))))
  have e1 : slotArgs "__next__" 0 { pos := [.ref z] } = pure (.ref z, []) := rfl
  show wpAny _ _ (slotArgs "__next__" 0 { pos := [.ref z] } >>= _) _ _ _
  rw [e1]
  refine wpAny_bind (wpAny_pure ?_)
  refine wpAny_bind (wpAny_field hz rfl (x := .bool false) rfl ?_)
  refine wpAny_bind (wpAny_field hz rfl (x := .ref TI) rfl ?_)
  refine wpAny_bind (wpAny_seqItems hI rfl ?_)
  show wpAny _ _ (Builtin.SmallTypes.ownedTupleIsFree (.ref z) >>= _) _ _ _
  unfold Builtin.SmallTypes.ownedTupleIsFree
  refine wpAny_bind (wpAny_bind (wpAny_field hz rfl (x := .none) rfl (wpAny_pure ?_)))
  show wpAny _ _ (field (.ref z) 4 >>= _) _ _ _
  refine wpAny_bind (wpAny_field hz rfl (x := .ref TO) rfl ?_)
  refine wpAny_bind (wpAny_setField_rec hz (by show 0 < 5; decide) fun g1 hz1 b1 => ?_)
  have h11 : S1 n1 g1 := D1.frame _ _ _ h1 fun b hb o ho => by rw [b1.2 b (fun e => f1 (e ▸ hb))]; exact ho
  refine wpAny_bind ?_
  show wpAny _ _ (forIn [(Value.ref i1, 0), (Value.ref i2, 1)] (none, ()) _) _ _ _
  rw [List.forIn_cons]
  refine wpAny_bind ?_
  dsimp only
  refine wpAny_bind (wpAny_onRaise ?_)
  show wpAny _ _ (Builtin.SmallTypes.nextOf (.ref i1) >>= fun v => pure (some v)) _ _ _
  refine wpAny_bind (D1.done _ _ _ h11 fun g2 e b2 he => ?_)
  have hz2 : g2.get? z = some { cls := Value.type "zip", data := Data.fields #[.ellipsis, .bool false, .bool false, .ref TI, .ref TO] } := b2 z _ (Ne.symm ap.a3) hz1
  refine wpAny_setField_rec hz2 (by show 0 < 5; decide) fun g3 hz3 b3 => ?_
  replace b3 : Heap.SameBut z g2 g3 := b3
  obtain ⟨oe, ho, hc⟩ := he
  have ne : e ≠ z := fun e' => by rw [e', hz2] at ho; cases ho; exact absurd (Value.type.inj hc) (by decide)
  refine wpAny_bind (wpAny_isInstance (T := "StopIteration") (b := true) ⟨oe, by show g3.get? e = _; rw [b3.2 e ne]; exact ho, hc⟩ isSubtype_stop ?_)
  refine wpAny_pure (q g3 fun c o hc1 hc2 ho => ?_)
  rw [b3.2 c hc1]
  exact b2 c o hc2 (by rw [b1.2 c hc1]; exact ho)
def zHeap (h : Heap) (o1 o2 : Obj) : Heap :=
  ((((h.push o1).push o2).push { cls := .type "tuple", data := .seq #[.ref h.objs.size, .ref (h.objs.size + 1)] }).push { cls := .type "tuple", data := .seq #[.none, .none] }).push
    { cls := .type "zip", data := .fields #[.none, .bool false, .bool false, .ref (h.objs.size + 2), .ref (h.objs.size + 3)] }
theorem zip_make {v1 v2 : Value} {o1 o2 : Obj} {Q : Value → Shared → Prop} (k1 : ∀ (A : Around) (E Q : Value → Shared → Prop), Q (.ref s.heap.objs.size) { s with heap := s.heap.push o1 } → wpAny (model prog w) A (pyIter v1) Q E s)
    (k2 : ∀ (A : Around) (E Q : Value → Shared → Prop), Q (.ref (s.heap.objs.size + 1)) { s with heap := (s.heap.push o1).push o2 } → wpAny (model prog w) A (pyIter v2) Q E { s with heap := s.heap.push o1 })
    (q : Q (.ref (s.heap.objs.size + 4)) { s with heap := zHeap s.heap o1 o2 }) : wpAny (model prog w) A (call (.type "zip") [v1, v2]) Q E s := by
  refine callType_newIn (S := fun A' R s' => s' = s ∧ R (.ok (.ret (.ref (s.heap.objs.size + 4)))) { s with heap := zHeap s.heap o1 o2 }) F.called_zip rfl (F.typeCall_zip_2 _ _) (F.newCall_zip_2 _ _) (fun obj => F.args_object_init_3 ..) F.entry_zip_new ?_ ⟨rfl, ⟨{ cls := .type "zip", data := .fields #[.none, .bool false, .bool false, .ref (s.heap.objs.size + 2), .ref (s.heap.objs.size + 3)] }, ?_, rfl⟩, q⟩
  · rintro A' R _ ⟨rfl, r⟩
    have e1 : Builtin.SmallTypes.newClass "zip" { pos := [.type "zip", v1, v2] } = pure (.type "zip", [v1, v2]) := by rfl
    show wpAny _ _ (Builtin.SmallTypes.newClass "zip" { pos := [.type "zip", v1, v2] } >>= _) _ _ _
    rw [e1]
    refine wpAny_bind (wpAny_pure ?_)
    show wpAny _ _ (Builtin.SmallTypes.iterAll [v1, v2] >>= _) _ _ _
    unfold Builtin.SmallTypes.iterAll
    refine wpAny_bind (wpAny_bind ?_)
    rw [List.forIn_cons]
    refine wpAny_bind (wpAny_bind (wpAny_holding (k1 _ _ _ (wpAny_pure ?_))))
    dsimp only
    rw [List.forIn_cons]
    refine wpAny_bind (wpAny_bind (wpAny_holding (k2 _ _ _ (wpAny_pure ?_))))
    dsimp only
    rw [List.forIn_nil]
    refine wpAny_pure (wpAny_pure ?_)
    refine wpAny_bind (wpAny_newTuple ?_ (by show 2 ≤ sizeLine; decide))
    refine wpAny_bind (wpAny_newTuple ?_ (by show 2 ≤ sizeLine; decide))
    simp only [Heap.size_push]
    unfold Builtin.SmallTypes.newRecord
    refine wpAny_bind (wpAny_newObj_type ?_ (by show 5 ≤ _; decide))
    simp only [Heap.size_push]
    exact wpAny_pure r
  · have e : s.heap.objs.size + 4 = ((((s.heap.push o1).push o2).push { cls := .type "tuple", data := .seq #[.ref s.heap.objs.size, .ref (s.heap.objs.size + 1)] }).push { cls := .type "tuple", data := .seq #[.none, .none] }).objs.size := by simp only [Heap.size_push]
    rw [e]
    exact Heap.get?_push_size _ rfl
end
section
variable {X : Cx} {pins : List (Addr × Obj)} {σ : St} {H : Hp} {s : Shared} {h' : Heap}
theorem Inv.turnedL {t' : Nat} {ch : List Addr} (I : Inv X pins σ H s) (k : ∀ b o, b ∉ ch → s.heap.get? b = some o → h'.get? b = some o) (f : ∀ b ∈ ch, FpOk X pins H b) : Inv X pins σ H { s with heap := h', toks := t' } := by
  have n1 : ∀ b u, H b = some u → b ∉ ch := fun b u e z => by have := (f b z).1; rw [this] at e; cases e
  refine I.step (g' := s.gens) (d' := s.drawn) (ch := ch) (fun b hb => ⟨(f b hb).2.2.2.1, (f b hb).2.1, (f b hb).2.2.2.2.1, (f b hb).2.2.2.2.2⟩) (fun b o _ _ hc e _ => k b o hc e) (fun b o _ _ hc e _ => ⟨o.slots, k b o hc e⟩) (fun _ _ _ _ n => n)
    (fun b o hc e => ⟨o, k b o hc e⟩) (fun _ _ e => e) (fun _ _ _ e => e) (fun b ps e => ⟨#[], by rw [e]; simp⟩) (fun m hm => ?_) (fun b u e => ?_) I.bare
  · obtain ⟨o, es, ep, ho, r⟩ := hm
    exact ⟨o, es, ep, k _ o (fun z => (f _ z).2.1 rfl) ho, r⟩
  · refine (I.hok b u e).stay (fun c v hc q => k c v ?_ q) (fun _ q => q) fun _ _ q => q
    rcases hc with z | z
    · rw [z]; exact n1 b u e
    · exact n1 c _ z
end
section
variable {X : Cx}
theorem zn {n : Nat} {a b : Nat} (h : a ≠ b) : n + a ≠ n + b := by omega
end
end L2
namespace L2
open PySem PySem.Spec PyProof.Rows
section
variable {X : Cx}
variable {tg : Expr}
end
end L2
namespace L2
open PySem PySem.Spec PyProof.Rows
section
variable {X : Cx}
end
end L2
namespace L2
open PySem PySem.Spec PyProof.Rows
def Itzz (u t : Addr) : It :=
  ⟨fun i H => (∃ ys y, H u = some (.tup ys) ∧ ys[i]? = some y) ∧ ∃ xs x, H t = some (.tup xs) ∧ xs[i]? = some x, fun i H x H' => ∃ p c v ys xs, H p = none ∧ H' = upd H p (.tup [c, v]) ∧ H u = some (.tup ys) ∧ ys[i]? = some c ∧ H t = some (.tup xs) ∧ xs[i]? = some v ∧ x = .ref p, fun i H => ∃ ys, H u = some (.tup ys) ∧ ys.length = i⟩
theorem turn_zipT {P : Program} {w : World} {K : PySem.W.Frag} {elts : List Expr} {k} {tpos : Pos} (e TI TO i1 i2 uu tu : Addr) (ap : ZApart e TI TO i1 i2) :
    Turn P w K (.Tuple elts k tpos) (Itzz uu tu) [e, TI, TO, i1, i2] e (fun i h => IsZip h e TI TO .none ∧ IsPair h TI (.ref i1) (.ref i2) ∧ (∃ a b, IsPair h TO a b) ∧ h.IsTupleIter i1 uu i ∧ h.IsTupleIter i2 tu i) where
  mem := by simp
  obj := fun i h st b hb => by
    obtain ⟨h1, h2, ⟨a, b', h3⟩, ⟨o4, h4, _, d4⟩, ⟨o5, h5, _, d5⟩⟩ := st
    simp only [List.mem_cons, List.not_mem_nil, or_false] at hb
    rcases hb with rfl | rfl | rfl | rfl | rfl
    · exact ⟨_, h1, fun v q => by cases q⟩
    · exact ⟨_, h2, fun v q => by cases q⟩
    · exact ⟨_, h3, fun v q => by cases q⟩
    · exact ⟨_, h4, fun v q => by rw [d4] at q; cases q⟩
    · exact ⟨_, h5, fun v q => by rw [d5] at q; cases q⟩
  keep := fun i h h' st kk => by
    obtain ⟨h1, h2, ⟨a, b', h3⟩, ⟨o4, h4, r4⟩, ⟨o5, h5, r5⟩⟩ := st
    exact ⟨kk e (by simp) _ h1, kk TI (by simp) _ h2, ⟨a, b', kk TO (by simp) _ h3⟩, ⟨o4, kk i1 (by simp) _ h4, r4⟩, ⟨o5, kk i2 (by simp) _ h5, r5⟩⟩
  item := by
    intro X hP hw hK hc i pins s σ H E I hf st hg
    subst hP hw hK
    obtain ⟨h1, h2, ⟨a, b, h3⟩, h4, h5⟩ := st
    obtain ⟨⟨ys, y, huu, hy⟩, xs, x, htu, hx⟩ := hg
    obtain ⟨its, rv, p, hz⟩ := I.tuple (.inl (.inl htu))
    obtain ⟨u, hu, ru⟩ := rv.get hx
    obtain ⟨its1, rv1, p1, hz1⟩ := I.tuple (.inl (.inl huu))
    obtain ⟨u1, hu1, ru1⟩ := rv1.get hy
    have hn : ∀ b ∈ [e, TI, TO, i1, i2], b ≠ tu := fun b hb q => by have := (hf b hb).1; rw [q, htu] at this; cases this
    have hn1 : ∀ b ∈ [e, TI, TO, i1, i2], b ≠ uu := fun b hb q => by have := (hf b hb).1; rw [q, huu] at this; cases this
    have D1 := draws_tuple (prog := X.prog) (w := X.w) (A := X.A.in1) (I.ok.hd hc) i1 uu (Ne.symm (hn1 i1 (by simp))) its1.toArray
    have D2 := draws_tuple (prog := X.prog) (w := X.w) (A := X.A.in1) (I.ok.hd hc) i2 tu (Ne.symm (hn i2 (by simp))) its.toArray
    have hil : i < its.toArray.size := by
      have := (List.getElem?_eq_some_iff.mp hu).1
      simpa using this
    have hil1 : i < its1.toArray.size := by
      have := (List.getElem?_eq_some_iff.mp hu1).1
      simpa using this
    refine zip_item D1 D2 ap ⟨?_, ?_, ?_⟩ ⟨?_, ?_, ?_⟩ h1 h2 h3 ⟨h4, p1⟩ ⟨h5, p⟩ hil1 hil ?_
    · intro q
      rcases List.mem_cons.mp q with q | q
      · exact ap.a3 q.symm
      · exact hn1 e (by simp) (List.mem_singleton.mp q)
    · intro q
      rcases List.mem_cons.mp q with q | q
      · exact ap.a8 q
      · exact hn1 TO (by simp) (List.mem_singleton.mp q)
    · intro q
      rcases List.mem_cons.mp q with q | q
      · exact ap.a0 q.symm
      · exact hn1 i2 (by simp) (List.mem_singleton.mp q)
    · intro q
      rcases List.mem_cons.mp q with q | q
      · exact ap.a4 q.symm
      · exact hn e (by simp) (List.mem_singleton.mp q)
    · intro q
      rcases List.mem_cons.mp q with q | q
      · exact ap.a9 q
      · exact hn TO (by simp) (List.mem_singleton.mp q)
    · intro q
      rcases List.mem_cons.mp q with q | q
      · exact ap.a0 q
      · exact hn i1 (by simp) (List.mem_singleton.mp q)
    rintro x1 y1 g1 tk hx1 hy1 hz1 hO1 hI1 ⟨hs1, _⟩ ⟨hs2, _⟩ hT hsz hk
    have ex : x1 = u1 := by
      have : its1.toArray[i]? = some u1 := by simpa using hu1
      exact Option.some.inj (hx1.symm.trans this)
    have ey : y1 = u := by
      have : its.toArray[i]? = some u := by simpa using hu
      exact Option.some.inj (hy1.symm.trans this)
    subst ex
    subst ey
    refine ⟨_, rfl, ?_⟩
    refine wpAny_letOwnedTupleGo_zip (s := { s with heap := g1, toks := tk }) hz1 fun g2 hz2 hb2 => ?_
    replace hb2 : Heap.SameBut e g1 g2 := hb2
    have hpn : H s.heap.objs.size = none := I.hok.fresh (Nat.le_refl _)
    have helt : e < s.heap.objs.size := Heap.lt_size h1
    have hTe : s.heap.objs.size ≠ e := Nat.ne_of_gt helt
    have hT2 : g2.get? s.heap.objs.size = some { cls := .type "tuple", data := .seq #[x1, y1] } := (hb2.2 _ hTe).trans hT
    have I1 : Inv X pins σ H { s with heap := g2, toks := tk } := I.turnedL (ch := [e, TI, TO, i1, i2]) (fun b o hb q => by
      simp only [List.mem_cons, List.not_mem_nil, or_false, not_or] at hb
      rw [hb2.2 b hb.1]
      exact hk b o hb.1 hb.2.2.1 hb.2.2.2.1 hb.2.2.2.2 q) hf
    have f := I.fpOk (H' := H) (Nat.le_refl _) hpn
    have I2 : Inv X pins σ (upd H s.heap.objs.size (.tup [y, x])) { s with heap := g2, toks := tk } := by
      refine I1.adopt hpn ?_ (Ne.symm f.2.1) f.2.2.2.2.1 f.2.2.2.2.2 ⟨by show 2 ≤ sizeLine; decide, [x1, y1], .cons ru1 (.cons ru .nil), ?_⟩
      · cases q : X.s₀.heap.get? s.heap.objs.size with
        | none => rfl
        | some o => exact absurd (Nat.lt_of_lt_of_le (Heap.lt_size q) I.sz) (Nat.lt_irrefl _)
      · exact ⟨_, hT2, rfl, _, rfl⟩
    have up : ∀ b o, b ≠ e → g1.get? b = some o → g2.get? b = some o := fun b o hb q => (hb2.2 b hb).trans q
    have hlt : ∀ b ∈ [e, TI, TO, i1, i2], b < s.heap.objs.size := fun b hb => by
      obtain ⟨o4, h4', _⟩ := h4
      obtain ⟨o5, h5', _⟩ := h5
      simp only [List.mem_cons, List.not_mem_nil, or_false] at hb
      rcases hb with rfl | rfl | rfl | rfl | rfl
      · exact Heap.lt_size h1
      · exact Heap.lt_size h2
      · exact Heap.lt_size h3
      · exact Heap.lt_size h4'
      · exact Heap.lt_size h5'
    refine ⟨.ref s.heap.objs.size, _, I2, rfl, ⟨_, y, x, ys, xs, hpn, rfl, huu, hy, htu, hx, rfl⟩, ⟨hz2, up _ _ ap.a1 hI1, ⟨_, _, up _ _ ap.a2 hO1⟩, ?_, ?_⟩, fun b hb => ?_⟩
    · obtain ⟨o, ho, r⟩ := hs1
      exact ⟨o, up _ _ ap.a3 ho, r⟩
    · obtain ⟨o, ho, r⟩ := hs2
      exact ⟨o, up _ _ ap.a4 ho, r⟩
    · rw [upd_ne (Nat.ne_of_lt (hlt b hb))]; exact (hf b hb).1
  done := by
    intro X hP hw hK hc i pins s σ H E I hf st hg
    subst hP hw hK
    obtain ⟨h1, h2, ⟨a, b, h3⟩, h4, h5⟩ := st
    obtain ⟨ys, huu, hyl⟩ := hg
    obtain ⟨its1, rv1, p1, hz1⟩ := I.tuple (.inl (.inl huu))
    have hn1 : ∀ b ∈ [e, TI, TO, i1, i2], b ≠ uu := fun b hb q => by have := (hf b hb).1; rw [q, huu] at this; cases this
    have D1 := draws_tuple (prog := X.prog) (w := X.w) (A := X.A.in1) (I.ok.hd hc) i1 uu (Ne.symm (hn1 i1 (by simp))) its1.toArray
    have e1 : its1.toArray.size = i := by
      have := rv1.length
      simp only [List.size_toArray]; omega
    refine zip_end D1 ap ?_ h1 h2 h3 (e1 ▸ ⟨h4, p1⟩) fun h' eb => ⟨rfl, I.turnedL (t' := s.toks) (ch := [e, i1]) (fun b o hb q => eb b o (fun z => hb (by simp [z])) (fun z => hb (by simp [z])) q) (fun b hb => hf b (by
      rcases List.mem_cons.mp hb with q | q
      · simp [q]
      · simp [List.mem_singleton.mp q]))⟩
    intro q
    rcases List.mem_cons.mp q with q | q
    · exact ap.a3 q.symm
    · exact hn1 e (by simp) (List.mem_singleton.mp q)
  self := fun A i s Q E st h => wpAny_pyIter_zip st.1 h
section
variable {X : Cx}
def iZipT (ta : TA) : TI := fun σ H R => ta σ H fun vs H1 => ∃ u t ys xs, vs = [.ref u, .ref t] ∧ H1 u = some (.tup ys) ∧ H1 t = some (.tup xs) ∧ R (Itzz u t) H1
theorem pi_zipT {a b : Expr} {ta : TA} {elts : List Expr} {k} {tpos p pos : Pos} (hg : Gl X "zip") (hm : X.mg "zip" = none) (hv : bootBuiltins "zip" = some (.type "zip")) (ha : PA X [a, b] ta)
    (hs : starEach [a, b] X.env = [(false, eval a X.env), (false, eval b X.env)] := by rfl) (hs2 : starEach [b] X.env = [(false, eval b X.env)] := by rfl) :
    PI X (.Tuple elts k tpos) (.Call (.Name "zip" p) [a, b] [] pos) (iZipT ta) := by
  intro pins s σ H R I h
  refine wpAny_Call_Name_kw (ld_blt I hg hm hv ?_ (by decide) (by decide))
  refine PyProof.Rows.callWith_type1 (thn (ha pos pins s σ H _ I h) fun us s1 ⟨vs, H1, I1, r1, q1⟩ => ?_) (by rw [hs, hs2]) (by rw [hs2]; rfl)
  obtain ⟨uu, tu, ys, xs, rfl, huu, htu, q⟩ := q1
  cases r1 with
  | cons r rr =>
    cases rr with
    | cons r' rr =>
      cases rr
      cases r
      cases r'
      obtain ⟨its1, rv1, pt1, hz1⟩ := I1.tuple (.inl (.inl huu))
      obtain ⟨its, rv, pt, hz⟩ := I1.tuple (.inl (.inl htu))
      refine zip_make (o1 := { cls := .type "tuple_iterator", data := .fields #[.ref uu, .int 0 0] }) (o2 := { cls := .type "tuple_iterator", data := .fields #[.ref tu, .int 0 0] })
        (fun A E Q hq => wpAny_pyIter_tuple (show s1.heap.IsTuple uu its1.toArray from pt1) hq) (fun A E Q hq => wpAny_pyIter_tuple (tup_stay (show s1.heap.IsTuple tu its.toArray from pt) fun o ho => Heap.get?_push_of_some _ ho) (by simpa only [Heap.size_push] using hq)) ?_
      have hup : ∀ b o, s1.heap.get? b = some o → (zHeap s1.heap { cls := .type "tuple_iterator", data := .fields #[.ref uu, .int 0 0] } { cls := .type "tuple_iterator", data := .fields #[.ref tu, .int 0 0] }).get? b = some o := fun b o ho => by
        unfold zHeap
        exact Heap.get?_push_of_some _ (Heap.get?_push_of_some _ (Heap.get?_push_of_some _ (Heap.get?_push_of_some _ (Heap.get?_push_of_some _ ho))))
      have g0 : (zHeap s1.heap { cls := .type "tuple_iterator", data := .fields #[.ref uu, .int 0 0] } { cls := .type "tuple_iterator", data := .fields #[.ref tu, .int 0 0] }).get? s1.heap.objs.size = some { cls := .type "tuple_iterator", data := .fields #[.ref uu, .int 0 0] } := by
        unfold zHeap
        exact Heap.get?_push_of_some _ (Heap.get?_push_of_some _ (Heap.get?_push_of_some _ (Heap.get?_push_of_some _ (Heap.get?_push_size _ rfl))))
      have g1 : (zHeap s1.heap { cls := .type "tuple_iterator", data := .fields #[.ref uu, .int 0 0] } { cls := .type "tuple_iterator", data := .fields #[.ref tu, .int 0 0] }).get? (s1.heap.objs.size + 1) = some { cls := .type "tuple_iterator", data := .fields #[.ref tu, .int 0 0] } := by
        unfold zHeap
        refine Heap.get?_push_of_some _ (Heap.get?_push_of_some _ (Heap.get?_push_of_some _ ?_))
        rw [← Heap.size_push s1.heap]
        exact Heap.get?_push_size _ rfl
      have g2 : (zHeap s1.heap { cls := .type "tuple_iterator", data := .fields #[.ref uu, .int 0 0] } { cls := .type "tuple_iterator", data := .fields #[.ref tu, .int 0 0] }).get? (s1.heap.objs.size + 2) = some { cls := .type "tuple", data := .seq #[.ref s1.heap.objs.size, .ref (s1.heap.objs.size + 1)] } := by
        unfold zHeap
        refine Heap.get?_push_of_some _ (Heap.get?_push_of_some _ ?_)
        have e : s1.heap.objs.size + 2 = ((s1.heap.push { cls := .type "tuple_iterator", data := .fields #[.ref uu, .int 0 0] }).push { cls := .type "tuple_iterator", data := .fields #[.ref tu, .int 0 0] }).objs.size := by simp only [Heap.size_push]
        rw [e]
        exact Heap.get?_push_size _ rfl
      have g3 : (zHeap s1.heap { cls := .type "tuple_iterator", data := .fields #[.ref uu, .int 0 0] } { cls := .type "tuple_iterator", data := .fields #[.ref tu, .int 0 0] }).get? (s1.heap.objs.size + 3) = some { cls := .type "tuple", data := .seq #[.none, .none] } := by
        unfold zHeap
        refine Heap.get?_push_of_some _ ?_
        have e : s1.heap.objs.size + 3 = (((s1.heap.push { cls := .type "tuple_iterator", data := .fields #[.ref uu, .int 0 0] }).push { cls := .type "tuple_iterator", data := .fields #[.ref tu, .int 0 0] }).push { cls := .type "tuple", data := .seq #[.ref s1.heap.objs.size, .ref (s1.heap.objs.size + 1)] }).objs.size := by simp only [Heap.size_push]
        rw [e]
        exact Heap.get?_push_size _ rfl
      have g4 : (zHeap s1.heap { cls := .type "tuple_iterator", data := .fields #[.ref uu, .int 0 0] } { cls := .type "tuple_iterator", data := .fields #[.ref tu, .int 0 0] }).get? (s1.heap.objs.size + 4) = some { cls := .type "zip", data := .fields #[.none, .bool false, .bool false, .ref (s1.heap.objs.size + 2), .ref (s1.heap.objs.size + 3)] } := by
        unfold zHeap
        have e : s1.heap.objs.size + 4 = ((((s1.heap.push { cls := .type "tuple_iterator", data := .fields #[.ref uu, .int 0 0] }).push { cls := .type "tuple_iterator", data := .fields #[.ref tu, .int 0 0] }).push { cls := .type "tuple", data := .seq #[.ref s1.heap.objs.size, .ref (s1.heap.objs.size + 1)] }).push { cls := .type "tuple", data := .seq #[.none, .none] }).objs.size := by simp only [Heap.size_push]
        rw [e]
        exact Heap.get?_push_size _ rfl
      generalize zHeap s1.heap { cls := .type "tuple_iterator", data := .fields #[.ref uu, .int 0 0] } { cls := .type "tuple_iterator", data := .fields #[.ref tu, .int 0 0] } = h' at hup g0 g1 g2 g3 g4 ⊢
      refine wpAny_pyIter_zip (s := { s1 with heap := h' }) g4 ?_
      have I2 : Inv X pins σ H1 { s1 with heap := h' } := I1.kept (t' := s1.toks) hup
      have fp : ∀ b ∈ [s1.heap.objs.size + 4, s1.heap.objs.size + 2, s1.heap.objs.size + 3, s1.heap.objs.size, s1.heap.objs.size + 1], FpOk X pins H1 b := fun b hb => by
        have hle : s1.heap.objs.size ≤ b := by
          simp only [List.mem_cons, List.not_mem_nil, or_false] at hb
          omega
        exact I1.fpOk hle (I1.hok.fresh hle)
      refine ⟨s1.heap.objs.size + 4, _, _, _, H1, rfl, I2, turn_zipT _ (s1.heap.objs.size + 2) (s1.heap.objs.size + 3) s1.heap.objs.size (s1.heap.objs.size + 1) uu tu ⟨zn (by decide), zn (by decide), zn (a := 0) (by decide), zn (by decide), zn (by decide), zn (b := 0) (by decide), zn (by decide), zn (b := 0) (by decide), zn (by decide), zn (a := 0) (by decide)⟩, ⟨g4, g2, ⟨_, _, g3⟩, ⟨_, g0, rfl, rfl⟩, ⟨_, g1, rfl, rfl⟩⟩, fp, q⟩
theorem for_zipT {u t : Addr} {ys xs : List V} {K : PySem.W.Frag} {a b : Nat} {tb : TS} {D : Ends} {σ : St} {H : Hp} (hxl : ys.length = xs.length) (Pv : Nat → St → Hp → Prop) (h0 : Pv 0 σ H) (hl : ∀ i σ H, Pv i σ H → H u = some (.tup ys) ∧ H t = some (.tup xs))
    (hs : ∀ i c v σ H p, ys[i]? = some c → xs[i]? = some v → Pv i σ H → H p = none → tb { D with nx := Pv (i + 1), ct := Pv (i + 1), bk := D.nx } ((σ.set a (some c)).set b (some v)) (upd H p (.tup [c, v]))) (hd : ∀ σ H, Pv ys.length σ H → D.nx σ H) :
    ∃ W : Nat → Nat → St → Hp → Prop, (∃ m, W 0 m σ H) ∧ ∀ i m σ H, W i m σ H →
      ((Itzz u t).stop i H ∧ D.nx σ H) ∨ ((Itzz u t).go i H ∧ ∃ N : St → Hp → Prop, (∀ σ' H', N σ' H' → ∃ m', m' < m ∧ W (i + 1) m' σ' H') ∧ ∀ x H', (Itzz u t).yld i H x H' → gTup K 2 (gCons (gName a) (gCons (gName b) gNil)) x σ H' fun σ2 H2 => tb { D with nx := N, ct := N, bk := D.nx } σ2 H2) := by
  refine ⟨fun i m σ H => m = ys.length - i ∧ i ≤ ys.length ∧ Pv i σ H, ⟨ys.length, by simp, Nat.zero_le _, h0⟩, ?_⟩
  rintro i m σ H ⟨rfl, hi, p⟩
  obtain ⟨hu, ht⟩ := hl i σ H p
  by_cases hlt : i < ys.length
  · refine .inr ⟨⟨⟨ys, ys[i], hu, List.getElem?_eq_getElem _⟩, xs, xs[i]'(by omega), ht, List.getElem?_eq_getElem _⟩, Pv (i + 1), fun σ' H' p' => ⟨ys.length - (i + 1), by omega, rfl, hlt, p'⟩, ?_⟩
    rintro x H' ⟨q, c, v, ys', xs', hq, rfl, hu', hc, ht', hv, rfl⟩
    rw [ht] at ht'
    rw [hu] at hu'
    cases ht'
    cases hu'
    exact ⟨q, _, rfl, SqT.of upd_same, rfl, _, _, rfl, _, _, rfl, rfl, hs i c v σ H q hc hv p hq⟩
  · have e : i = ys.length := by omega
    subst e
    exact .inl ⟨⟨ys, hu, rfl⟩, hd σ H p⟩
end
end L2
namespace L2
open PySem PySem.Spec PyProof.Rows
section
variable {X : Cx}
end
end L2
namespace L2
open PySem PySem.Spec PyProof.Rows
end L2
namespace L2
open PySem PySem.Spec PyProof.Rows
section
variable {X : Cx}
end
end L2
namespace L2
open PySem PySem.Spec PyProof.Rows
structure FunD (K : PySem.W.Frag) (x qual : Str) (st : Stmt) (f : Addr) (fd : FuncData) (D : Addr) : Prop where
  ex : ∃ (oc : Value) (od : Option Addr) (kV doc pm : Value) (an : Option Addr) (cdv ct : Value) (osl : Array (Option Value)),
    fd = PySem.W.fnOf x qual (defArgs st) (defBody st) (defScope st) (.ref D) kV doc pm an cdv ct ∧ K.lookup f = some ⟨oc, od, .func fd, osl⟩ ∧ PySem.W.codeIn K cdv qual = true
  kp : PySem.W.keepIn K (.ref f) = true
section
variable {P : Program} {w : World} {K : PySem.W.Frag} {mg : Str → Option Value} {base : Heap}
theorem FunD.okx {x qual : Str} {st : Stmt} {f D : Addr} {fd : FuncData} {N ps : List Str} {k : Nat} {sp : Sp} (F : FunD K x qual st f fd D) (S : FnScope N ps (defScope st)) (len : ∀ vs H Q E, sp vs H Q E → vs.length = ps.length)
    (hbody : ∀ (cdv : Value) (A : Around) (outer : List Env) (s : Shared) (H : Hp) (vs : List V) (Q : VK) (E : XK), Room k (A.deeper (envOfC qual (defScope st) s.heap.objs.size f cdv)) → sp vs H Q E →
      ∃ t, PSs (cxOf (CX1 P w) P w K mg base N qual (defScope st) f cdv A outer s H E) (defBody st) t ∧ t { nx := fun _ H' => Q .non H', rt := Q } (start N vs) H) : FnOk P w K mg base (CX1 P w) (k + 1) f fd ps sp := by
  obtain ⟨oc, od, kV, doc, pm, an, cdv, ct, osl, rfl, lk, hcd⟩ := F.ex
  refine fn_of lk hcd S len fun A outer s H vs Q E hr hsp => ?_
  exact hbody cdv A outer s H vs Q E hr hsp
theorem FunD.binds {x qual : Str} {st : Stmt} {f D : Addr} {fd : FuncData} {ps : List Str} {ds : List Value} {oc' : Value} {od' : Option Addr} {items : Array Value} {n : Nat} {sl' : Array (Option Value)} (F : FunD K x qual st f fd D) (ld : K.lookup D = some ⟨oc', od', .seq items n, sl'⟩)
    (h : ∀ (kV doc pm : Value) (an : Option Addr) (cdv ct : Value) (us : List Value), (us ++ ds).length = ps.length → (∃ k, bindArgs (PySem.W.fnOf x qual (defArgs st) (defBody st) (defScope st) (.ref D) kV doc pm an cdv ct) ⟨us, []⟩ = seqItems? (.ref D) >>= k ∧ k (some items) = pure (ps.zip (us ++ ds))) ∨ bindArgs (PySem.W.fnOf x qual (defArgs st) (defBody st) (defScope st) (.ref D) kV doc pm an cdv ct) ⟨us, []⟩ = pure (ps.zip (us ++ ds))) : Binds K fd ps ds := by
  obtain ⟨oc, od, kV, doc, pm, an, cdv, ct, osl, rfl, lk, hcd⟩ := F.ex
  intro s us KX hl
  rcases h kV doc pm an cdv ct us hl with ⟨k, h1, h2⟩ | h1
  · exact BindsTo.of_defaults (T := D) rfl (KX _ _ ld) rfl h1 h2
  · exact .of_eq h1
end
section
variable {X : Cx}
end
end L2
namespace L2
open PySem PySem.Spec PyProof.Rows
section
variable {X : Cx} {C : Addr} {x : Str} {body : List Stmt} {b₀ : Stmt} {suite : List Stmt} {np hpos pos : Pos} {tb : Pins → (Value → Shared → Prop) → XS → TS} {th : Pins → Value → TS} {bmB : List Value} {newId : String}
end
end L2
namespace L2
open PySem PySem.Spec PyProof.Rows
def put (A' H A : Hp) : Hp := fun b => match A' b with
  | some o => some o
  | none => match A b with
    | some _ => none
    | none => H b
theorem put_new {A' H A : Hp} {b : Addr} {o : HO} (h : A' b = some o) : put A' H A b = some o := by unfold put; rw [h]
theorem put_old {A' H A : Hp} {b : Addr} (h : A' b = none) (h2 : A b = none) : put A' H A b = H b := by unfold put; rw [h, h2]
structure Part (A H : Hp) : Prop where
  sub : Same A H
  tup : ∀ b xs, H b = some (.tup xs) → A b = some (.tup xs)
  own : ∀ a b o, H b = some (.own a) → A a = some o → A b = some (.own a)
  wno : ∀ a b o, H a = some o → A a = none → (∀ xs, o ≠ .lst xs) → H b = some (.own a) → A b = none
structure Aft (A A' H : Hp) : Prop where
  free : ∀ b o, H b = some o → A b = none → A' b = none
  tup : ∀ b xs, A b = some (.tup xs) → A' b = some (.tup xs)
section
variable {P : Program} {w : World} {K : PySem.W.Frag} {mg : Str → Option Value} {base : Heap} {A A' H : Hp} {h h' : Heap}
theorem Part.none (p : Part A H) {b : Addr} (e : H b = none) : A b = none := by
  cases q : A b with
  | none => rfl
  | some o => rw [p.sub b o q] at e; cases e
theorem Part.hok (p : Part A H) (x : HOk P w H h) : HOk P w A h := fun a o e =>
  (x a o (p.sub a o e)).stay (fun _ _ _ q => q) (fun b q => p.own a b o q e) p.tup
theorem Aft.sub (x : Aft A A' H) : Same A' (put A' H A) := fun b o e => put_new e
theorem Aft.rest (x : Aft A A' H) {b : Addr} {o : HO} (e : H b = some o) (n : A b = none) : put A' H A b = some o := by
  rw [put_old (x.free b o e n) n]; exact e
end
end L2
namespace L2
open PySem PySem.Spec PyProof.Rows
section
variable {X : Cx}
end
end L2
namespace L2
open PySem PySem.Spec PyProof.Rows
def isIns : HO → Bool
  | .ins .. => true
  | .frz _ u => isIns u
  | _ => false
section
variable {P : Program} {w : World} {K : PySem.W.Frag} {mg : Str → Option Value} {base : Heap} {A A' H H' : Hp} {h h' : Heap}
theorem ObjOk.swap {a : Addr} : ∀ {o : HO}, ObjOk P w H h a o → isIns o = false → (∀ b xs, H b = some (.tup xs) → H' b = some (.tup xs)) → ObjOk P w H' h a o
  | .lst _, x, _, _ => x
  | .tup _, x, _, _ => x
  | .dK _, x, _, _ => x
  | .dT _, x, _, ht => by
    obtain ⟨z, y, xs, r, ob, es, ep, e, c⟩ := x
    exact ⟨z, y, xs, Paired.mapP r fun p q z => ⟨z.1, ht _ _ z.2.1, z.2.2⟩, ob, es, ep, e, c⟩
  | .set _ _, x, _, _ => x
  | .ins .., _, h, _ => by cases h
  | .own _, x, _, _ => x
  | .xd _, x, _, _ => x
  | .rng _ _, x, _, _ => x
  | .frz _ u, x, h, ht => ⟨x.1, ObjOk.swap (o := u) x.2 h ht⟩
  | .tbl _, x, _, _ => x
  | .met _ _, x, _, _ => x
  | .ext _, x, _, _ => x
def noOwn (H : Hp) : Hp := fun b => match H b with
  | some (.own _) => none
  | o => o
theorem noOwn_tup {b : Addr} {xs : List V} (h : H b = some (.tup xs)) : noOwn H b = some (.tup xs) := by unfold noOwn; rw [h]
theorem noOwn_back {b : Addr} {o : HO} (h : noOwn H b = some o) : H b = some o := by
  unfold noOwn at h
  cases q : H b with
  | none => rw [q] at h; cases h
  | some u => rw [q] at h; cases u <;> first | exact h | cases h
theorem noOwn_own {b x : Addr} (h : noOwn H b = some (.own x)) : False := by
  have := noOwn_back h
  unfold noOwn at h
  rw [this] at h; cases h
theorem ObjOk.stay3 {a : Addr} {o : HO} (x : ObjOk P w H h a o) (k : ∀ u, h.get? a = some u → h'.get? a = some u) (ki : isIns o = true → ∀ b u, H b = some (.own a) → h.get? b = some u → h'.get? b = some u)
    (ho : isIns o = true → ∀ b, H b = some (.own a) → H' b = some (.own a)) (ht : ∀ b xs, H b = some (.tup xs) → H' b = some (.tup xs)) : ObjOk P w H' h' a o := by
  by_cases z : isIns o = true
  · exact x.stay (fun b u hb q => by
      rcases hb with rfl | hb
      · exact k u q
      · exact ki z b u hb q) (ho z) ht
  · have z' : isIns o = false := by simpa using z
    have x2 : ObjOk P w (noOwn H) h a o := x.swap z' fun b xs e => noOwn_tup e
    have x3 : ObjOk P w (noOwn H) h' a o := x2.stay (fun b u hb q => by
      rcases hb with rfl | hb
      · exact k u q
      · exact (noOwn_own hb).elim) (fun b q => q) fun b xs q => q
    exact x3.swap z' fun b xs e => ht b xs (noOwn_back e)
structure Prt (A H : Hp) : Prop where
  sub : Same A H
  tup : ∀ b xs, H b = some (.tup xs) → A b = some (.tup xs)
  own : ∀ a b o, isIns o = true → H b = some (.own a) → A a = some o → A b = some (.own a)
  wno : ∀ a b o, isIns o = true → H a = some o → A a = none → H b = some (.own a) → A b = none
theorem Prt.none (p : Prt A H) {b : Addr} (e : H b = none) : A b = none := by
  cases q : A b with
  | none => rfl
  | some o => rw [p.sub b o q] at e; cases e
theorem Prt.hok (p : Prt A H) (x : HOk P w H h) : HOk P w A h := fun a o e =>
  (x a o (p.sub a o e)).stay3 (fun _ q => q) (fun _ _ _ _ q => q) (fun i b q => p.own a b o i q e) p.tup
end
section
variable {X : Cx}
variable {e st : Expr} {te tst : TE} {pos p2 : Pos}
end
end L2
namespace L2
open PySem PySem.Spec PyProof.Rows
section
variable {X : Cx} {P : Program} {w : World} {k : Nat} {f C : Addr} {fd : FuncData} {ps : List Str} {sp : Sp} {dvs : List V} {ds : List Value} {Φ : XS} {m : Str} {apos pos : Pos} {o e : Expr} {es : List Expr} {t : TA} {ta : TE}
end
end L2
namespace L2
open PySem PySem.Spec PyProof.Rows
section
variable {X : Cx} {o e f : Expr} {apos cpos : Pos} {td ty tx : TE}
end
end L2
namespace PySem
open PyProof.Rows
namespace F
theorem tup_no_rev : typeLookup (.type "tuple") "__reversed__" = pure none := by rw [typeLookup_type, builtinLookup_eq_fast]; kernel_rfl
theorem tup_getitem : typeLookup (.type "tuple") "__getitem__" = pure (some (.builtin "tuple.__getitem__")) := by rw [typeLookup_type, builtinLookup_eq_fast]; kernel_rfl
theorem tup_dict : isSubtype (.type "tuple") (.type "dict") = pure false := by rw [isSubtype_type]; kernel_rfl
end F
section
variable {prog : Program} {w : World} {A : Around} {E : Value → Shared → Prop} {s : Shared}
def revTupObj (l : Addr) (i : Int) : Obj := { cls := .type "reversed", data := .fields #[.ref l, rawInt i] }
theorem code_reversed_tup {l : Addr} {items : Array Value} {Q₁ : Value → Shared → Prop} (hl : IsTup s.heap l items) (hx : items.size ≤ sizeLine)
    (h : ∀ tk, Q₁ (.ref s.heap.objs.size) { s with heap := s.heap.push (revTupObj l ((items.size : Int) - 1)), toks := tk }) :
    codeAny (model prog w) A (.call (.builtin "reversed.__new__") ⟨[.type "reversed", .ref l], []⟩) (wants Q₁ E) s := by
  refine codeAny_of_tree ?_
  show wpAny _ A.in1 (do checkBuiltinCall "reversed.__new__" ⟨[.type "reversed", .ref l], []⟩; again (.builtin "reversed.__new__" ⟨[.type "reversed", .ref l], []⟩)) _ _ s
  refine wpAny_bind (wpAny_of_eq (F.newCall_reversed_1 _) (wpAny_pure ⟨plainId_quiet F.plain_reversed_new _, codeAny_builtin F.entry_reversed_new ?_⟩))
  rw [Around.under_plainId F.plain_reversed_new _]
  unfold Builtin.«reversed.__new__»
  refine wpAny_bind (wpAny_of_eq (newClass_reversed _) ?_)
  try dsimp only
  refine wpAny_bind (wpAny_of_eq (a := ()) (by first | rfl | kernel_rfl) ?_)
  refine wpAny_bind (wpAny_of_eq (a := ()) (by first | rfl | kernel_rfl) ?_)
  try dsimp only
  refine wpAny_bind (wpAny_specialOf (T := "tuple") (v := .ref l) hl.typeIs F.tup_no_rev ?_)
  try dsimp only
  refine wpAny_bind (wpAny_bind (wpAny_isInstance (T := "tuple") (v := .ref l) (b := false) hl.typeIs F.tup_dict ?_))
  rw [if_neg Bool.false_ne_true]
  refine wpAny_bind (wpAny_specialOf (T := "tuple") (v := .ref l) hl.typeIs F.tup_getitem ?_)
  dsimp only
  rw [if_pos (by decide)]
  refine wpAny_pure ?_
  rw [if_neg (by decide)]
  refine wpAny_bind (PyProof.Rows.len_tuple hl (by have := sizeLine_eq; omega) ?_)
  refine wpAny_bind (m := asInt? (.int _ _)) (wpAny_pure ?_)
  dsimp only
  unfold Builtin.SmallTypes.newRecord
  dsimp only
  refine wpAny_bind (wpAny_newObj_type ?_)
  exact wpAny_pure (h _)
theorem call_reversed_tup {l : Addr} {items : Array Value} {Q : Value → Shared → Prop} (hl : IsTup s.heap l items) (hx : items.size ≤ sizeLine)
    (h : ∀ tk, Q (.ref s.heap.objs.size) { s with heap := s.heap.push (revTupObj l ((items.size : Int) - 1)), toks := tk }) : wpAny (model prog w) A (call (.type "reversed") [.ref l]) Q E s := by
  refine callType_codes (Q₁ := fun obj s₁ => obj = .ref s.heap.objs.size ∧ ∃ tk, s₁ = { s with heap := s.heap.push (revTupObj l ((items.size : Int) - 1)), toks := tk }) F.called_rev (F.typeCall_reversed_1 _) F.entry_object_init (code_reversed_tup hl hx fun tk => ⟨rfl, tk, rfl⟩) fun obj s₁ h₁ => ?_
  obtain ⟨rfl, tk, rfl⟩ := h₁
  have ty : ({ s with heap := s.heap.push (revTupObj l ((items.size : Int) - 1)), toks := tk } : Shared).TypeIs (.ref s.heap.objs.size) "reversed" := ⟨_, Heap.get?_push_size _ rfl, rfl⟩
  exact ⟨ty, F.args_object_init_2 _ _, object_init_meets F.called_rev.init.lookup F.called_rev.made (by decide) prog w A.in1 _ _ ⟨ty, rfl, h tk⟩⟩
def Heap.IsRevTup (h : Heap) (a l : Addr) (i : Int) : Prop := ∃ o, h.get? a = some o ∧ o.cls = .type "reversed" ∧ o.data = .fields #[.ref l, rawInt i]
theorem Heap.IsRevTup.typeIs {a l : Addr} {i : Int} (z : s.heap.IsRevTup a l i) : s.TypeIs (.ref a) "reversed" := let ⟨o, ho, hc, _⟩ := z; ⟨o, ho, hc⟩
theorem Heap.IsRevTup.at {h h' : Heap} {a l : Addr} {i : Int} (z : h.IsRevTup a l i) (e : ∀ o, h.get? a = some o → h'.get? a = some o) : h'.IsRevTup a l i := let ⟨o, ho, r⟩ := z; ⟨o, e _ ho, r⟩
theorem tup_at {h h' : Heap} {l : Addr} {items : Array Value} (z : IsTup h l items) (e : ∀ o, h.get? l = some o → h'.get? l = some o) : IsTup h' l items := let ⟨o, ho, r⟩ := z; ⟨o, e _ ho, r⟩
theorem next_revTup_item {it l : Addr} {items : Array Value} {i : Nat} {v : Value} {Q : Option Value → Shared → Prop} (hit : s.heap.IsRevTup it l (i : Int)) (hl : IsTup s.heap l items) (hc : items[i]? = some v) (hx : items.size ≤ sizeLine)
    (hQ : ∀ h' tk, h'.IsRevTup it l ((i : Int) - 1) → Heap.SameBut it s.heap h' → Q (some v) { s with heap := h', toks := tk }) : wpAny (model prog w) A (pyNext (.ref it)) Q E s := by
  obtain ⟨o, ho, hcl, hd⟩ := id hit
  unfold pyNext
  refine wpAny_bind (wpAny_attempt (wpAny_callSpecial?_slot (name := Str.ofString "__next__") hit.typeIs F.slot_rev_next
    (wpAny_call_entry F.slot_rev_next hit.typeIs F.entry_rev_next ?_ (F.args_rev_next_1 _))))
  unfold Builtin.«reversed.__next__»
  refine wpAny_bind (wpAny_of_eq (a := (Value.ref it, [])) rfl ?_)
  try dsimp only
  refine wpAny_bind (wpAny_field ho hd (x := .ref l) rfl ?_)
  refine wpAny_bind (wpAny_field ho hd (x := rawInt (i : Int)) rfl ?_)
  show wpAny _ _ (if (i : Int) < 0 then _ else _) _ _ s
  rw [if_neg (by omega)]
  refine wpAny_bind (wpAny_specialOf (T := "tuple") (v := .ref l) hl.typeIs F.tup_getitem ?_)
  rw [if_neg (by decide)]
  refine wpAny_bind (wpAny_mkInt ?_)
  have hi : i < items.size := by
    rcases Nat.lt_or_ge i items.size with h | h
    · exact h
    · rw [Array.getElem?_eq_none h] at hc; cases hc
  have hs := sizeLine_eq
  refine wpAny_bind (wpAny_attempt (PyProof.Rows.getItem_tuple (k := (i : Int)) (j := i) (x := v) hl (by omega) (by omega) (by rw [seqIndex_of (by omega) (by omega), Int.toNat_natCast]) hc ?_))
  dsimp only
  refine wpAny_bind (wpAny_field ho hd (x := rawInt (i : Int)) rfl ?_)
  try dsimp only
  refine wpAny_bind (wpAny_setField ho hd (by simp) ?_)
  refine wpAny_pure ⟨_, rfl, wpAny_pure (hQ _ _ ?_ (Heap.SameBut.update ..))⟩
  exact ⟨_, Heap.get?_update_self _ ho (Obj.isFreed_of_fields (Obj.data_mapFields hd _)), (Obj.cls_mapFields ..).trans hcl, by
    rw [Obj.data_mapFields hd]; simp⟩
theorem next_revTup_end {it l : Addr} {Q : Option Value → Shared → Prop} (hh : A.handled = none) (hit : s.heap.IsRevTup it l (-1))
    (hQ : ∀ h', Heap.ExtBut it s.heap h' → Q none { s with heap := h' }) : wpAny (model prog w) A (pyNext (.ref it)) Q E s := by
  obtain ⟨o, ho, hc, hd⟩ := id hit
  unfold pyNext
  refine wpAny_bind (wpAny_attempt (wpAny_callSpecial?_slot (name := Str.ofString "__next__") hit.typeIs F.slot_rev_next
    (wpAny_call_entry F.slot_rev_next hit.typeIs F.entry_rev_next ?_ (F.args_rev_next_1 _))))
  unfold Builtin.«reversed.__next__»
  refine wpAny_bind (wpAny_of_eq (a := (Value.ref it, [])) rfl ?_)
  try dsimp only
  refine wpAny_bind (wpAny_field ho hd (x := .ref l) rfl ?_)
  refine wpAny_bind (wpAny_field ho hd (x := rawInt (-1)) rfl ?_)
  show wpAny _ _ (if (-1 : Int) < 0 then _ else _) _ _ s
  rw [if_pos (by decide)]
  refine wpAny_bind (wpAny_rule ?_)
  refine wpAny_bind ?_
  refine wpAny_bind (wpAny_setField ho hd (by simp) ?_)
  have ho2 := Heap.get?_update_self (Obj.mapFields fun f => f.setIfInBounds 1 (rawInt (-1))) ho (Obj.isFreed_of_fields (Obj.data_mapFields hd _))
  refine wpAny_setField ho2 (Obj.data_mapFields hd _) (by simp) ?_
  refine wpAny_bind ?_
  first
  | show wpAny _ _ (newExc (.type "StopIteration") [] >>= _) _ _ _
  | (refine wpAny_bind ?_; show wpAny _ _ (newExc (.type "StopIteration") [] >>= _) _ _ _)
  refine wpAny_bind ?_
  simp only [newExc, newTuple]
  refine wpAny_bind (wpAny_newObj_type ?_ (by size_fits))
  refine wpAny_bind (m := firstArgMember _ _) (wpAny_of_eq (a := Value.none) (by first | rfl | (simp only [firstArgMember]; rfl)) ?_)
  refine wpAny_newObj_type ?_ (by size_fits)
  simp only [raiseNew]
  refine wpAny_bind (wpAny_handled ?_)
  first | rw [show A.in1.handled = none from hh] | rw [hh]
  refine wpAny_bind (wpAny_pure (wpAny_throw ?_))
  refine wpAny_bind (wpAny_isInstance (T := "StopIteration") (b := true) ⟨_, Heap.get?_push_size _ rfl, rfl⟩ isSubtype_stop ?_)
  refine wpAny_pure (hQ _ ?_)
  refine Heap.ExtBut.push (Heap.ExtBut.push ?_ _) _
  intro b u hb e
  rw [Heap.get?_update_other _ _ (Ne.symm hb), Heap.get?_update_other _ _ (Ne.symm hb)]; exact e
theorem iter_revTup {it l : Addr} {i : Int} {Q : Value → Shared → Prop} (hit : s.heap.IsRevTup it l i) (h : Q (.ref it) s) : wpAny (model prog w) A (pyIter (.ref it)) Q E s := by
  refine wpAny_pyIter_slot hit.typeIs F.slot_rev_iter (wpAny_call_entry F.slot_rev_iter hit.typeIs F.entry_rev_iter ?_ (F.args_rev_iter_1 _))
  show wpAny _ _ (ret (.ref it)) _ _ s
  exact wpAny_pure ⟨_, rfl, "reversed", _, hit.typeIs, F.slot_rev_next.lookup, h⟩
end
theorem Walks.tupRev {prog : Program} {w : World} {A : Around} (hh : A.handled = none) (I l : Addr) (hIl : l ≠ I) (items : Array Value) (hx : items.size ≤ sizeLine) :
    Walks prog w A I [I, l] [I] items.size (fun i v => items[items.size - 1 - i]? = some v) (fun i h => i ≤ items.size ∧ h.IsRevTup I l ((items.size : Int) - 1 - (i : Int)) ∧ IsTup h l items) where
  sub := fun b hb => by simp at hb; simp [hb]
  frame := fun _ _ _ z hk => ⟨z.1, z.2.1.at fun o e => hk I (by simp) o e, tup_at z.2.2 fun o e => hk l (by simp) o e⟩
  item := fun i s Q E hi z hQ => by
    have e : (items.size : Int) - 1 - (i : Int) = ((items.size - 1 - i : Nat) : Int) := by omega
    have hit := z.2.1
    rw [e] at hit
    have hc : items[items.size - 1 - i]? = some (items[items.size - 1 - i]'(by omega)) := Array.getElem?_eq_getElem (by omega)
    refine next_revTup_item hit z.2.2 hc hx fun h' tk hit' hs' => ?_
    have e2 : ((items.size - 1 - i : Nat) : Int) - 1 = (items.size : Int) - 1 - ((i + 1 : Nat) : Int) := by omega
    rw [e2] at hit'
    exact hQ _ h' tk hc ⟨hi, hit', tup_at z.2.2 fun o eo => hs'.extBut l o hIl eo⟩ fun b o hb eo => hs'.extBut b o (fun h => hb (by simp [h])) eo
  done := fun s Q E z hQ => by
    have e : (items.size : Int) - 1 - (items.size : Int) = -1 := by omega
    have hit := z.2.1
    rw [e] at hit
    exact next_revTup_end hh hit fun h' he' => hQ h' s.toks fun b o hb eo => he' b o (fun h => hb (by simp [h])) eo
  self := fun _ _ _ _ z hQ => iter_revTup z.2.1 hQ
section
variable {prog : Program} {w : World} {A : Around} {E : Value → Shared → Prop} {s : Shared}
theorem call_hint_tup {it l : Addr} {items : Array Value} {i : Int} {Q : Value → Shared → Prop} (hit : s.heap.IsRevTup it l i) (hl : IsTup s.heap l items) (hx : items.size ≤ sizeLine) (hi : i + 1 ≤ items.size)
    (h : ∀ u tk, s.toks ≤ tk → Q (.int (i + 1) u) { s with toks := tk }) : wpAny (model prog w) A (call (.builtin "reversed.__length_hint__") [.ref it]) Q E s := by
  obtain ⟨o, ho, hc, hd⟩ := id hit
  refine wpAny_call_entry F.slot_rev_hint hit.typeIs F.entry_rev_hint ?_ (F.args_rev_hint_1 _)
  unfold Builtin.«reversed.__length_hint__»
  refine wpAny_bind (wpAny_of_eq (a := Value.ref it) (by first | rfl | kernel_rfl) ?_)
  refine wpAny_bind (wpAny_field ho hd (x := .ref l) rfl ?_)
  rw [if_neg (show ¬ ((Value.ref l == Value.none) = true) from Bool.false_ne_true)]
  refine wpAny_bind (PyProof.Rows.len_tuple hl (by have := sizeLine_eq; omega) ?_)
  refine wpAny_bind (m := asInt? (.int _ _)) (wpAny_pure ?_)
  dsimp only
  refine wpAny_bind (wpAny_field ho hd (x := rawInt i) rfl ?_)
  show wpAny _ A.in1 (if (items.size : Int) < i + 1 then _ else retInt (i + 1)) _ _ _
  rw [if_neg (by omega)]
  unfold retInt
  refine wpAny_bind (wpAny_mkInt ?_)
  exact wpAny_pure ⟨_, rfl, h _ _ (by show s.toks ≤ s.toks + 1 + 1 + 1; omega)⟩
theorem extend_tri {R : Result → Shared → Prop} {I l : Addr} {items : Array Value} (hh : A.handled = none) (hit : s.heap.IsRevTup I l ((items.size : Int) - 1)) (hl : IsTup s.heap l items) (hIl : l ≠ I) (S : Addr) (hSI : S ≠ I) (hSl : S ≠ l) (res : Value) (c₀ : Nat) (hS : s.heap.get? S = some { cls := .type "list", data := .seq #[] c₀ })
    (hR : ∀ h' tk acc' c', (∀ b o, b ≠ S → b ≠ I → s.heap.get? b = some o → h'.get? b = some o) → h'.get? S = some { cls := .type "list", dict := none, data := .seq acc' c', slots := #[] } →
      ItemsOf (fun i v => items[items.size - 1 - i]? = some v) acc' items.size → R (.ok (.ret res)) { s with heap := h', toks := tk }) (hn : items.size ≤ sizeLine) :
    wpAny (model prog w) A.in1 (Builtin.List.listExtendWith (.ref S) (.ref I) res)
      (fun fin s' => match fin with | .done f => R (.ok f) s' | .again c' => c'.quiet = true ∧ codeAny (model prog w) A c' R s') (fun e s' => R (.error e) s') s := by
  have hSf : S ∉ [I, l] := fun hm => by rcases List.mem_cons.mp hm with h | h; exact hSI h; exact hSl (List.mem_singleton.mp h)
  have W := (Walks.tupRev (prog := prog) (w := w) (A := A.in1) hh I l hIl items hn).toS
  have e0 : (items.size : Int) - 1 - ((0 : Nat) : Int) = (items.size : Int) - 1 := by show (items.size : Int) - 1 - 0 = _; omega
  have hst : (fun (i : Nat) (s : Shared) => i ≤ items.size ∧ s.heap.IsRevTup I l ((items.size : Int) - 1 - (i : Int)) ∧ IsTup s.heap l items) 0 s := ⟨Nat.zero_le _, by rw [e0]; exact hit, hl⟩
  unfold Builtin.List.listExtendWith
  refine wpAny_bind (wpAny_typeOf hit.typeIs ?_)
  have h1 : Builtin.List.listSameRef (.ref S) (.ref I) = false := by simp [Builtin.List.listSameRef, hSI]
  rw [if_neg (by rw [h1]; decide)]
  refine wpAny_bind (iter_revTup hit ?_)
  refine wpAny_bind (wpAny_holding ?_)
  unfold Builtin.List.listLengthHint
  refine wpAny_bind (wpAny_specialOf hit.typeIs F.rev_no_len ?_)
  show wpAny _ A.in1 (specialOf (Value.ref I) (Str.ofString "__length_hint__") >>= _) _ _ _
  refine wpAny_bind (wpAny_specialOf hit.typeIs F.slot_rev_hint.lookup ?_)
  (generalize hid : ("reversed.__length_hint__" : String) = id0; (fail_if_success (clear hid id0)); wp_delta; rw [show splitId id0 = some ("reversed", "__length_hint__") from by subst hid; decide +kernel]; subst hid)
  refine wpAny_bind (wpAny_isInstance (b := true) hit.typeIs (by rw [isSubtype_type]; kernel_rfl) ?_)
  rw [if_neg (by decide)]
  refine wpAny_bind (wpAny_rule ?_)
  refine wpAny_bind (wpAny_of_eq (F.slot_rev_hint.bind _) ?_)
  dsimp only
  refine wpAny_bind (wpAny_attempt (call_hint_tup hit hl hn (by omega) fun u tk htk => ?_))
  have hk : (items.size : Int) - 1 + 1 = (items.size : Int) := by omega
  rw [hk]
  have hs := sizeLine_eq
  dsimp only
  have ha : asInt? (Value.int (items.size : Int) u) = pure (some (items.size : Int)) := rfl
  rw [ha, pure_bind]
  dsimp only
  have hfit : Builtin.List.listFitsIndex (items.size : Int) = true := by unfold Builtin.List.listFitsIndex; simp only [Bool.and_eq_true, decide_eq_true_eq]; omega
  have hlong : Builtin.List.listTooLong (items.size : Int).toNat = false := by unfold Builtin.List.listTooLong; rw [Int.toNat_natCast]; exact decide_eq_false (by omega)
  rw [hfit, if_neg (by decide), if_neg (by omega), hlong, if_neg (by decide)]
  refine wpAny_pure ?_
  clear hs
  have hst₂ := W.frame 0 _ _ tk hst htk fun b _ o e => e
  by_cases hz : items.size = 0
  · rw [if_neg (by rw [hz]; decide)]
    refine wpAny_pure ⟨plainId_quiet F.plain_extend_loop _, codeAny_extend_loopS W hn _ hSf _ items.size 0 _ _ _ rfl (Nat.zero_le _) hst₂ hS (ItemsOf.nil _) fun s' acc' c' hm hS' hacc => ?_⟩
    rw [Moved.eq_with hm]
    refine hR s'.heap s'.toks acc' c' (fun b ob hb hb2 e => hm.heap b ob (fun hmem => ?_) e) hS' hacc
    rcases List.mem_cons.mp hmem with e' | hmem
    · exact hb e'
    · exact hb2 (List.mem_singleton.mp hmem)
  · rw [if_pos (by rw [show ((items.size : Int) != 0) = true from by simpa using hz]; rfl)]
    refine wpAny_bind (wpAny_rule ?_)
    refine wpAny_bind ?_
    show wpAny _ A.in1 (updateSeq S (·.push .none) >>= fun _ => updateSeq S (·.pop)) _ _ _
    refine wpAny_bind (wpAny_updateSeq hS rfl ?_ (by show 0 ≤ sizeLine; exact Nat.zero_le _) (by show 1 ≤ sizeLine + 1; exact Nat.le_add_left _ _))
    have hS₂ := Heap.get?_update_self (Obj.mapSeq (·.push Value.none)) hS rfl
    refine wpAny_updateSeq hS₂ rfl ?_ (by show 1 ≤ sizeLine; decide) (by show 0 ≤ sizeLine + 1; exact Nat.zero_le _)
    have hS₃ := Heap.get?_update_self (Obj.mapSeq (·.pop)) hS₂ rfl
    have oth : ∀ b o, b ≠ S → s.heap.get? b = some o → ((s.heap.update S (Obj.mapSeq (·.push Value.none))).update S (Obj.mapSeq (·.pop))).get? b = some o :=
      fun b o hb e => (Heap.get?_update_other _ _ (Ne.symm hb)).trans ((Heap.get?_update_other _ _ (Ne.symm hb)).trans e)
    refine wpAny_pure ⟨plainId_quiet F.plain_extend_loop _, codeAny_extend_loopS W hn _ hSf _ items.size 0 _ _ _ rfl (Nat.zero_le _)
      (W.frame 0 ({ s with toks := tk } : Shared) _ tk hst₂ (Nat.le_refl _) fun b hb o e => oth b o (fun h => hSf (h ▸ hb)) e) hS₃ (ItemsOf.nil _) fun s' acc' c' hm hS' hacc => ?_⟩
    rw [Moved.eq_with hm]
    refine hR s'.heap s'.toks acc' c' (fun b ob hb hb2 e => hm.heap b ob (fun hmem => ?_) (oth b ob hb e)) hS' hacc
    rcases List.mem_cons.mp hmem with e' | hmem
    · exact hb e'
    · exact hb2 (List.mem_singleton.mp hmem)
theorem list_init_tri {R : Result → Shared → Prop} {I l : Addr} {items : Array Value} (hh : A.handled = none) (hit : s.heap.IsRevTup I l ((items.size : Int) - 1)) (hl : IsTup s.heap l items) (hIl : l ≠ I) (S : Addr) (hSI : S ≠ I) (hSl : S ≠ l) (hS : s.heap.get? S = some { cls := .type "list", data := .seq #[] })
    (hR : ∀ h' tk acc' c', (∀ b o, b ≠ S → b ≠ I → s.heap.get? b = some o → h'.get? b = some o) → h'.get? S = some { cls := .type "list", dict := none, data := .seq acc' c', slots := #[] } →
      ItemsOf (fun i v => items[items.size - 1 - i]? = some v) acc' items.size → R (.ok (.ret .none)) { s with heap := h', toks := tk }) (hn : items.size ≤ sizeLine) :
    wpAny (model prog w) A.in1 (Builtin.«list.__init__» ⟨[.ref S, .ref I], []⟩)
      (fun fin s' => match fin with | .done f => R (.ok f) s' | .again c' => c'.quiet = true ∧ codeAny (model prog w) A c' R s') (fun e s' => R (.error e) s') s := by
  show wpAny _ _ (do let old ← Builtin.List.listItems (.ref S); Builtin.List.listUpdate (.ref S) (fun _ => #[]); letGo old.toList.reverse; Builtin.List.listExtendWith (.ref S) (.ref I) .none) _ _ s
  refine wpAny_bind ?_
  unfold Builtin.List.listItems
  refine wpAny_bind (wpAny_seqItems hS rfl (wpAny_pure ?_))
  show wpAny _ _ (updateSeq S (fun _ => #[]) >>= fun _ => letGo (#[] : Array Value).toList.reverse >>= fun _ => Builtin.List.listExtendWith (.ref S) (.ref I) .none) _ _ s
  refine wpAny_bind (wpAny_updateSeq hS rfl ?_)
  have hS₂ := Heap.get?_update_self (Obj.mapSeq (fun _ => (#[] : Array Value))) hS rfl
  have oth : ∀ b o, b ≠ S → s.heap.get? b = some o → (s.heap.update S (Obj.mapSeq (fun _ => (#[] : Array Value)))).get? b = some o :=
    fun b o hb e => (Heap.get?_update_other _ _ (Ne.symm hb)).trans e
  refine wpAny_bind (wpAny_letGo ?_)
  refine extend_tri hh (hit.at fun o e => oth I o (Ne.symm hSI) e) (tup_at hl fun o e => oth l o (Ne.symm hSl) e) hIl S hSI hSl .none _ hS₂ (fun h' tk acc' c' hk hS' hacc => ?_) hn
  exact hR h' tk acc' c' (fun b o hb hb2 e => hk b o hb hb2 (oth b o hb e)) hS' hacc
theorem call_list_tri {I l : Addr} {items : Array Value} {Q : Value → Shared → Prop} (hh : A.handled = none) (hit : s.heap.IsRevTup I l ((items.size : Int) - 1)) (hl : IsTup s.heap l items) (hIl : l ≠ I)
    (hQ : ∀ h' tk acc' c', (∀ b o, b ≠ I → s.heap.get? b = some o → h'.get? b = some o) →
      h'.get? s.heap.objs.size = some { cls := .type "list", dict := none, data := .seq acc' c', slots := #[] } → ItemsOf (fun i v => items[items.size - 1 - i]? = some v) acc' items.size → Q (.ref s.heap.objs.size) { s with heap := h', toks := tk }) (hn : items.size ≤ sizeLine) :
    wpAny (model prog w) A (call (.type "list") [.ref I]) Q E s := by
  obtain ⟨oi, hoi, _⟩ := id hit
  obtain ⟨ol, hol, _⟩ := id hl
  refine callType_codes (Q₁ := fun obj s₁ => obj = .ref s.heap.objs.size ∧ s₁ = { s with heap := s.heap.push { cls := .type "list", data := .seq #[] } }) F.called_list (F.typeCall_list_1 _) F.entry_list_init
    (code_list_new _ ⟨rfl, rfl⟩) fun obj s₁ h₁ => ?_
  obtain ⟨rfl, rfl⟩ := h₁
  have hS : (s.heap.push { cls := .type "list", data := .seq #[] }).get? s.heap.objs.size = some { cls := .type "list", data := .seq #[] } := Heap.get?_push_size _ rfl
  refine ⟨⟨_, hS, rfl⟩, F.args_list_init_2 _ _, list_init_tri (A := A.in1) (s := { s with heap := s.heap.push { cls := .type "list", data := .seq #[] } }) hh (hit.at fun o e => Heap.get?_push_of_some _ e) (tup_at hl fun o e => Heap.get?_push_of_some _ e) hIl _ (Ne.symm (Nat.ne_of_lt (Heap.lt_size hoi))) (Ne.symm (Nat.ne_of_lt (Heap.lt_size hol))) hS (fun h' tk acc' c' hk hS' hacc => ?_) hn⟩
  exact ⟨rfl, hQ h' tk acc' c' (fun b o hb e => hk b o (Nat.ne_of_lt (Heap.lt_size e)) hb (Heap.get?_push_of_some _ e)) hS' hacc⟩
end
end PySem
namespace L2
open PySem PySem.Spec PyProof.Rows
section
variable {X : Cx} {e : Expr} {te : TE} {apos p2 rpos cpos : Pos}
def tListRevT (K : PySem.W.Frag) (te : TE) : TE := fun σ H Q => te σ H fun x H1 => ∃ a xs, x = .ref a ∧ SqT K H1 a xs ∧ ∀ p, H1 p = none → Q (.ref p) (upd H1 p (.lst xs.reverse))
theorem pe_listRevT (hc : X.calm = true) (hgl : Gl X "list") (hml : X.mg "list" = none) (hvl : bootBuiltins "list" = some (.type "list")) (hg : Gl X "reversed") (hmg : X.mg "reversed" = none) (hv : bootBuiltins "reversed" = some (.type "reversed")) (he : PE X e te)
    (hs : starEach [Expr.Call (.Name "reversed" p2) [e] [] rpos] X.env = [(false, eval (.Call (.Name "reversed" p2) [e] [] rpos) X.env)] := by rfl)
    (hs2 : starEach [e] X.env = [(false, eval e X.env)] := by rfl) :
    PE X (.Call (.Name "list" apos) [.Call (.Name "reversed" p2) [e] [] rpos] [] cpos) (tListRevT X.K te) := by
  intro pins s σ H Q I h
  refine wpAny_Call_Name_kw (ld_blt I hgl hml hvl ?_ (by decide) (by decide))
  refine PyProof.Rows.callWith_type1 (rest := []) ?_ hs rfl
  rw [hs]
  show wpAny _ _ (spliced ((false, eval (.Call (.Name "reversed" p2) [e] [] rpos) X.env) :: backTo cpos [])) _ _ s
  refine Calls.spliced_cons (wpAny_Call_Name_kw (ld_blt I hg hmg hv ?_ (by decide) (by decide)))
  refine PyProof.Rows.callWith_type1 (rest := []) ?_ hs2 rfl
  rw [hs2]
  show wpAny _ _ (spliced ((false, eval e X.env) :: backTo rpos [])) _ _ s
  refine Calls.spliced_cons (thn (he pins s σ H _ I h) fun u s2 ⟨y, H2, I2, r2, a, xs, el, hS, q2⟩ => ?_)
  subst el
  cases (show u = Value.ref a from r2)
  refine Calls.spliced_nil ?_
  obtain ⟨its, rv, pl, hz⟩ := I2.tuple hS
  obtain ⟨o, ho, _⟩ := id pl
  have hne : a ≠ s2.heap.objs.size := Nat.ne_of_lt (Heap.lt_size ho)
  have hln := rv.length
  have hzs : its.toArray.size ≤ sizeLine := by rw [List.size_toArray]; omega
  refine call_reversed_tup pl hzs fun tk0 => ?_
  refine Calls.spliced_nil ?_
  refine call_list_tri (items := its.toArray) (s := { s2 with heap := s2.heap.push (revTupObj a ((its.toArray.size : Int) - 1)), toks := tk0 }) (I2.ok.hd hc) ⟨_, Heap.get?_push_size _ rfl, rfl, rfl⟩ (pl.push _) hne (fun h' tk acc' c' hk hS' hacc => ?_) hzs
  have ee := vals_rev (acc := acc'.toList) rv (by simpa using hacc)
  have hsz : (s2.heap.push (revTupObj a ((its.toArray.size : Int) - 1))).objs.size = s2.heap.objs.size + 1 := Heap.size_push ..
  have hle : s2.heap.objs.size ≤ (s2.heap.push (revTupObj a ((its.toArray.size : Int) - 1))).objs.size := by rw [hsz]; exact Nat.le_succ _
  refine ⟨.ref (s2.heap.push (revTupObj a ((its.toArray.size : Int) - 1))).objs.size, _, I2.laid (o := .lst xs.reverse) (t' := tk) (fun b u e => hk b u (Nat.ne_of_lt (Heap.lt_size e)) (Heap.get?_push_of_some _ e)) hle ⟨by rw [List.length_reverse]; exact hz, acc'.toList, c', ?_, by simpa using hS'⟩, rfl, q2 _ (I2.hok.fresh hle)⟩
  rw [ee]; exact Vals.reverse rv
end
end L2
namespace PySem
section
variable {M : Model} {A : Around} {E : Value → Shared → Prop} {s s₀ : Shared} {env : Env} {m cm : Str → Option Value}
theorem bindParams_pos (f : Str × Value → PUnit → Sem (ForInStep PUnit)) (hf : ∀ n v u, f (n, v) u = (do storeName env n v; pure (.yield ⟨⟩))) (hk : env.scope.kind = .function) {n : Str} {v : Value} {r : List (Str × Value)} {Q : PUnit → Shared → Prop} (x : InCallC s₀ env.locals m env.cells cm s)
    (hl : env.kindOf n = some .local) (hr : ∀ x ∈ r, env.kindOf x.1 = some .local ∨ (env.kindOf x.1 = some .cell ∧ (env.cells.lookup x.1).isSome = true))
    (h : ∀ s', InCallC s₀ env.locals (bindL env.kindOf ((n, v) :: r) m) env.cells (bindC env.kindOf ((n, v) :: r) cm) s' → 0 < s'.toks → Q ⟨⟩ s') : wpAny M A (forIn ((n, v) :: r) ⟨⟩ f) Q E s := by
  rw [List.forIn_cons, hf]
  refine wpAny_bind (wpAny_bind (wpAny_storeName_local hl x.toInCall.ns (fun h' hn' hs' => ?_) (by rw [hk]; rfl)))
  have x' : InCallC s₀ env.locals (fun y => if y = n then some v else m y) env.cells cm { s with heap := h', toks := s.toks + 1 } := by
    refine ⟨⟨?_, hn', fun b o e => ?_, x.toInCall.fresh⟩, fun k c hc => ?_, x.apart, x.above⟩
    · obtain ⟨h₁, tk, rfl⟩ := x.toInCall.same
      exact ⟨h', _, rfl⟩
    · exact hs'.extBut b o (Nat.ne_of_lt (Nat.lt_of_lt_of_le (Heap.lt_size e) x.toInCall.fresh)) (x.toInCall.keep b o e)
    · exact (x.cell k c hc).sameBut hs' (Nat.ne_of_gt (x.above k c (mem_of_lookup hc)))
  refine wpAny_pure ?_
  refine wpAny_with_toks (n := 1) (by show 1 ≤ s.toks + 1; omega) (wpAny_mono (wpAny_bindParams f hf hk r _ _ _ (fun _ s' => 1 ≤ s'.toks → Q ⟨⟩ s') x' hr fun s'' x'' hp => h s'' ?_ hp) (fun _ _ z => z) fun _ _ z _ => z)
  unfold bindL bindC; rw [if_pos hl, if_pos hl]; exact x''
theorem newFunctionEnv_pos {scope : Scope} {globals : Addr} {n : Str} {v : Value} {r : List (Str × Value)} {qual : Str} {func : Option Addr} {code : Value} {builtins : Addr} {Q : Env → Shared → Prop}
    (hk : scope.kind = .function) (hl : scope.names.lookup n = some .local)
    (hkind : ∀ x ∈ r, scope.names.lookup x.1 = some .local ∨ (scope.names.lookup x.1 = some .cell ∧ ((cellsFrom (s.heap.objs.size + 1) scope.names []).lookup x.1).isSome = true))
    (hQ : ∀ env, env = newEnv scope s.heap.objs.size globals (cellsFrom (s.heap.objs.size + 1) scope.names []) qual func code none builtins →
      ∀ s', InCallC s env.locals (bindL env.kindOf ((n, v) :: r) fun _ => none) env.cells (bindC env.kindOf ((n, v) :: r) fun _ => none) s' → 0 < s'.toks → Q env s') :
    wpAny M A (newFunctionEnv scope globals [] ((n, v) :: r) qual func code none builtins) Q E s := by
  simp only [newFunctionEnv, Option.isSome_none, Bool.false_eq_true, if_false]
  refine wpAny_bind (wpAny_alloc ?_)
  refine wpAny_bind (wpAny_layCells _ (fun name kind cells => by cases hkc : kind == NameKind.cell <;> simp [hkc]) _ _ _ _ ?_)
  have ok := cellsFrom_ok scope.names (s.heap.push { cls := .type "frame", data := .dict #[] }) (s.heap.objs.size + 1) [] ⟨fun _ _ hm => (nomatch hm), List.Pairwise.nil⟩ (by rw [Heap.size_push]; exact Nat.le_refl _)
  rw [Heap.size_push] at ok
  rw [show ({ s with heap := s.heap.push { cls := .type "frame", data := .dict #[] } } : Shared).heap.objs.size = s.heap.objs.size + 1 from Heap.size_push ..]
  refine wpAny_bind (bindParams_pos (s₀ := s) (env := newEnv scope s.heap.objs.size globals (cellsFrom (s.heap.objs.size + 1) scope.names []) qual func code none builtins) (m := fun _ => none) (cm := fun _ => none)
    _ (fun _ _ _ => rfl) hk
    ⟨⟨⟨_, _, rfl⟩, (Heap.Ns.new s.heap (.type "frame")).keeps (pushCells_keeps _ _), fun b o e => pushCells_keeps _ _ b o (Heap.get?_push_of_some _ e), Nat.le_refl _⟩,
      fun n c hc => (ok.empty n c (mem_of_lookup hc)).1, ok.apart, fun n c hm => (ok.empty n c hm).2⟩
    hl hkind fun s' x hp => wpAny_pure (hQ _ rfl s' x hp))
end
theorem Heap.Ns.one {h : Heap} {a : Addr} {m m' : Str → Option Value} (x : h.Ns a m) (y : h.Ns a m') : m = m' := by
  obtain ⟨o, es, ep, e, d, _, f⟩ := x
  obtain ⟨o', es', ep', e', d', _, f'⟩ := y
  rw [e] at e'; cases e'
  rw [d] at d'; cases d'
  exact funext fun n => (f n).symm.trans (f' n)
end PySem
namespace L2
open PySem PySem.Spec PyProof.Rows
def PSsT (X : Cx) (st : List Stmt) (t : TS) : Prop :=
  ∀ (pins : List (Addr × Obj)) (s : Shared) (σ : St) (H : Hp) (D : Ends), 0 < s.toks → Inv X pins σ H s → t D σ H → wpAny (model X.prog X.w) X.A (execs st X.env) (SP X pins D) X.xe s
theorem fn_ofT {CX : CXT} {P : Program} {w : World} {K : PySem.W.Frag} {mg : Str → Option Value} {base : Heap} {k : Nat} {f : Addr} {name qual : Str} {params : Arguments} {body : List Stmt} {scope : Scope} {dV kV doc pm cdv ct oc : Value} {an od : Option Addr}
    {osl : Array (Option Value)} {N ps : List Str} {p0 : Str} {sp : Sp} (lk : K.lookup f = some ⟨oc, od, .func (PySem.W.fnOf name qual params body scope dV kV doc pm an cdv ct), osl⟩) (hcd : PySem.W.codeIn K cdv qual = true) (S : FnScope N (p0 :: ps) scope) (hp0 : scope.names.lookup p0 = some .local)
    (len : ∀ vs H Q E, sp vs H Q E → vs.length = (p0 :: ps).length)
    (hbody : ∀ (A : Around) (outer : List Env) (s : Shared) (H : Hp) (vs : List V) (Q : VK) (E : XK), Room k (A.deeper (envOfC qual scope s.heap.objs.size f cdv)) → sp vs H Q E →
      ∃ t, PSsT (cxOf CX P w K mg base N qual scope f cdv A outer s H E) body t ∧ t { nx := fun _ H' => Q .non H', rt := Q } (start N vs) H) :
    FnOk P w K mg base CX (k + 1) f (PySem.W.fnOf name qual params body scope dV kV doc pm an cdv ct) (p0 :: ps) sp := by
  refine ⟨len, fun A outer s H args us vs Q E hr e0 hb r hsp => ?_⟩
  have hl := len _ _ _ _ hsp
  have KX : K.In s.heap := e0.mod.kin.keeps fun b o e => (e0.bs b o e).1
  have lim : s.heap.NoLimit := e0.mod.nolimit.keeps fun b o e => (e0.bs b o e).1
  obtain ⟨u0, ur, rfl⟩ : ∃ u0 ur, us = u0 :: ur := by
    cases us with
    | nil => have := r.length; rw [hl] at this; cases this
    | cons u ur => exact ⟨u, ur, rfl⟩
  have hkind : ∀ y ∈ ps.zip ur, scope.names.lookup y.1 = some .local ∨ (scope.names.lookup y.1 = some .cell ∧ ((cellsFrom (s.heap.objs.size + 1) scope.names []).lookup y.1).isSome = true) := fun ⟨n, v⟩ hy => by
    rcases S.par n (List.mem_cons_of_mem _ (List.of_mem_zip hy).1) with q | q
    · exact .inl q
    · exact .inr ⟨q, PySem.W.cellsFrom_some _ _ _ (.inl q)⟩
  refine codeAny_call_function hr.depth (KX _ _ lk) rfl S.co S.gen rfl (PySem.W.codeRec_of KX hcd) (hb _ _ _ _ ?_)
  refine newFunctionEnv_pos (n := p0) (v := u0) (r := ps.zip ur) S.kind hp0 hkind fun env he s1 x hpos => ?_
  subst he
  refine ⟨lim.keeps x.toInCall.keep, codeAny_func ?_⟩
  obtain ⟨t, ht, hq⟩ := hbody A outer s H vs Q E (hr.deeper _) hsp
  have I : Inv (cxOf CX P w K mg base N qual scope f cdv A outer s H E) [] (start N vs) H s1 := inv_start S hr.hd e0 hl r x
  refine wpAny_mono (ht [] s1 (start N vs) H _ hpos I hq) (fun fl s' hs => ?_) fun e s' hs => hs
  have fin : ∀ {σ' : St} {H' : Hp} {v : V} {u : Value}, Inv (cxOf CX P w K mg base N qual scope f cdv A outer s H E) [] σ' H' s' → RelV v u → Q v H' → CE outer P w H s Q u s' :=
    fun {σ' H' v u} J rv q => ⟨v, H', J.os, J.bare, J.base, J.hok, rv, q⟩
  cases fl with
  | ret u =>
    obtain ⟨v, σ', H', J, rv, q⟩ := hs
    exact fin J rv q
  | next =>
    obtain ⟨σ', H', J, q⟩ := hs
    exact fin (v := V.non) (u := Value.none) J rfl q
  | brk =>
    obtain ⟨_, _, _, q⟩ := hs
    exact False.elim q
  | cont =>
    obtain ⟨_, _, _, q⟩ := hs
    exact False.elim q
end L2
namespace PySem
open Builtin Builtin.Str
theorem len_replaced {x z : Str} (y : Str) : (glued z (partsBetween x (occurrences x y 0 x.length (x.length + 1)) y.length)).length ≤ x.length + (x.length + 1) * z.length := by
  have h1 := StrLaws.occ_length_le x y 0 x.length (x.length + 1)
  have hy : (glued y (partsBetween x (occurrences x y 0 x.length (x.length + 1)) y.length)).length = x.length := by rw [StrLaws.glued_between_self]
  rw [size_glued, length_partsBetween, Nat.add_sub_cancel] at hy
  rw [size_glued, length_partsBetween, Nat.add_sub_cancel]
  have h2 : (occurrences x y 0 x.length (x.length + 1)).length * z.length ≤ (x.length + 1) * z.length := Nat.mul_le_mul_right _ h1
  omega
theorem call_replace {prog : Program} {w : World} {A : Around} {E : Value → Shared → Prop} {s : Shared} {x y z : Str} {t u v : Tok} {Q : Value → Shared → Prop} (hu : u ≠ 0) (hv : v ≠ 0) (huv : u ≠ v) (hyz : (y == z) = false) (hb : x.length + (x.length + 1) * z.length ≤ 16777216)
    (hq : ∀ x' t' k, x'.length ≤ x.length + (x.length + 1) * z.length → Q (.str x' t') { s with toks := k }) : wpAny (model prog w) A (call (.builtin "str.replace") [.str x t, .str y u, .str z v]) Q E s := by
  have hl : tooLong (x.length + (occurrences x y 0 x.length (x.length + 1)).length * z.length) = false := by
    have h1 := StrLaws.occ_length_le x y 0 x.length (x.length + 1)
    have h2 : (occurrences x y 0 x.length (x.length + 1)).length * z.length ≤ (x.length + 1) * z.length := Nat.mul_le_mul_right _ h1
    unfold tooLong sizeLine
    exact decide_eq_false (by omega)
  refine call_gives F.slot_str_replace (typeIs_str _ _ _) F.entry_str_replace (F.args_str_replace_3 _ _ _) (gives_str_replace x y z t u v fun _ => ⟨by simp [hu, hv], by simp [huv], hyz, hl⟩) ?_
  split
  · exact hq x t s.toks (by omega)
  · exact ⟨fits_replaced y hb, hq _ _ _ (len_replaced y)⟩
end PySem
namespace L2
open PySem PySem.Spec PyProof.Rows
def PairO (o : Obj) : Prop := ∃ (y z : Str) (u v : Tok) (n : Nat), o.cls = .type "tuple" ∧ o.data = .seq #[.str y u, .str z v] n ∧ u ≠ 0 ∧ v ≠ 0 ∧ u ≠ v ∧ (y == z) = false ∧ z.length ≤ 2
section
variable {X : Cx} {pins : List (Addr × Obj)} {σ : St} {H : Hp} {s : Shared}
theorem pair_pin {y z : Str} {j k : Nat} {p1 p2 pos : Pos} {kk} (I : Inv X pins σ H s) (hp : 0 < s.toks) (hyz : (y == z) = false) (hz : z.length ≤ 2)
    (hs : starEach [.Constant (.str y) j p1, .Constant (.str z) k p2] X.env = [(false, eval (.Constant (.str y) j p1) X.env), (false, eval (.Constant (.str z) k p2) X.env)] := by rfl) :
    wpAny (model X.prog X.w) X.A (eval (.Tuple [.Constant (.str y) j p1, .Constant (.str z) k p2] kk pos) X.env) (fun u s' => ∃ q o, u = Value.ref q ∧ Inv X (pins ++ [(q, o)]) σ H s' ∧ PairO o ∧ 0 < s'.toks) X.xe s := by
  refine wpAny_Tuple_spliced ?_
  rw [hs]
  show wpAny _ _ (spliced [(false, eval (.Constant (.str y) j p1) X.env), (false, eval (.Constant (.str z) k p2) X.env)]) _ _ s
  refine Calls.spliced_cons (Calls.Constant_str (Calls.spliced_cons (Calls.Constant_str (Calls.spliced_nil ⟨by rw [sizeLine_eq]; show 2 ≤ _; decide, ?_⟩))))
  refine ⟨s.heap.objs.size, { cls := .type "tuple", data := .seq [Value.str y s.toks, .str z (s.toks + 1)].toArray }, rfl, ?_, ⟨y, z, s.toks, s.toks + 1, _, rfl, rfl, Nat.ne_of_gt hp, Nat.succ_ne_zero _, Nat.ne_of_lt (Nat.lt_succ_self _), hyz, hz⟩, Nat.succ_pos _⟩
  have I1 := I.kept (h' := s.heap.push { cls := .type "tuple", data := .seq [Value.str y s.toks, .str z (s.toks + 1)].toArray }) (t' := s.toks + 1 + 1) fun b u e => Heap.get?_push_of_some _ e
  obtain ⟨f0, f1, f2, _⟩ := I.fpOk (Nat.le_refl _) (I.hok.fresh (Nat.le_refl _))
  refine I1.pins_of fun p hp => ?_
  rcases List.mem_append.mp hp with z | z
  · exact I1.pin p (List.mem_append_right _ z)
  · cases List.mem_singleton.mp z
    exact ⟨Heap.get?_push_size _ rfl, f0, f1, f2, fun v e => nomatch e⟩
def PAq (X : Cx) (es : List Expr) : Prop := ∀ (pos : Pos) (pins : List (Addr × Obj)) (s : Shared) (σ : St) (H : Hp), Inv X pins σ H s → 0 < s.toks → wpAny (model X.prog X.w) X.A (spliced (backTo pos (starEach es X.env)))
  (fun us s' => ∃ L : List (Addr × Obj), us = L.map (fun p => Value.ref p.1) ∧ L.length = es.length ∧ Inv X (pins ++ L) σ H s' ∧ (∀ p ∈ L, PairO p.2) ∧ 0 < s'.toks) X.xe s
theorem paq_nil (hs : starEach [] X.env = [] := by rfl) : PAq X [] := by
  intro pos pins s σ H I hp
  rw [hs]
  exact Calls.spliced_nil ⟨[], rfl, rfl, by rw [List.append_nil]; exact I, (fun p h => nomatch h), hp⟩
theorem paq_cons {y z : Str} {j k : Nat} {p1 p2 tpos : Pos} {kk} {es : List Expr} (hyz : (y == z) = false) (hz : z.length ≤ 2) (hr : PAq X es)
    (hs : starEach (.Tuple [.Constant (.str y) j p1, .Constant (.str z) k p2] kk tpos :: es) X.env = (false, eval (.Tuple [.Constant (.str y) j p1, .Constant (.str z) k p2] kk tpos) X.env) :: starEach es X.env := by rfl)
    (hs2 : starEach [.Constant (.str y) j p1, .Constant (.str z) k p2] X.env = [(false, eval (.Constant (.str y) j p1) X.env), (false, eval (.Constant (.str z) k p2) X.env)] := by rfl) : PAq X (.Tuple [.Constant (.str y) j p1, .Constant (.str z) k p2] kk tpos :: es) := by
  intro pos pins s σ H I hp
  rw [hs]
  show wpAny _ _ (spliced ((false, eval _ X.env) :: backTo pos (starEach es X.env))) _ _ s
  refine Calls.spliced_cons (thn (pair_pin I hp hyz hz hs2) fun u s1 ⟨q, o, eu, I1, ho, hp1⟩ => ?_)
  subst eu
  refine thn (hr pos _ s1 σ H I1 hp1) fun us s2 ⟨L, eu, hl, I2, hL, hp2⟩ => ?_
  refine ⟨(q, o) :: L, by rw [eu]; rfl, by simp [hl], by rw [List.append_assoc] at I2; exact I2, fun p hp => ?_, hp2⟩
  rcases List.mem_cons.mp hp with rfl | h
  · exact ho
  · exact hL p h
def isPairs : List Expr → Bool
  | [] => true
  | .Tuple [.Constant (.str y) _ _, .Constant (.str z) _ _] _ _ :: es => !(y == z) && decide (z.length ≤ 2) && isPairs es
  | _ => false
theorem paq_of : ∀ es : List Expr, isPairs es = true → PAq X es
  | [], _ => paq_nil
  | e :: es, h => by
    unfold isPairs at h
    split at h
    · rename_i e0; cases e0
    · rename_i y _ _ z _ _ _ _ es' e0
      cases e0
      rw [Bool.and_eq_true, Bool.and_eq_true] at h
      exact paq_cons (by simpa using h.1.1) (of_decide_eq_true h.1.2) (paq_of es h.2)
    · cases h
theorem vals_pins : ∀ L : List (Addr × Obj), Vals (L.map fun p => V.ref p.1) (L.map fun p => Value.ref p.1)
  | [] => .nil
  | _ :: L => .cons rfl (vals_pins L)
theorem store_loc {M : Model} {A : Around} {E : Value → Shared → Prop} {i : Nat} {x : Str} {v : V} {u : Value} {Q : Unit → Shared → Prop} {m : Str → Option Value} (I : Inv X pins σ H s) (hn : s.heap.Ns X.env.locals m) (hN : X.N.Nodup) (hi : X.N[i]? = some x) (hk : X.env.scope.names.lookup x = some .local) (r : RelV v u)
    (h : ∀ s', Inv X pins (σ.set i (some v)) H s' → s'.heap.Ns X.env.locals (fun y => if y = x then some u else m y) → Q () s') : wpAny M A (storeName X.env x u) Q E s := by
  obtain ⟨m0, hn0, hl⟩ := id I.loc
  cases hn.one hn0
  have hcls : (X.env.scope.kind == .class || (X.env.scope.kind == .module && X.env.locals != X.env.globals)) = false := by rw [I.ok.kind]; rfl
  have hiσ : i < σ.length := by rw [I.len]; exact (List.getElem?_eq_some_iff.mp hi).1
  have cne := I.cne
  have tracked : ∀ {a : Addr} {h' : Heap}, (∃ o, s.heap.get? a = some o ∧ H a = none) → Heap.SameBut a s.heap h' → HOk X.prog X.w H h' := fun {a h'} ha hs b ob e => by
    obtain ⟨_, _, hfree⟩ := ha
    refine (I.hok b ob e).stay (fun c w' hc q => (hs.2 c ?_).trans q) (fun _ q => q) fun _ _ q => q
    rintro rfl
    rcases hc with rfl | hc
    · rw [hfree] at e; cases e
    · rw [hfree] at hc; cases hc
  refine wpAny_storeName_local hk hn (fun h' hn' hs => ?_) hcls
  obtain ⟨oL, _, _, hoL, _⟩ := id hn
  refine h _ ⟨I.ok, I.os, I.bare, ⟨fun b o e n hb hx => ?_, fun b o e n hb hx => ?_, I.base.free, fun b o e hx => ?_, I.base.tups, I.base.frzs, I.base.tbls⟩, ⟨_, hn', fun j y v' e1 e2 e3 => ?_⟩, fun y c e => ?_, I.free, I.freeC, fun p hp => ?_, tracked ⟨oL, hoL, I.free⟩ hs, by simpa using I.len⟩ hn'
  · exact (hs.2 b (Nat.ne_of_lt (Nat.lt_of_lt_of_le (Heap.lt_size e) I.ok.above))).trans (I.base.keep b o e n hb hx)
  · obtain ⟨sl, e1⟩ := I.base.slot b o e n hb hx
    exact ⟨sl, (hs.2 b (Nat.ne_of_lt (Nat.lt_of_lt_of_le (Heap.lt_size e) I.ok.above))).trans e1⟩
  · obtain ⟨o', e1⟩ := I.base.there b o e hx
    exact ⟨o', (hs.2 b (Nat.ne_of_lt (Nat.lt_of_lt_of_le (Heap.lt_size e) I.ok.above))).trans e1⟩
  · by_cases hj : j = i
    · subst hj
      rw [hi] at e1; cases e1
      rw [List.getElem?_set_self hiσ] at e2
      cases e2
      exact ⟨u, r, .inl ⟨hk, by simp⟩⟩
    · rw [List.getElem?_set_ne (Ne.symm hj)] at e2
      obtain ⟨u', r', q⟩ := hl j y v' e1 e2 e3
      refine ⟨u', r', ?_⟩
      rcases q with ⟨k, e⟩ | ⟨k, c, e, z⟩
      · refine .inl ⟨k, ?_⟩
        have : y ≠ x := fun e => hj (nodup_ix hN e1 (e ▸ hi))
        simp [this, e]
      · exact .inr ⟨k, c, e, z.sameBut hs (cne y c e)⟩
  · obtain ⟨w', z⟩ := I.cell y c e
    exact ⟨w', z.sameBut hs (cne y c e)⟩
  · obtain ⟨e, n, ne, nf, d⟩ := I.pin p hp
    exact ⟨(hs.2 p.1 ne).trans e, n, ne, nf, d⟩
theorem name_at {i : Nat} {x : Str} {v : V} {pos : Pos} {E : Value → Shared → Prop} {Q : Value → Shared → Prop} (I : Inv X pins σ H s) (hN : X.N[i]? = some x) (e : σ[i]? = some (some v)) (hv : Vis X.env.scope x) (hd : (x == ("__debug__" : Str)) = false) (hcd : (x == ("__classdict__" : Str)) = false) (h : ∀ u, RelV v u → Q u s) :
    wpAny (model X.prog X.w) X.A (eval (.Name x pos) X.env) Q E s := by
  obtain ⟨m, hn, hl⟩ := I.loc
  obtain ⟨u, r, l⟩ := hl i x v hN e hv
  rcases l with ⟨hk, hm⟩ | ⟨hk, c, hc, hcell⟩
  · exact wpAny_Name (wpAny_loadName_local I.ok.kind hk hn hm (h u r)) hd
  · rcases hk with hk | hk
    · exact wpAny_Name (wpAny_loadName_cell I.ok.kind hk hc hcell (h u r)) hd
    · exact wpAny_Name (wpAny_loadName_free I.ok.kind hk hc hcell (h u r) hcd) hd
def tExch : TS := fun D σ H => ∃ (l : List Nat) (r : Int), σ[0]? = some (some (vt l)) ∧ σ[1]? = some (some (.int r)) ∧ l.length ≤ 1000000 ∧ ∀ (l' : List Nat) H', l'.length ≤ l.length + (l.length + 1) * 2 → Same H H' → D.rt (vt l') H'
theorem pss_exch {es : List Expr} {xp xo xt x0 : Str} {pp pl pos1 po pt ptu pos2 p0 apos p5 p6 cpos pos3 : Pos} {kk} {sub : Expr} {tsub : TE} (hq : PAq X es) (he : es.length = 8) (hN : X.N.Nodup) (h0 : X.N[0]? = some x0) (h2 : X.N[2]? = some xp) (h3 : X.N[3]? = some xo) (h4 : X.N[4]? = some xt)
    (k2 : X.env.scope.names.lookup xp = some .local) (k3 : X.env.scope.names.lookup xo = some .local) (k4 : X.env.scope.names.lookup xt = some .local) (hv : Vis X.env.scope x0) (hne : xo ≠ xt) (hc : X.calm = true)
    (hsub : PE X sub tsub) (hrd : ∀ σ H p (vs : List V) (r : Int) Q, σ[1]? = some (some (.int r)) → σ[2]? = some (some (.ref p)) → SqL X.K H p vs → vs.length = 8 → (∀ v ∈ vs, Q v H) → tsub σ H Q)
    (w1 : swapsWith (.List es pl) (some (.Name xp pp)) pos1.line X.env = pure false := by rfl)
    (w2 : swapsWithSole [.Tuple [.Name xo po, .Name xt pt] kk ptu] sub pos2.line X.env = pure false := by rfl) (w3 : swappedStores [.Tuple [.Name xo po, .Name xt pt] kk ptu] sub X.env = pure none := by rfl)
    (w4 : (assignEach [.Tuple [.Name xo po, .Name xt pt] kk ptu] X.env).map (·.2) = [assign (.Tuple [.Name xo po, .Name xt pt] kk ptu) X.env] := by rfl)
    (w5 : (assignEach [.Name xo po, .Name xt pt] X.env).map (·.2) = [assign (.Name xo po) X.env, assign (.Name xt pt) X.env] := by rfl) (w6 : (assignEach [.Name xo po, .Name xt pt] X.env).length = 2 := by rfl) (w7 : (assignEach [.Name xo po, .Name xt pt] X.env).findIdx? (·.1) = none := by rfl)
    (hbase : attributeBase (.Name x0 p0) "replace" X.env (eval (.Name x0 p0) X.env) = eval (.Name x0 p0) X.env := by rfl)
    (hfew : ((backTo cpos (starEach [.Name xo p5, .Name xt p6] X.env)).all (fun x => !x.1) && (backToKw cpos (keywordEach [] X.env)).all (fun x => x.1.isSome)
      && decide (([.Name xo p5, .Name xt p6] : List Expr).length + ([] : List Keyword).length + (if ([] : List Keyword).isEmpty then 0 else 1) < 30)) = true := by rfl)
    (hline : (apos.endLine == cpos.line) = true := by rfl) (hst : starEach [.Name xo p5, .Name xt p6] X.env = [(false, eval (.Name xo p5) X.env), (false, eval (.Name xt p6) X.env)] := by rfl)
    (d0 : (x0 == ("__debug__" : Str)) = false := by decide) (c0 : (x0 == ("__classdict__" : Str)) = false := by decide) (d3 : (xo == ("__debug__" : Str)) = false := by decide) (d4 : (xt == ("__debug__" : Str)) = false := by decide) :
    PSsT X [.Assign [.Name xp pp] (.List es pl) pos1, .Assign [.Tuple [.Name xo po, .Name xt pt] kk ptu] sub pos2, .Return (some (.Call (.Attribute (.Name x0 p0) "replace" apos) [.Name xo p5, .Name xt p6] [] cpos)) pos3] tExch := by
  intro pins s σ H D hp I h
  obtain ⟨l, r, e0, e1, hl, q⟩ := h
  refine wpAny_execs_cons (wpAny_Assign_Name (wpAny_List_spliced (thn (hq pl pins s σ H I hp) fun us s1 ⟨L, eu, hL8, I1, hL, _⟩ => ⟨?_, ?_⟩)) w1)
  · rw [eu, List.length_map, hL8, he, sizeLine_eq]; decide
  subst eu
  have hfr : H s1.heap.objs.size = none := I1.hok.fresh (Nat.le_refl _)
  have I2 : Inv X (pins ++ L) σ (upd H s1.heap.objs.size (.lst (L.map fun p => V.ref p.1))) { s1 with heap := s1.heap.push { cls := .type "list", data := .seq (L.map fun p => Value.ref p.1).toArray } } :=
    I1.laid (t' := s1.toks) (fun b u e => Heap.get?_push_of_some _ e) (Nat.le_refl _) ⟨by rw [List.length_map, hL8, he, sizeLine_eq]; decide, _, 0, vals_pins L, Heap.get?_push_size _ rfl⟩
  have sH : Same H (upd H s1.heap.objs.size (.lst (L.map fun p => V.ref p.1))) := L2.same_new hfr _
  have eP : upd H s1.heap.objs.size (.lst (L.map fun p => V.ref p.1)) s1.heap.objs.size = some (.lst (L.map fun p => V.ref p.1)) := upd_same
  generalize upd H s1.heap.objs.size (.lst (L.map fun p => V.ref p.1)) = H2 at I2 sH eP ⊢
  generalize s1.heap.objs.size = ap at I2 eP ⊢
  refine store_ok I2 hN h2 (.inl k2) (v := .ref ap) rfl (fun s3 I3 => ?_) (.inr k2)
  refine wpAny_execs_cons (wpAny_Assign_stores (thn (hsub (pins ++ L) s3 _ H2 (fun v H' => H' = H2 ∧ ∃ p ∈ L, v = .ref p.1) I3 (hrd _ H2 ap _ r _ ?_ ?_ (.inl (.inl eP)) (by rw [List.length_map, hL8, he]) fun v hv => ?_)) fun u s4 ⟨x, H4, I4, r4, eH, p, hp, ex⟩ => ?_) w2 w3)
  · rw [List.getElem?_set_ne (by decide)]; exact e1
  · rw [List.getElem?_set_self (by rw [I2.len]; exact (List.getElem?_eq_some_iff.mp h2).1)]
  · obtain ⟨p, hp, rfl⟩ := List.mem_map.mp hv
    exact ⟨rfl, p, hp, rfl⟩
  subst eH ex
  cases r4
  obtain ⟨y, z, tu, tv, n, oc, od, hu0, hv0, huv, hyz, hzl⟩ := hL p hp
  obtain ⟨ge, _, _, _, _⟩ := I4.pin p (List.mem_append_right _ (List.mem_append_right _ hp))
  rw [w4]
  refine assign_Tuple_tuple (items := #[.str y tu, .str z tv]) (I4.ok.hd hc) ⟨p.2, ge, oc, n, od⟩ (by rw [w6]; rfl) w7 fun h' hx => ?_
  have I5 : Inv X (pins ++ L) _ H4 { s4 with heap := h' } := I4.kept (t' := s4.toks) fun b o e => hx b o (Nat.ne_of_lt (Heap.lt_size e)) e
  rw [w5]
  obtain ⟨m5, hn5, _⟩ := id I5.loc
  refine assignInOrder_cons (wpAny_assign_Name (store_loc (i := 3) (v := .str y) I5 hn5 hN h3 k3 ⟨_, rfl⟩ fun s6 I6 n6 => ?_))
  refine assignInOrder_cons (wpAny_assign_Name (store_loc (i := 4) (v := .str z) I6 n6 hN h4 k4 ⟨_, rfl⟩ fun s7 I7 n7 => ?_))
  refine assignInOrder_nil ?_
  have e3 : (fun y0 => if y0 = xt then some (Value.str z tv) else if y0 = xo then some (Value.str y tu) else m5 y0) xo = some (Value.str y tu) := by
    show (if xo = xt then _ else if xo = xo then _ else _) = _
    rw [if_neg hne, if_pos rfl]
  have e4 : (fun y0 => if y0 = xt then some (Value.str z tv) else if y0 = xo then some (Value.str y tu) else m5 y0) xt = some (Value.str z tv) := by
    show (if xt = xt then _ else _) = _
    rw [if_pos rfl]
  have ht0 : ((((σ.set 2 (some (V.ref ap))).set 3 (some (V.str y))).set 4 (some (V.str z))))[0]? = some (some (vt l)) := by
    rw [List.getElem?_set_ne (by decide), List.getElem?_set_ne (by decide), List.getElem?_set_ne (by decide)]; exact e0
  refine wpAny_execs_cons (wpAny_Return_some ?_)
  refine wpAny_Call_method_late hbase hfew hline rfl (name_at I7 h0 ht0 hv d0 c0 fun v r8 => ?_)
  obtain ⟨tt, rfl⟩ := r8
  refine ⟨"str", "str.replace", F.plainAttrs_str, F.slot_str_replace, by first | exact F.type_str_replace | rfl, typeIs_str _ _ _, (fun _ e => nomatch e), ?_⟩
  rw [hst]
  refine Calls.callWith_builtin rfl (Calls.evalArgs_plain ?_)
  refine Calls.spliced_cons (wpAny_Name (wpAny_loadName_local I7.ok.kind k3 n7 e3 ?_) d3)
  refine Calls.spliced_cons (wpAny_Name (wpAny_loadName_local I7.ok.kind k4 n7 e4 ?_) d4)
  refine Calls.spliced_nil ?_
  have hxl : (tx l).length = l.length := tx_len l
  have hz2 : ((tx l).length + 1) * z.length ≤ ((tx l).length + 1) * 2 := Nat.mul_le_mul_left _ hzl
  refine call_replace hu0 hv0 huv hyz (by rw [hxl] at hz2 ⊢; omega) fun x' t' k hx' => ?_
  refine ⟨vt x'.cps.toList, _, H4, (I7.unpinned (pl := L)).tok _, ⟨t', rfl⟩, q x'.cps.toList H4 ?_ sH⟩
  have : x'.cps.toList.length = x'.length := Array.length_toList
  rw [this, ← hxl]
  omega
end
end L2
namespace Bp
end Bp
namespace Bp
open PySem PySem.Spec PyProof.Rows L2
def top (i : Nat) : Stmt := PySem.Challenge.pw_boughpress_k35_trees_written.main.body.getD i (.Pass ⟨0, 0, 0, 0⟩)
abbrev s_is_tree_of : Stmt := top 17
abbrev s_is_tree : Stmt := top 18
abbrev s_checked_tree : Stmt := top 19
abbrev s_written : Stmt := top 21
abbrev s_show_tree : Stmt := top 22
abbrev s_sign_at : Stmt := top 23
abbrev s_read_branch : Stmt := top 24
abbrev s_read_tree : Stmt := top 25
abbrev s_L_cell_at : Stmt := top 27
abbrev s_L_signs : Stmt := top 28
abbrev s_L_frame : Stmt := top 29
abbrev s_L_sign : Stmt := top 30
abbrev s_L_cells : Stmt := top 31
abbrev s_L_thing : Stmt := top 32
abbrev s_L_tree : Stmt := top 33
abbrev s_L_is : Stmt := top 34
abbrev s_L_alike : Stmt := top 35
abbrev s_L_written : Stmt := top 36
abbrev s_L_read : Stmt := top 37
abbrev s_L_free : Stmt := top 38
abbrev s_L_exchanged : Stmt := top 39
abbrev s_L_put : Stmt := top 40
abbrev s_L_spoilt : Stmt := top 41
abbrev s_L_deep : Stmt := top 42
abbrev s_L_refused : Stmt := top 43
abbrev s_L_read_so : Stmt := top 44
abbrev s_L_shown_so : Stmt := top 45
abbrev s_law : Stmt := top 46
theorem sc_is_tree_of : FnScope ["letters", "thing", "steps"] ["letters", "thing", "steps"] (defScope s_is_tree_of) := ⟨rfl, rfl, rfl, by decide +kernel, rfl, by decide +kernel, by decide +kernel⟩
theorem sc_is_tree : FnScope ["frame", "thing"] ["frame", "thing"] (defScope s_is_tree) := ⟨rfl, rfl, rfl, by decide +kernel, rfl, by decide +kernel, by decide +kernel⟩
theorem sc_checked_tree : FnScope ["frame", "thing"] ["frame", "thing"] (defScope s_checked_tree) := ⟨rfl, rfl, rfl, by decide +kernel, rfl, by decide +kernel, by decide +kernel⟩
theorem sc_written : FnScope ["tree"] ["tree"] (defScope s_written) := ⟨rfl, rfl, rfl, by decide +kernel, rfl, by decide +kernel, by decide +kernel⟩
theorem sc_show_tree : FnScope ["frame", "tree"] ["frame", "tree"] (defScope s_show_tree) := ⟨rfl, rfl, rfl, by decide +kernel, rfl, by decide +kernel, by decide +kernel⟩
theorem sc_sign_at : FnScope ["text", "at"] ["text", "at"] (defScope s_sign_at) := ⟨rfl, rfl, rfl, by decide +kernel, rfl, by decide +kernel, by decide +kernel⟩
theorem sc_read_branch : FnScope ["letters", "text", "at", "steps", "branches", "letter", "branch"] ["letters", "text", "at", "steps"] (defScope s_read_branch) := ⟨rfl, rfl, rfl, by decide +kernel, rfl, by decide +kernel, by decide +kernel⟩
theorem sc_read_tree : FnScope ["frame", "text", "told"] ["frame", "text"] (defScope s_read_tree) := ⟨rfl, rfl, rfl, by decide +kernel, rfl, by decide +kernel, by decide +kernel⟩
theorem sc_L_cell_at : FnScope ["script", "k"] ["script", "k"] (defScope s_L_cell_at) := ⟨rfl, rfl, rfl, by decide +kernel, rfl, by decide +kernel, by decide +kernel⟩
theorem sc_L_signs : FnScope ["cell", "many", "some", "number", "found", "k", "at"] ["cell", "many"] (defScope s_L_signs) := ⟨rfl, rfl, rfl, by decide +kernel, rfl, by decide +kernel, by decide +kernel⟩
theorem sc_L_frame : FnScope ["cell", "many", "depth"] ["cell"] (defScope s_L_frame) := ⟨rfl, rfl, rfl, by decide +kernel, rfl, by decide +kernel, by decide +kernel⟩
theorem sc_L_sign : FnScope ["number", "some"] ["number"] (defScope s_L_sign) := ⟨rfl, rfl, rfl, by decide +kernel, rfl, by decide +kernel, by decide +kernel⟩
theorem sc_L_cells : FnScope ["script", "many", "way", "most"] ["script", "many"] (defScope s_L_cells) := ⟨rfl, rfl, rfl, by decide +kernel, rfl, by decide +kernel, by decide +kernel⟩
theorem sc_L_thing : FnScope ["thing", "kind", "many"] ["thing", "kind", "many"] (defScope s_L_thing) := ⟨rfl, rfl, rfl, by decide +kernel, rfl, by decide +kernel, by decide +kernel⟩
theorem sc_L_tree : FnScope ["cells", "many", "depth", "place", "kind", "pile", "at", "placed", "branches"] ["cells", "many", "depth", "place", "kind"] (defScope s_L_tree) := ⟨rfl, rfl, rfl, by decide +kernel, rfl, by decide +kernel, by decide +kernel⟩
theorem sc_L_is : FnScope ["thing", "many", "depth", "pile", "here", "left", "branch"] ["thing", "many", "depth"] (defScope s_L_is) := ⟨rfl, rfl, rfl, by decide +kernel, rfl, by decide +kernel, by decide +kernel⟩
theorem sc_L_alike : FnScope ["found", "due", "pile", "here", "there", "one", "other"] ["found", "due"] (defScope s_L_alike) := ⟨rfl, rfl, rfl, by decide +kernel, rfl, by decide +kernel, by decide +kernel⟩
theorem sc_L_written : FnScope ["tree", "pile", "text", "here"] ["tree"] (defScope s_L_written) := ⟨rfl, rfl, rfl, by decide +kernel, rfl, by decide +kernel, by decide +kernel⟩
theorem sc_L_read : FnScope ["text", "many", "depth", "pile", "sign", "branches"] ["text", "many", "depth"] (defScope s_L_read) := ⟨rfl, rfl, rfl, by decide +kernel, rfl, by decide +kernel, by decide +kernel⟩
theorem sc_L_free : FnScope ["cells", "size"] ["cells", "size"] (defScope s_L_free) := ⟨rfl, rfl, rfl, by decide +kernel, rfl, by decide +kernel, by decide +kernel⟩
theorem sc_L_exchanged : FnScope ["text", "rest", "pairs", "one", "other"] ["text", "rest"] (defScope s_L_exchanged) := ⟨rfl, rfl, rfl, by decide +kernel, rfl, by decide +kernel, by decide +kernel⟩
theorem sc_L_put : FnScope ["text", "cell", "at", "rest", "sign"] ["text", "cell"] (defScope s_L_put) := ⟨rfl, rfl, rfl, by decide +kernel, rfl, by decide +kernel, by decide +kernel⟩
theorem sc_L_spoilt : FnScope ["text", "many", "cell", "cells", "rest", "at", "left", "to"] ["text", "many", "cell", "cells"] (defScope s_L_spoilt) := ⟨rfl, rfl, rfl, by decide +kernel, rfl, by decide +kernel, by decide +kernel⟩
theorem sc_L_deep : FnScope ["many", "size", "thing", "k"] ["many", "size"] (defScope s_L_deep) := ⟨rfl, rfl, rfl, by decide +kernel, rfl, by decide +kernel, by decide +kernel⟩
theorem sc_L_refused : FnScope ["frame", "thing", "shown", "caught", "e"] ["frame", "thing", "shown"] (defScope s_L_refused) := ⟨rfl, rfl, rfl, by decide +kernel, rfl, by decide +kernel, by decide +kernel⟩
theorem sc_L_read_so : FnScope ["frame", "text", "due"] ["frame", "text"] (defScope s_L_read_so) := ⟨rfl, rfl, rfl, by decide +kernel, rfl, by decide +kernel, by decide +kernel⟩
theorem sc_L_shown_so : FnScope ["frame", "thing", "found"] ["frame", "thing"] (defScope s_L_shown_so) := ⟨rfl, rfl, rfl, by decide +kernel, rfl, by decide +kernel, by decide +kernel⟩
theorem sc_law : FnScope ["script", "frame", "other", "many", "cells", "cell", "tree", "wrong", "text", "spoilt", "told", "thing", "size", "deep"] ["script"] (defScope s_law) := ⟨rfl, rfl, rfl, by decide +kernel, rfl, by decide +kernel, by decide +kernel⟩
theorem bt_ValueError : bootBuiltins "ValueError" = some (.type "ValueError") := by decide +kernel
theorem bt_all : bootBuiltins "all" = some (.builtin "all") := by decide +kernel
theorem bt_isinstance : bootBuiltins "isinstance" = some (.builtin "isinstance") := by decide +kernel
theorem bt_len : bootBuiltins "len" = some (.builtin "len") := by decide +kernel
theorem bt_list : bootBuiltins "list" = some (.type "list") := by decide +kernel
theorem bt_reversed : bootBuiltins "reversed" = some (.type "reversed") := by decide +kernel
theorem bt_str : bootBuiltins "str" = some (.type "str") := by decide +kernel
theorem bt_tuple : bootBuiltins "tuple" = some (.type "tuple") := by decide +kernel
theorem bt_zip : bootBuiltins "zip" = some (.type "zip") := by decide +kernel
set_option genInjectivity false in
set_option genSizeOf false in
structure Adr where
  a_is_tree_of : Addr
  fd_is_tree_of : FuncData
  a_is_tree : Addr
  fd_is_tree : FuncData
  a_checked_tree : Addr
  fd_checked_tree : FuncData
  a_written : Addr
  fd_written : FuncData
  a_show_tree : Addr
  fd_show_tree : FuncData
  a_sign_at : Addr
  fd_sign_at : FuncData
  a_read_branch : Addr
  fd_read_branch : FuncData
  a_read_tree : Addr
  fd_read_tree : FuncData
  a_L_cell_at : Addr
  fd_L_cell_at : FuncData
  a_L_signs : Addr
  fd_L_signs : FuncData
  a_L_frame : Addr
  fd_L_frame : FuncData
  a_L_sign : Addr
  fd_L_sign : FuncData
  a_L_cells : Addr
  fd_L_cells : FuncData
  a_L_thing : Addr
  fd_L_thing : FuncData
  a_L_tree : Addr
  fd_L_tree : FuncData
  a_L_is : Addr
  fd_L_is : FuncData
  a_L_alike : Addr
  fd_L_alike : FuncData
  a_L_written : Addr
  fd_L_written : FuncData
  a_L_read : Addr
  fd_L_read : FuncData
  a_L_free : Addr
  fd_L_free : FuncData
  a_L_exchanged : Addr
  fd_L_exchanged : FuncData
  a_L_put : Addr
  fd_L_put : FuncData
  a_L_spoilt : Addr
  fd_L_spoilt : FuncData
  a_L_deep : Addr
  fd_L_deep : FuncData
  a_L_refused : Addr
  fd_L_refused : FuncData
  a_L_read_so : Addr
  fd_L_read_so : FuncData
  a_L_shown_so : Addr
  fd_L_shown_so : FuncData
  a_law : Addr
  fd_law : FuncData
  c_PressError : Addr
  c_NoFraction : Addr
  c_NoFrame : Addr
  c_NoText : Addr
  c_NoPlace : Addr
  c_NoKnot : Addr
  c_NoTree : Addr
  c_NoSign : Addr
  c_NothingTaken : Addr
  c_NoBits : Addr
  c_NoPress : Addr
  c_NoPacket : Addr
  c_NoRow : Addr
  c_NoName : Addr
  c_NoNumber : Addr
structure Txt (K : PySem.W.Frag) (mg : Str → Option Value) (t : Adr) : Prop where
  F_is_tree_of : Fun K "is_tree_of" "is_tree_of" s_is_tree_of t.a_is_tree_of t.fd_is_tree_of
  b_is_tree_of : Binds K t.fd_is_tree_of ["letters", "thing", "steps"] []
  m_is_tree_of : mg "is_tree_of" = some (.ref t.a_is_tree_of)
  F_is_tree : Fun K "is_tree" "is_tree" s_is_tree t.a_is_tree t.fd_is_tree
  b_is_tree : Binds K t.fd_is_tree ["frame", "thing"] []
  m_is_tree : mg "is_tree" = some (.ref t.a_is_tree)
  F_checked_tree : Fun K "checked_tree" "checked_tree" s_checked_tree t.a_checked_tree t.fd_checked_tree
  b_checked_tree : Binds K t.fd_checked_tree ["frame", "thing"] []
  m_checked_tree : mg "checked_tree" = some (.ref t.a_checked_tree)
  F_written : Fun K "written" "written" s_written t.a_written t.fd_written
  b_written : Binds K t.fd_written ["tree"] []
  m_written : mg "written" = some (.ref t.a_written)
  F_show_tree : Fun K "show_tree" "show_tree" s_show_tree t.a_show_tree t.fd_show_tree
  b_show_tree : Binds K t.fd_show_tree ["frame", "tree"] []
  m_show_tree : mg "show_tree" = some (.ref t.a_show_tree)
  F_sign_at : Fun K "sign_at" "sign_at" s_sign_at t.a_sign_at t.fd_sign_at
  b_sign_at : Binds K t.fd_sign_at ["text", "at"] []
  m_sign_at : mg "sign_at" = some (.ref t.a_sign_at)
  F_read_branch : Fun K "read_branch" "read_branch" s_read_branch t.a_read_branch t.fd_read_branch
  b_read_branch : Binds K t.fd_read_branch ["letters", "text", "at", "steps"] []
  m_read_branch : mg "read_branch" = some (.ref t.a_read_branch)
  F_read_tree : Fun K "read_tree" "read_tree" s_read_tree t.a_read_tree t.fd_read_tree
  b_read_tree : Binds K t.fd_read_tree ["frame", "text"] []
  m_read_tree : mg "read_tree" = some (.ref t.a_read_tree)
  F_L_cell_at : Fun K "_law_cell_at" "_law_cell_at" s_L_cell_at t.a_L_cell_at t.fd_L_cell_at
  b_L_cell_at : Binds K t.fd_L_cell_at ["script", "k"] []
  m_L_cell_at : mg "_law_cell_at" = some (.ref t.a_L_cell_at)
  F_L_signs : Fun K "_law_signs" "_law_signs" s_L_signs t.a_L_signs t.fd_L_signs
  b_L_signs : Binds K t.fd_L_signs ["cell", "many"] []
  m_L_signs : mg "_law_signs" = some (.ref t.a_L_signs)
  F_L_frame : Fun K "_law_frame" "_law_frame" s_L_frame t.a_L_frame t.fd_L_frame
  b_L_frame : Binds K t.fd_L_frame ["cell"] []
  m_L_frame : mg "_law_frame" = some (.ref t.a_L_frame)
  F_L_sign : Fun K "_law_sign" "_law_sign" s_L_sign t.a_L_sign t.fd_L_sign
  b_L_sign : Binds K t.fd_L_sign ["number"] []
  m_L_sign : mg "_law_sign" = some (.ref t.a_L_sign)
  F_L_cells : Fun K "_law_cells" "_law_cells" s_L_cells t.a_L_cells t.fd_L_cells
  b_L_cells : Binds K t.fd_L_cells ["script", "many"] []
  m_L_cells : mg "_law_cells" = some (.ref t.a_L_cells)
  F_L_thing : Fun K "_law_thing" "_law_thing" s_L_thing t.a_L_thing t.fd_L_thing
  b_L_thing : Binds K t.fd_L_thing ["thing", "kind", "many"] []
  m_L_thing : mg "_law_thing" = some (.ref t.a_L_thing)
  F_L_tree : Fun K "_law_tree" "_law_tree" s_L_tree t.a_L_tree t.fd_L_tree
  b_L_tree : Binds K t.fd_L_tree ["cells", "many", "depth", "place", "kind"] []
  m_L_tree : mg "_law_tree" = some (.ref t.a_L_tree)
  F_L_is : Fun K "_law_is" "_law_is" s_L_is t.a_L_is t.fd_L_is
  b_L_is : Binds K t.fd_L_is ["thing", "many", "depth"] []
  m_L_is : mg "_law_is" = some (.ref t.a_L_is)
  F_L_alike : Fun K "_law_alike" "_law_alike" s_L_alike t.a_L_alike t.fd_L_alike
  b_L_alike : Binds K t.fd_L_alike ["found", "due"] []
  m_L_alike : mg "_law_alike" = some (.ref t.a_L_alike)
  F_L_written : Fun K "_law_written" "_law_written" s_L_written t.a_L_written t.fd_L_written
  b_L_written : Binds K t.fd_L_written ["tree"] []
  m_L_written : mg "_law_written" = some (.ref t.a_L_written)
  F_L_read : Fun K "_law_read" "_law_read" s_L_read t.a_L_read t.fd_L_read
  b_L_read : Binds K t.fd_L_read ["text", "many", "depth"] []
  m_L_read : mg "_law_read" = some (.ref t.a_L_read)
  F_L_free : Fun K "_law_free" "_law_free" s_L_free t.a_L_free t.fd_L_free
  b_L_free : Binds K t.fd_L_free ["cells", "size"] []
  m_L_free : mg "_law_free" = some (.ref t.a_L_free)
  F_L_exchanged : Fun K "_law_exchanged" "_law_exchanged" s_L_exchanged t.a_L_exchanged t.fd_L_exchanged
  b_L_exchanged : Binds K t.fd_L_exchanged ["text", "rest"] []
  m_L_exchanged : mg "_law_exchanged" = some (.ref t.a_L_exchanged)
  F_L_put : Fun K "_law_put" "_law_put" s_L_put t.a_L_put t.fd_L_put
  b_L_put : Binds K t.fd_L_put ["text", "cell"] []
  m_L_put : mg "_law_put" = some (.ref t.a_L_put)
  F_L_spoilt : Fun K "_law_spoilt" "_law_spoilt" s_L_spoilt t.a_L_spoilt t.fd_L_spoilt
  b_L_spoilt : Binds K t.fd_L_spoilt ["text", "many", "cell", "cells"] []
  m_L_spoilt : mg "_law_spoilt" = some (.ref t.a_L_spoilt)
  F_L_deep : Fun K "_law_deep" "_law_deep" s_L_deep t.a_L_deep t.fd_L_deep
  b_L_deep : Binds K t.fd_L_deep ["many", "size"] []
  m_L_deep : mg "_law_deep" = some (.ref t.a_L_deep)
  F_L_refused : Fun K "_law_refused" "_law_refused" s_L_refused t.a_L_refused t.fd_L_refused
  b_L_refused : Binds K t.fd_L_refused ["frame", "thing", "shown"] []
  m_L_refused : mg "_law_refused" = some (.ref t.a_L_refused)
  F_L_read_so : Fun K "_law_read_so" "_law_read_so" s_L_read_so t.a_L_read_so t.fd_L_read_so
  b_L_read_so : Binds K t.fd_L_read_so ["frame", "text"] []
  m_L_read_so : mg "_law_read_so" = some (.ref t.a_L_read_so)
  F_L_shown_so : Fun K "_law_shown_so" "_law_shown_so" s_L_shown_so t.a_L_shown_so t.fd_L_shown_so
  b_L_shown_so : Binds K t.fd_L_shown_so ["frame", "thing"] []
  m_L_shown_so : mg "_law_shown_so" = some (.ref t.a_L_shown_so)
  F_law : Fun K "law" "law" s_law t.a_law t.fd_law
  b_law : Binds K t.fd_law ["script"] []
  m_law : mg "law" = some (.ref t.a_law)
  m_ValueError : mg "ValueError" = none
  m_all : mg "all" = none
  m_isinstance : mg "isinstance" = none
  m_len : mg "len" = none
  m_list : mg "list" = none
  m_range : mg "range" = none
  m_reversed : mg "reversed" = none
  m_str : mg "str" = none
  m_tuple : mg "tuple" = none
  m_zip : mg "zip" = none
  m_PressError : mg "PressError" = some (.ref t.c_PressError)
  m_NoFraction : mg "NoFraction" = some (.ref t.c_NoFraction)
  m_NoFrame : mg "NoFrame" = some (.ref t.c_NoFrame)
  m_NoText : mg "NoText" = some (.ref t.c_NoText)
  m_NoPlace : mg "NoPlace" = some (.ref t.c_NoPlace)
  m_NoKnot : mg "NoKnot" = some (.ref t.c_NoKnot)
  m_NoTree : mg "NoTree" = some (.ref t.c_NoTree)
  m_NoSign : mg "NoSign" = some (.ref t.c_NoSign)
  m_NothingTaken : mg "NothingTaken" = some (.ref t.c_NothingTaken)
  m_NoBits : mg "NoBits" = some (.ref t.c_NoBits)
  m_NoPress : mg "NoPress" = some (.ref t.c_NoPress)
  m_NoPacket : mg "NoPacket" = some (.ref t.c_NoPacket)
  m_NoRow : mg "NoRow" = some (.ref t.c_NoRow)
  m_NoName : mg "NoName" = some (.ref t.c_NoName)
  m_NoNumber : mg "NoNumber" = some (.ref t.c_NoNumber)
  x_NoTree : PySem.W.excIn K t.c_NoTree [.type "ValueError", .type "Exception", .type "BaseException", .type "object"] "ValueError.__new__" = true
  z_NoTree : XT.ExcK K t.c_NoTree
  x_PressError : PySem.W.excIn K t.c_PressError [.type "ValueError", .type "Exception", .type "BaseException", .type "object"] "ValueError.__new__" = true
  z_PressError : XT.ExcK K t.c_PressError
  i_NoTree_NoTree : PySem.W.kitOne K (.ref t.c_NoTree) (.ref t.c_NoTree) = some true
  i_NoTree_ValueError : PySem.W.kitOne K (.ref t.c_NoTree) (.type "ValueError") = some true
  it_L_refused_NoTree_0 : PySem.W.kitAny K (.ref t.c_NoTree) [.ref t.c_NoBits, .ref t.c_NoFraction, .ref t.c_NoFrame, .ref t.c_NoKnot, .ref t.c_NoName, .ref t.c_NoNumber, .ref t.c_NoPacket, .ref t.c_NoPlace] = some false
  it_L_refused_NoTree_1 : PySem.W.kitAny K (.ref t.c_NoTree) [.ref t.c_NoPress, .ref t.c_NoRow, .ref t.c_NoSign, .ref t.c_NoText, .ref t.c_NothingTaken] = some false
  u_NoTree_PressError : PySem.W.mroIn K t.c_NoTree (.ref t.c_PressError) = some true
  bl : ∀ (s : Shared) (v : Value), BindsTo s t.fd_law ⟨[v], []⟩ [("script", v)]
section
variable {K : PySem.W.Frag}
abbrev fnx (x qual : Str) (st : Stmt) (kV doc pm : Value) (an : Option Addr) (cdv ct : Value) : FuncData := PySem.W.fnOf x qual (defArgs st) (defBody st) (defScope st) .none kV doc pm an cdv ct
def Fx (K : PySem.W.Frag) (x : Str) (st : Stmt) (a : Addr) (fd : FuncData) : Prop := Fun K x x st a fd ∧ PySem.W.nsIn K mainGlobals x = some (some (.ref a))
def Mx (K : PySem.W.Frag) (x qual : Str) (st : Stmt) (c a : Addr) (fd : FuncData) : Prop := Fun K x qual st a fd ∧ PySem.W.findIn K (.ref c) x = some (some (.ref a)) ∧ PySem.W.isFn K (.ref a) = true
theorem fx {x : Str} {st : Stmt} {a : Addr} {oc kV doc pm cdv ct : Value} {od an : Option Addr} {osl : Array (Option Value)} (n : PySem.W.nsIn K mainGlobals x = some (some (.ref a))) (l : K.lookup a = some ⟨oc, od, .func (PySem.W.fnOf x x (defArgs st) (defBody st) (defScope st) .none kV doc pm an cdv ct), osl⟩)
    (c : PySem.W.codeIn K cdv x = true) (k : PySem.W.keepIn K (.ref a) = true) : Fx K x st a (PySem.W.fnOf x x (defArgs st) (defBody st) (defScope st) .none kV doc pm an cdv ct) := ⟨fun_mk l c k, n⟩
theorem mx {x qual : Str} {st : Stmt} {b a : Addr} {oc kV doc pm cdv ct : Value} {od an : Option Addr} {osl : Array (Option Value)} (n : PySem.W.findIn K (.ref b) x = some (some (.ref a))) (i : PySem.W.isFn K (.ref a) = true) (l : K.lookup a = some ⟨oc, od, .func (PySem.W.fnOf x qual (defArgs st) (defBody st) (defScope st) .none kV doc pm an cdv ct), osl⟩)
    (c : PySem.W.codeIn K cdv qual = true) (k : PySem.W.keepIn K (.ref a) = true) : Mx K x qual st b a (PySem.W.fnOf x qual (defArgs st) (defBody st) (defScope st) .none kV doc pm an cdv ct) := ⟨fun_mk l c k, n, i⟩
variable {x qual : Str} {st : Stmt} {f : Addr} {fd : FuncData}
theorem b1 {p0 : Str} (F : Fun K x qual st f fd) (h : ∀ (kV doc pm : Value) (an : Option Addr) (cdv ct u0 : Value), bindArgs (fnx x qual st kV doc pm an cdv ct) ⟨[u0], []⟩ = pure [(p0, u0)]) : Binds K fd [p0] [] := F.binds fun _ _ _ _ _ _ us hl => match us, hl with | [_], _ => h ..
theorem b2 {p0 p1 : Str} (F : Fun K x qual st f fd) (h : ∀ (kV doc pm : Value) (an : Option Addr) (cdv ct u0 u1 : Value), bindArgs (fnx x qual st kV doc pm an cdv ct) ⟨[u0, u1], []⟩ = pure [(p0, u0), (p1, u1)]) : Binds K fd [p0, p1] [] := F.binds fun _ _ _ _ _ _ us hl => match us, hl with | [_, _], _ => h ..
theorem b3 {p0 p1 p2 : Str} (F : Fun K x qual st f fd) (h : ∀ (kV doc pm : Value) (an : Option Addr) (cdv ct u0 u1 u2 : Value), bindArgs (fnx x qual st kV doc pm an cdv ct) ⟨[u0, u1, u2], []⟩ = pure [(p0, u0), (p1, u1), (p2, u2)]) : Binds K fd [p0, p1, p2] [] := F.binds fun _ _ _ _ _ _ us hl => match us, hl with | [_, _, _], _ => h ..
theorem b4 {p0 p1 p2 p3 : Str} (F : Fun K x qual st f fd) (h : ∀ (kV doc pm : Value) (an : Option Addr) (cdv ct u0 u1 u2 u3 : Value), bindArgs (fnx x qual st kV doc pm an cdv ct) ⟨[u0, u1, u2, u3], []⟩ = pure [(p0, u0), (p1, u1), (p2, u2), (p3, u3)]) : Binds K fd [p0, p1, p2, p3] [] := F.binds fun _ _ _ _ _ _ us hl => match us, hl with | [_, _, _, _], _ => h ..
theorem b5 {p0 p1 p2 p3 p4 : Str} (F : Fun K x qual st f fd) (h : ∀ (kV doc pm : Value) (an : Option Addr) (cdv ct u0 u1 u2 u3 u4 : Value), bindArgs (fnx x qual st kV doc pm an cdv ct) ⟨[u0, u1, u2, u3, u4], []⟩ = pure [(p0, u0), (p1, u1), (p2, u2), (p3, u3), (p4, u4)]) : Binds K fd [p0, p1, p2, p3, p4] [] := F.binds fun _ _ _ _ _ _ us hl => match us, hl with | [_, _, _, _, _], _ => h ..
theorem b0 (F : Fun K x qual st f fd) (h : ∀ (kV doc pm : Value) (an : Option Addr) (cdv ct : Value), bindArgs (fnx x qual st kV doc pm an cdv ct) ⟨[], []⟩ = pure []) : Binds K fd [] [] := F.binds fun _ _ _ _ _ _ us hl => match us, hl with | [], _ => h ..
theorem bl0 {p0 : Str} (F : Fun K x qual st f fd) (h : ∀ (kV doc pm : Value) (an : Option Addr) (cdv ct u0 : Value), bindArgs (fnx x qual st kV doc pm an cdv ct) ⟨[u0], []⟩ = pure [(p0, u0)]) (s : Shared) (v : Value) : BindsTo s fd ⟨[v], []⟩ [(p0, v)] := by
  obtain ⟨oc, od, kV, doc, pm, an, cdv, ct, osl, rfl, lk, hcd⟩ := F.ex
  exact .of_eq (h ..)
end
theorem txt_mk {K : PySem.W.Frag} {h : Heap} {mg : Str → Option Value} (X : K.In h) (G : h.Ns mainGlobals mg)
    {a_is_tree_of : Addr} {fd_is_tree_of : FuncData}
    {a_is_tree : Addr} {fd_is_tree : FuncData}
    {a_checked_tree : Addr} {fd_checked_tree : FuncData}
    {a_written : Addr} {fd_written : FuncData}
    {a_show_tree : Addr} {fd_show_tree : FuncData}
    {a_sign_at : Addr} {fd_sign_at : FuncData}
    {a_read_branch : Addr} {fd_read_branch : FuncData}
    {a_read_tree : Addr} {fd_read_tree : FuncData}
    {a_L_cell_at : Addr} {fd_L_cell_at : FuncData}
    {a_L_signs : Addr} {fd_L_signs : FuncData}
    {a_L_frame : Addr} {fd_L_frame : FuncData}
    {a_L_sign : Addr} {fd_L_sign : FuncData}
    {a_L_cells : Addr} {fd_L_cells : FuncData}
    {a_L_thing : Addr} {fd_L_thing : FuncData}
    {a_L_tree : Addr} {fd_L_tree : FuncData}
    {a_L_is : Addr} {fd_L_is : FuncData}
    {a_L_alike : Addr} {fd_L_alike : FuncData}
    {a_L_written : Addr} {fd_L_written : FuncData}
    {a_L_read : Addr} {fd_L_read : FuncData}
    {a_L_free : Addr} {fd_L_free : FuncData}
    {a_L_exchanged : Addr} {fd_L_exchanged : FuncData}
    {a_L_put : Addr} {fd_L_put : FuncData}
    {a_L_spoilt : Addr} {fd_L_spoilt : FuncData}
    {a_L_deep : Addr} {fd_L_deep : FuncData}
    {a_L_refused : Addr} {fd_L_refused : FuncData}
    {a_L_read_so : Addr} {fd_L_read_so : FuncData}
    {a_L_shown_so : Addr} {fd_L_shown_so : FuncData}
    {a_law : Addr} {fd_law : FuncData}
    {c_PressError : Addr}
    {c_NoFraction : Addr}
    {c_NoFrame : Addr}
    {c_NoText : Addr}
    {c_NoPlace : Addr}
    {c_NoKnot : Addr}
    {c_NoTree : Addr}
    {c_NoSign : Addr}
    {c_NothingTaken : Addr}
    {c_NoBits : Addr}
    {c_NoPress : Addr}
    {c_NoPacket : Addr}
    {c_NoRow : Addr}
    {c_NoName : Addr}
    {c_NoNumber : Addr}
    (f_is_tree_of : Fx K "is_tree_of" s_is_tree_of a_is_tree_of fd_is_tree_of)
    (f_is_tree : Fx K "is_tree" s_is_tree a_is_tree fd_is_tree)
    (f_checked_tree : Fx K "checked_tree" s_checked_tree a_checked_tree fd_checked_tree)
    (f_written : Fx K "written" s_written a_written fd_written)
    (f_show_tree : Fx K "show_tree" s_show_tree a_show_tree fd_show_tree)
    (f_sign_at : Fx K "sign_at" s_sign_at a_sign_at fd_sign_at)
    (f_read_branch : Fx K "read_branch" s_read_branch a_read_branch fd_read_branch)
    (f_read_tree : Fx K "read_tree" s_read_tree a_read_tree fd_read_tree)
    (f_L_cell_at : Fx K "_law_cell_at" s_L_cell_at a_L_cell_at fd_L_cell_at)
    (f_L_signs : Fx K "_law_signs" s_L_signs a_L_signs fd_L_signs)
    (f_L_frame : Fx K "_law_frame" s_L_frame a_L_frame fd_L_frame)
    (f_L_sign : Fx K "_law_sign" s_L_sign a_L_sign fd_L_sign)
    (f_L_cells : Fx K "_law_cells" s_L_cells a_L_cells fd_L_cells)
    (f_L_thing : Fx K "_law_thing" s_L_thing a_L_thing fd_L_thing)
    (f_L_tree : Fx K "_law_tree" s_L_tree a_L_tree fd_L_tree)
    (f_L_is : Fx K "_law_is" s_L_is a_L_is fd_L_is)
    (f_L_alike : Fx K "_law_alike" s_L_alike a_L_alike fd_L_alike)
    (f_L_written : Fx K "_law_written" s_L_written a_L_written fd_L_written)
    (f_L_read : Fx K "_law_read" s_L_read a_L_read fd_L_read)
    (f_L_free : Fx K "_law_free" s_L_free a_L_free fd_L_free)
    (f_L_exchanged : Fx K "_law_exchanged" s_L_exchanged a_L_exchanged fd_L_exchanged)
    (f_L_put : Fx K "_law_put" s_L_put a_L_put fd_L_put)
    (f_L_spoilt : Fx K "_law_spoilt" s_L_spoilt a_L_spoilt fd_L_spoilt)
    (f_L_deep : Fx K "_law_deep" s_L_deep a_L_deep fd_L_deep)
    (f_L_refused : Fx K "_law_refused" s_L_refused a_L_refused fd_L_refused)
    (f_L_read_so : Fx K "_law_read_so" s_L_read_so a_L_read_so fd_L_read_so)
    (f_L_shown_so : Fx K "_law_shown_so" s_L_shown_so a_L_shown_so fd_L_shown_so)
    (f_law : Fx K "law" s_law a_law fd_law)
    (n_ValueError : PySem.W.nsIn K mainGlobals "ValueError" = some none)
    (n_all : PySem.W.nsIn K mainGlobals "all" = some none)
    (n_isinstance : PySem.W.nsIn K mainGlobals "isinstance" = some none)
    (n_len : PySem.W.nsIn K mainGlobals "len" = some none)
    (n_list : PySem.W.nsIn K mainGlobals "list" = some none)
    (n_range : PySem.W.nsIn K mainGlobals "range" = some none)
    (n_reversed : PySem.W.nsIn K mainGlobals "reversed" = some none)
    (n_str : PySem.W.nsIn K mainGlobals "str" = some none)
    (n_tuple : PySem.W.nsIn K mainGlobals "tuple" = some none)
    (n_zip : PySem.W.nsIn K mainGlobals "zip" = some none)
    (n_PressError : PySem.W.nsIn K mainGlobals "PressError" = some (some (.ref c_PressError)))
    (n_NoFraction : PySem.W.nsIn K mainGlobals "NoFraction" = some (some (.ref c_NoFraction)))
    (n_NoFrame : PySem.W.nsIn K mainGlobals "NoFrame" = some (some (.ref c_NoFrame)))
    (n_NoText : PySem.W.nsIn K mainGlobals "NoText" = some (some (.ref c_NoText)))
    (n_NoPlace : PySem.W.nsIn K mainGlobals "NoPlace" = some (some (.ref c_NoPlace)))
    (n_NoKnot : PySem.W.nsIn K mainGlobals "NoKnot" = some (some (.ref c_NoKnot)))
    (n_NoTree : PySem.W.nsIn K mainGlobals "NoTree" = some (some (.ref c_NoTree)))
    (n_NoSign : PySem.W.nsIn K mainGlobals "NoSign" = some (some (.ref c_NoSign)))
    (n_NothingTaken : PySem.W.nsIn K mainGlobals "NothingTaken" = some (some (.ref c_NothingTaken)))
    (n_NoBits : PySem.W.nsIn K mainGlobals "NoBits" = some (some (.ref c_NoBits)))
    (n_NoPress : PySem.W.nsIn K mainGlobals "NoPress" = some (some (.ref c_NoPress)))
    (n_NoPacket : PySem.W.nsIn K mainGlobals "NoPacket" = some (some (.ref c_NoPacket)))
    (n_NoRow : PySem.W.nsIn K mainGlobals "NoRow" = some (some (.ref c_NoRow)))
    (n_NoName : PySem.W.nsIn K mainGlobals "NoName" = some (some (.ref c_NoName)))
    (n_NoNumber : PySem.W.nsIn K mainGlobals "NoNumber" = some (some (.ref c_NoNumber)))
    (x_NoTree : PySem.W.excIn K c_NoTree [.type "ValueError", .type "Exception", .type "BaseException", .type "object"] "ValueError.__new__" = true)
    (zga_NoTree : PySem.W.findIn K (.ref c_NoTree) "__getattribute__" = some (some (.builtin "BaseException.__getattribute__")))
    (zgt_NoTree : PySem.W.findIn K (.ref c_NoTree) "__getattr__" = some none)
    (zcl_NoTree : PySem.W.findIn K (.ref c_NoTree) "__class__" = some (some (.builtin "object.__class__")))
    (zob_NoTree : PySem.W.mroIn K c_NoTree (.type "object") = some true)
    (zbe_NoTree : PySem.W.mroIn K c_NoTree (.type "BaseException") = some true)
    (x_PressError : PySem.W.excIn K c_PressError [.type "ValueError", .type "Exception", .type "BaseException", .type "object"] "ValueError.__new__" = true)
    (zga_PressError : PySem.W.findIn K (.ref c_PressError) "__getattribute__" = some (some (.builtin "BaseException.__getattribute__")))
    (zgt_PressError : PySem.W.findIn K (.ref c_PressError) "__getattr__" = some none)
    (zcl_PressError : PySem.W.findIn K (.ref c_PressError) "__class__" = some (some (.builtin "object.__class__")))
    (zob_PressError : PySem.W.mroIn K c_PressError (.type "object") = some true)
    (zbe_PressError : PySem.W.mroIn K c_PressError (.type "BaseException") = some true)
    (i_NoTree_NoTree : PySem.W.kitOne K (.ref c_NoTree) (.ref c_NoTree) = some true)
    (i_NoTree_ValueError : PySem.W.kitOne K (.ref c_NoTree) (.type "ValueError") = some true)
    (it_L_refused_NoTree_0 : PySem.W.kitAny K (.ref c_NoTree) [.ref c_NoBits, .ref c_NoFraction, .ref c_NoFrame, .ref c_NoKnot, .ref c_NoName, .ref c_NoNumber, .ref c_NoPacket, .ref c_NoPlace] = some false)
    (it_L_refused_NoTree_1 : PySem.W.kitAny K (.ref c_NoTree) [.ref c_NoPress, .ref c_NoRow, .ref c_NoSign, .ref c_NoText, .ref c_NothingTaken] = some false)
    (u_NoTree_PressError : PySem.W.mroIn K c_NoTree (.ref c_PressError) = some true)
    : ∃ t, Txt K mg t := by
  exact ⟨⟨_, _, _, _, _, _, _, _, _, _, _, _, _, _, _, _, _, _, _, _, _, _, _, _, _, _, _, _, _, _, _, _, _, _, _, _, _, _, _, _, _, _, _, _, _, _, _, _, _, _, _, _, _, _, _, _, _, _, _, _, _, _, _, _, _, _, _, _, _, _, _⟩, ⟨
    f_is_tree_of.1, b3 f_is_tree_of.1 fun _ _ _ _ _ _ _ _ _ => rfl, PySem.W.mg_of X G f_is_tree_of.2,
    f_is_tree.1, b2 f_is_tree.1 fun _ _ _ _ _ _ _ _ => rfl, PySem.W.mg_of X G f_is_tree.2,
    f_checked_tree.1, b2 f_checked_tree.1 fun _ _ _ _ _ _ _ _ => rfl, PySem.W.mg_of X G f_checked_tree.2,
    f_written.1, b1 f_written.1 fun _ _ _ _ _ _ _ => rfl, PySem.W.mg_of X G f_written.2,
    f_show_tree.1, b2 f_show_tree.1 fun _ _ _ _ _ _ _ _ => rfl, PySem.W.mg_of X G f_show_tree.2,
    f_sign_at.1, b2 f_sign_at.1 fun _ _ _ _ _ _ _ _ => rfl, PySem.W.mg_of X G f_sign_at.2,
    f_read_branch.1, b4 f_read_branch.1 fun _ _ _ _ _ _ _ _ _ _ => rfl, PySem.W.mg_of X G f_read_branch.2,
    f_read_tree.1, b2 f_read_tree.1 fun _ _ _ _ _ _ _ _ => rfl, PySem.W.mg_of X G f_read_tree.2,
    f_L_cell_at.1, b2 f_L_cell_at.1 fun _ _ _ _ _ _ _ _ => rfl, PySem.W.mg_of X G f_L_cell_at.2,
    f_L_signs.1, b2 f_L_signs.1 fun _ _ _ _ _ _ _ _ => rfl, PySem.W.mg_of X G f_L_signs.2,
    f_L_frame.1, b1 f_L_frame.1 fun _ _ _ _ _ _ _ => rfl, PySem.W.mg_of X G f_L_frame.2,
    f_L_sign.1, b1 f_L_sign.1 fun _ _ _ _ _ _ _ => rfl, PySem.W.mg_of X G f_L_sign.2,
    f_L_cells.1, b2 f_L_cells.1 fun _ _ _ _ _ _ _ _ => rfl, PySem.W.mg_of X G f_L_cells.2,
    f_L_thing.1, b3 f_L_thing.1 fun _ _ _ _ _ _ _ _ _ => rfl, PySem.W.mg_of X G f_L_thing.2,
    f_L_tree.1, b5 f_L_tree.1 fun _ _ _ _ _ _ _ _ _ _ _ => rfl, PySem.W.mg_of X G f_L_tree.2,
    f_L_is.1, b3 f_L_is.1 fun _ _ _ _ _ _ _ _ _ => rfl, PySem.W.mg_of X G f_L_is.2,
    f_L_alike.1, b2 f_L_alike.1 fun _ _ _ _ _ _ _ _ => rfl, PySem.W.mg_of X G f_L_alike.2,
    f_L_written.1, b1 f_L_written.1 fun _ _ _ _ _ _ _ => rfl, PySem.W.mg_of X G f_L_written.2,
    f_L_read.1, b3 f_L_read.1 fun _ _ _ _ _ _ _ _ _ => rfl, PySem.W.mg_of X G f_L_read.2,
    f_L_free.1, b2 f_L_free.1 fun _ _ _ _ _ _ _ _ => rfl, PySem.W.mg_of X G f_L_free.2,
    f_L_exchanged.1, b2 f_L_exchanged.1 fun _ _ _ _ _ _ _ _ => rfl, PySem.W.mg_of X G f_L_exchanged.2,
    f_L_put.1, b2 f_L_put.1 fun _ _ _ _ _ _ _ _ => rfl, PySem.W.mg_of X G f_L_put.2,
    f_L_spoilt.1, b4 f_L_spoilt.1 fun _ _ _ _ _ _ _ _ _ _ => rfl, PySem.W.mg_of X G f_L_spoilt.2,
    f_L_deep.1, b2 f_L_deep.1 fun _ _ _ _ _ _ _ _ => rfl, PySem.W.mg_of X G f_L_deep.2,
    f_L_refused.1, b3 f_L_refused.1 fun _ _ _ _ _ _ _ _ _ => rfl, PySem.W.mg_of X G f_L_refused.2,
    f_L_read_so.1, b2 f_L_read_so.1 fun _ _ _ _ _ _ _ _ => rfl, PySem.W.mg_of X G f_L_read_so.2,
    f_L_shown_so.1, b2 f_L_shown_so.1 fun _ _ _ _ _ _ _ _ => rfl, PySem.W.mg_of X G f_L_shown_so.2,
    f_law.1, b1 f_law.1 fun _ _ _ _ _ _ _ => rfl, PySem.W.mg_of X G f_law.2,
    PySem.W.mg_none_of X G n_ValueError,
    PySem.W.mg_none_of X G n_all,
    PySem.W.mg_none_of X G n_isinstance,
    PySem.W.mg_none_of X G n_len,
    PySem.W.mg_none_of X G n_list,
    PySem.W.mg_none_of X G n_range,
    PySem.W.mg_none_of X G n_reversed,
    PySem.W.mg_none_of X G n_str,
    PySem.W.mg_none_of X G n_tuple,
    PySem.W.mg_none_of X G n_zip,
    PySem.W.mg_of X G n_PressError,
    PySem.W.mg_of X G n_NoFraction,
    PySem.W.mg_of X G n_NoFrame,
    PySem.W.mg_of X G n_NoText,
    PySem.W.mg_of X G n_NoPlace,
    PySem.W.mg_of X G n_NoKnot,
    PySem.W.mg_of X G n_NoTree,
    PySem.W.mg_of X G n_NoSign,
    PySem.W.mg_of X G n_NothingTaken,
    PySem.W.mg_of X G n_NoBits,
    PySem.W.mg_of X G n_NoPress,
    PySem.W.mg_of X G n_NoPacket,
    PySem.W.mg_of X G n_NoRow,
    PySem.W.mg_of X G n_NoName,
    PySem.W.mg_of X G n_NoNumber,
    x_NoTree, ⟨zga_NoTree, zgt_NoTree, zcl_NoTree, zob_NoTree, zbe_NoTree, cls_of_mro zob_NoTree⟩,
    x_PressError, ⟨zga_PressError, zgt_PressError, zcl_PressError, zob_PressError, zbe_PressError, cls_of_mro zob_PressError⟩,
    i_NoTree_NoTree,
    i_NoTree_ValueError,
    it_L_refused_NoTree_0,
    it_L_refused_NoTree_1,
    u_NoTree_PressError,
    bl0 f_law.1 fun _ _ _ _ _ _ _ => rfl⟩⟩
section
variable {P : Program} {w : World} {K : PySem.W.Frag} {mg : Str → Option Value} {base : Heap} {t : Adr}
seal L2.PE L2.PA L2.PS L2.PSs L2.PT L2.PW L2.PG L2.PGs L2.PI L2.PIfs L2.PF L2.PFs L2.PO
local macro_rules | `(tactic| array_mem_dec) => `(tactic| ((first | show SqL ‹PySem.W.Frag› _ _ _ | show SqT ‹PySem.W.Frag› _ _ _ | skip); first | with_reducible assumption | with_reducible exact upd_same | with_reducible exact SqT.of upd_same | with_reducible exact SqL.of upd_same | with_reducible exact Same.refl _ | (with_reducible apply new_at; (focus with_reducible assumption); (focus array_mem_dec)) | (with_reducible apply new_tup; (focus with_reducible assumption); (focus array_mem_dec)) | (with_reducible apply new_lst; (focus with_reducible assumption); (focus array_mem_dec)) | (with_reducible apply new_same; (focus with_reducible assumption); (focus array_mem_dec)) | (with_reducible apply ne_at; (focus with_reducible assumption); (focus array_mem_dec)) | (with_reducible apply ne_tup; (focus with_reducible assumption); (focus array_mem_dec)) | (with_reducible apply ne_lst; (focus with_reducible assumption); (focus array_mem_dec)) | (with_reducible apply over_same; (focus with_reducible assumption); (focus array_mem_dec)) | (with_reducible apply same_at; (focus with_reducible assumption); (focus array_mem_dec)) | (with_reducible apply same_tup; (focus with_reducible assumption); (focus array_mem_dec)) | (with_reducible apply same_lst; (focus with_reducible assumption); (focus array_mem_dec)) | (with_reducible apply SqT.of; (focus array_mem_dec)) | (with_reducible apply SqL.of; (focus array_mem_dec))))
local macro_rules | `(tactic| array_get_dec) => `(tactic| first
  | refine ⟨_, rfl, ?_⟩
  | refine ⟨_, _, rfl, rfl, cdivK (by decide) (by decide), ?_⟩
  | refine ⟨_, _, rfl, rfl, (by show (0 : Int) < _; decide), ?_⟩
  | refine ⟨_, _, rfl, rfl, ⟨by decide, by decide, by decide⟩, ?_⟩
  | refine Or.inl ⟨_, _, rfl, rfl, mulL (by decide) (by decide), ?_⟩
  | refine Or.inl ⟨_, _, rfl, rfl, mulR (by decide) (by decide), ?_⟩
  | refine ⟨_, _, rfl, rfl, ?_⟩
  | refine Or.inl ⟨_, _, rfl, rfl, ?_⟩
  | refine Or.inl ⟨rfl, ?_⟩
  | refine Or.inr (Or.inl ⟨_, _, _, _, rfl, rfl, (by array_mem_dec), (by rfl), ?_⟩)
  | refine Or.inl ⟨_, _, _, _, rfl, rfl, (by array_mem_dec), (by rfl), ?_⟩
  | refine ⟨_, _, rfl, Or.inr ⟨_, (by array_mem_dec), rfl⟩, ?_⟩
  | refine ⟨_, _, rfl, Or.inl ⟨_, (by array_mem_dec), rfl⟩, ?_⟩
  | refine ⟨_, _, rfl, lenvS (by first | assumption | (rw [sizeLine_eq]; omega)), ?_⟩
  | refine Or.inr (Or.inl ⟨_, _, rfl, rfl, (by simp only [List.length_append, List.length_cons, List.length_nil, List.length_take, List.length_drop, sizeLine_eq]; omega), ?_⟩)
  | refine Or.inr ⟨_, _, rfl, rfl, (by simp only [List.length_append, List.length_cons, List.length_nil, List.length_take, List.length_drop, sizeLine_eq]; omega), ?_⟩
  | refine ⟨_, _, rfl, ?_⟩
  | refine ⟨_, _, _, rfl, ?_⟩)
theorem at_ints {ns : List Int} {k : Int} (h0 : 0 ≤ k) (h : k < (ns.length : Int)) : ∃ v : Int, v ∈ ns ∧ atI (ns.map V.int) k = some (.int v) := by
  have hk : k.toNat < ns.length := by omega
  have q : atI (ns.map V.int) ((k.toNat : Nat) : Int) = some (.int ns[k.toNat]) := atI_nat (by rw [List.getElem?_map, List.getElem?_eq_getElem hk] <;> rfl)
  rw [show ((k.toNat : Nat) : Int) = k by omega] at q
  exact ⟨_, List.getElem_mem hk, q⟩
def cellN (ns : List Int) (k : Int) : Int := ns.getD k.toNat 0
theorem cellN_small {ns : List Int} (hb : ∀ n ∈ ns, Small n) (k : Int) : Small (cellN ns k) := by
  unfold cellN
  rw [List.getD_eq_getElem?_getD]
  cases h : ns[k.toNat]? with
  | none => exact small_zero
  | some v => exact hb v (List.mem_of_getElem? h)
def spCell (K : PySem.W.Frag) : Sp := fun vs H Q _ => ∃ (a : Addr) (ns : List Int) (k : Int), vs = [.ref a, .int k] ∧ SqL K H a (ns.map V.int) ∧ 0 ≤ k ∧ Q (.int (cellN ns k)) H
theorem ok_L_cell_at (T : Txt K mg t) : FnOk P w K mg base (CX1 P w) 1 t.a_L_cell_at t.fd_L_cell_at ["script", "k"] (spCell K) := by
  refine T.F_L_cell_at.okn (k := 0) sc_L_cell_at (fun vs H Q E h => ?_) (fun cdv A outer s H vs Q E hr h => ?_)
  · obtain ⟨a, ns, k, rfl, _⟩ := h; rfl
  obtain ⟨a, ns, k, rfl, hS, h0, q⟩ := h
  refine ⟨_, (pss_cons (ps_if (pt_cmpR oLt (pv 1) (pe_callB call_len rfl T.m_len bt_len (pa_cons (pv 0) pa_nil)) (nomark _)) (pss_one (ps_ret (pe_ix ixAny (pv 0) (pv 1) (fun _ _ => rfl)))) pss_nil)
    (pss_one (ps_ret pe_int))), ?_⟩
  repeat array_get_dec
  refine if2 (fun c => ?_) (fun c => ?_)
  · rw [List.length_map] at c
    have hk : k.toNat < ns.length := by omega
    have e : atI (ns.map V.int) ((k.toNat : Nat) : Int) = some (.int ns[k.toNat]) := atI_nat (by rw [List.getElem?_map, List.getElem?_eq_getElem hk] <;> rfl)
    rw [show ((k.toNat : Nat) : Int) = k by omega] at e
    refine ⟨_, rfl, _, rfl, .inl ⟨_, _, _, _, rfl, rfl, hS, e, ?_⟩⟩
    unfold cellN at q
    rw [List.getD_eq_getElem?_getD, List.getElem?_eq_getElem hk] at q; exact q
  · rw [List.length_map] at c
    unfold cellN at q
    rw [List.getD_eq_getElem?_getD, List.getElem?_eq_none (by omega)] at q; exact q
def cutN (ns : List Int) (lo hi : Option Int) : List Int := (ns.drop (HT.sIx ns.length 0 lo)).take (HT.sIx ns.length ns.length hi - HT.sIx ns.length 0 lo)
theorem cut_ints (ns : List Int) (lo hi : Option Int) : cutV (ns.map V.int) lo hi = (cutN ns lo hi).map V.int := by
  unfold cutV cutN
  rw [List.length_map, List.map_take, List.map_drop]
theorem cutN_len (ns : List Int) (lo hi : Option Int) : (cutN ns lo hi).length ≤ ns.length := by
  unfold cutN
  rw [List.length_take, List.length_drop]; omega
theorem sign_at {l : List Nat} {i : Nat} {x : V} (h : (l.map fun c => vt [c])[i]? = some x) : ∃ c, l[i]? = some c ∧ x = vt [c] := by
  rw [List.getElem?_map] at h
  cases q : l[i]? with
  | none => rw [q] at h; cases h
  | some c => rw [q] at h; exact ⟨c, rfl, (Option.some.inj h).symm⟩
theorem ite2' {c A B : Prop} [Decidable c] (h2 : ¬ c → B) (h1 : c → A) : if c then A else B := ite2 h1 h2
theorem with_rest {F G S : Int → Prop} (k : ∀ n0, S n0 → (∀ n, F n) → G n0) (r : ∀ n, F n) : ∀ n0, S n0 → G n0 := fun n0 h => k n0 h r
theorem cdiv' {i j : Int} (h : 0 < j) (h2 : j < 1000000000) : CDivL i j := by
  refine ⟨by omega, Nat.lt_of_lt_of_le (show j.natAbs < 2 ^ 30 by omega) (Nat.pow_le_pow_right (by decide) (by decide))⟩
theorem fdiv_small {c j : Int} (hj : 0 < j) (h : Small c) : Small (c.fdiv j) := by
  refine h.le ?_
  rw [Int.fdiv_eq_ediv_of_nonneg _ (by omega)]
  exact Int.natAbs_ediv_le_natAbs ..
theorem small_bits {c : Int} (h : Small c) : Builtin.Int.intBits c ≤ 4000000 := Nat.le_trans h (by decide)
def signs : List Nat := ((List.range 95).map (· + 32)).filter (· != 37)
theorem signs_len : signs.length = 94 := by decide +kernel
structure Drawn (k : Nat) (L S : List Nat) : Prop where
  len : L.length = k
  all : (L ++ S).Perm signs
theorem Drawn.start : Drawn 0 [] signs := ⟨rfl, .refl _⟩
theorem Drawn.left {k : Nat} {L S : List Nat} (d : Drawn k L S) : S.length + k = 94 := by
  have := d.all.length_eq
  rw [List.length_append, signs_len, d.len] at this
  omega
theorem Drawn.next {k : Nat} {L S : List Nat} (d : Drawn k L S) {j c : Nat} (h : S[j]? = some c) : Drawn (k + 1) (L ++ [c]) (S.take j ++ S.drop (j + 1)) := by
  obtain ⟨hj, e⟩ := List.getElem?_eq_some_iff.mp h
  refine ⟨by rw [List.length_append, d.len]; rfl, ?_⟩
  have p : (c :: (S.take j ++ S.drop (j + 1))).Perm S := by
    have e2 : S.take j ++ c :: S.drop (j + 1) = S := by rw [← e, ← List.drop_eq_getElem_cons hj, List.take_append_drop]
    conv => rhs; rw [← e2]
    exact List.perm_middle.symm
  rw [List.append_assoc]
  exact (List.Perm.append_left L p).trans d.all
theorem Drawn.mem {k : Nat} {L S : List Nat} (d : Drawn k L S) : ∀ c ∈ L, c ∈ signs := fun c hc => d.all.mem_iff.mp (List.mem_append_left _ hc)
theorem ofString_nil : Str.ofString "" = tx [] := by decide +kernel
def spSigns : Sp := fun vs H Q _ => ∃ c m : Int, vs = [.int c, .int m] ∧ Small c ∧ 0 ≤ m ∧ m ≤ 6 ∧ ∀ L S, Drawn m.toNat L S → Q (vt L) H
theorem ok_L_signs (T : Txt K mg t) : FnOk P w K mg base (CX1 P w) 1 t.a_L_signs t.fd_L_signs ["cell", "many"] spSigns := by
  refine T.F_L_signs.okn (k := 0) sc_L_signs (fun vs H Q E h => ?_) (fun cdv A outer s H vs Q E hr h => ?_)
  · obtain ⟨c, m, rfl, _⟩ := h; rfl
  obtain ⟨c, m, rfl, hs, hm0, hm6, q⟩ := h
  refine ⟨_, (pss_cons (ps_set (i := 2) sc_L_signs.nd rfl (Or.inl rfl) pe_str)
    (pss_cons (ps_set (i := 2) sc_L_signs.nd rfl (Or.inl rfl) (pe_op oAddN (pv 2) pe_str))
    (pss_cons (ps_set (i := 3) sc_L_signs.nd rfl (Or.inl rfl) (pe_op op_fdivL (pv 0) pe_int))
    (pss_cons (ps_if (pt_cmpR (oEqA (hr.units0)) (pe_op op_mod (pv 0) pe_int) pe_int (nomark _)) (pss_one (ps_set (i := 3) sc_L_signs.nd rfl (Or.inl rfl) (pe_op oAddN (pe_op oMulN (pv 3) (pe_op op_pow pe_int pe_int)) pe_int))) pss_nil)
    (pss_cons (ps_set (i := 4) sc_L_signs.nd rfl (Or.inl rfl) pe_str)
    (pss_cons (ps_for PassesOwn.never rfl (pi_range1 rfl T.m_range (pa_cons (pv 1) pa_nil)) (pg_name (i := 5) sc_L_signs.nd rfl (Or.inl rfl)) (pss_cons (ps_set (i := 6) sc_L_signs.nd rfl (Or.inl rfl) (pe_op op_mod (pv 3) (pe_callB call_len rfl T.m_len bt_len (pa_cons (pv 2) pa_nil))))
    (pss_cons (ps_set (i := 3) sc_L_signs.nd rfl (Or.inl rfl) (pe_op op_fdivL (pv 3) (pe_callB call_len rfl T.m_len bt_len (pa_cons (pv 2) pa_nil))))
    (pss_cons (ps_set (i := 4) sc_L_signs.nd rfl (Or.inl rfl) (pe_op oAddN (pv 4) (pe_ix ixAny (pv 2) (pv 6) (fun _ _ => rfl))))
    (pss_one (ps_set (i := 2) sc_L_signs.nd rfl (Or.inl rfl) (pe_op oAddN (pe_slice slAny (pv 2) po_none (po_some (pv 6))) (pe_slice slAny (pv 2) (po_some (pe_op oAddN (pv 6) pe_int)) po_none))))))))
    (pss_one (ps_ret (pv 4))))))))), ?_⟩
  have e1 : V.str (Str.ofString " !\"#$&'()*+,-./0123456789:;<=>?@ABCDEFGHIJKLMNOPQRSTUVWXYZ[\\]^_`") = vt (signs.take 64) := congrArg V.str (by decide +kernel)
  have e2 : V.str (Str.ofString "abcdefghijklmnopqrstuvwxyz{|}~") = vt (signs.drop 64) := congrArg V.str (by decide +kernel)
  refine ⟨_, rfl, .inr (.inl ⟨_, _, e1, e2, by decide +kernel, ?_⟩)⟩
  rw [List.take_append_drop]
  refine ⟨_, rfl, _, _, rfl, rfl, cdivK (by decide) (by decide), ?_⟩
  show gName 3 (V.int (c.fdiv 2)) _ _ _
  have hs1 := fdiv_small (c := c) (j := 2) (by decide) hs
  generalize c.fdiv 2 = n0 at hs1 ⊢
  revert n0
  refine with_rest (fun n0 hs1 k => ⟨_, rfl, _, _, rfl, rfl, (by show (0 : Int) < 2; decide), .inl ⟨rfl, _, rfl, ite2' (fun _ => k n0) (fun _ => ?_)⟩⟩) (fun n => ?_)
  · exact ⟨_, rfl, _, _, rfl, rfl, ⟨by decide, by decide, by decide⟩, .inl ⟨_, _, rfl, rfl, .inr (.inr ⟨small_bits hs1, by decide +kernel⟩), .inl ⟨_, _, rfl, rfl, k _⟩⟩⟩
  refine ⟨_, rfl, _, rfl, by omega, by omega, ?_⟩
  refine for_range (fun i σ H' => ∃ n L S r1 r2, σ = [some (.int c), some (.int m), some (vt S), some (.int n), some (vt L), r1, r2] ∧ H' = H ∧ Drawn i L S) ⟨n, [], signs, _, _, by rw [ofString_nil]; rfl, rfl, .start⟩ ?_ ?_
  · rintro i _ _ hi ⟨n, L, S, r1', r2', rfl, rfl, d⟩
    have hl := d.left
    have hi' : i < 6 := by omega
    have hLl := d.len
    have hS : S.length ≤ sizeLine := by rw [sizeLine_eq]; omega
    have hp : (0 : Int) < (S.length : Nat) := by omega
    have m1 := Int.emod_nonneg n (show ((S.length : Nat) : Int) ≠ 0 by omega)
    have m2 := Int.emod_lt_of_pos n hp
    obtain ⟨j, hj⟩ : ∃ j : Nat, n % ((S.length : Nat) : Int) = (j : Int) := ⟨_, (Int.toNat_of_nonneg m1).symm⟩
    have hjl : j < S.length := by omega
    have hc := List.getElem?_eq_getElem hjl
    repeat array_get_dec
    refine ⟨hp, ?_⟩
    try dsimp (config := { proj := false, eta := false, zeta := false, iota := false }) only [tNil, tC]
    rw [hj]
    repeat array_get_dec
    refine ⟨⟨by omega, Nat.lt_of_lt_of_le (show ((S.length : Nat) : Int).natAbs < 2 ^ 30 by omega) (Nat.pow_le_pow_right (by decide) (by decide))⟩, ?_⟩
    repeat array_get_dec
    refine ixS hS (atI_nat hc) ?_
    repeat array_get_dec
    refine .inr (cutT hS ?_)
    rw [cut_to]
    repeat array_get_dec
    refine .inr (cutT hS ?_)
    try dsimp (config := { proj := false, eta := false, zeta := false, iota := false }) only [tNil, tC]
    rw [show ((j : Int) + 1) = ((j + 1 : Nat) : Int) by omega, cut_from]
    repeat array_get_dec
    exact ⟨_, _, _, _, _, rfl, rfl, d.next hc⟩
  · rintro _ _ ⟨n, L, S, r1', r2', rfl, rfl, d⟩
    exact ⟨_, rfl, q L S d⟩
def spFrame : Sp := fun vs H Q _ => ∃ c : Int, vs = [.int c] ∧ Small c ∧ ∀ L S (d : Nat) H' p, 2 ≤ L.length → L.length ≤ 6 → Drawn L.length L S → d ≤ 6 → Same H H' → H p = none → H' p = some (.tup [vt L, .int d]) → Q (.ref p) H'
theorem depth_at {i : Int} (h1 : 0 ≤ i) (h2 : i < 10) : ∃ d : Nat, d ≤ 6 ∧ atI [V.int 2, .int 3, .int 1, .int 0, .int 2, .int 3, .int 4, .int 1, .int 5, .int 6] i = some (.int d) := by
  obtain ⟨j, rfl⟩ : ∃ j : Nat, i = (j : Int) := ⟨_, (Int.toNat_of_nonneg h1).symm⟩
  match j, h2 with
  | 0, _ => exact ⟨2, by decide, rfl⟩
  | 1, _ => exact ⟨3, by decide, rfl⟩
  | 2, _ => exact ⟨1, by decide, rfl⟩
  | 3, _ => exact ⟨0, by decide, rfl⟩
  | 4, _ => exact ⟨2, by decide, rfl⟩
  | 5, _ => exact ⟨3, by decide, rfl⟩
  | 6, _ => exact ⟨4, by decide, rfl⟩
  | 7, _ => exact ⟨1, by decide, rfl⟩
  | 8, _ => exact ⟨5, by decide, rfl⟩
  | 9, _ => exact ⟨6, by decide, rfl⟩
  | n + 10, h => exact absurd h (by omega)
theorem ok_L_frame (T : Txt K mg t) : FnOk P w K mg base (CX1 P w) 2 t.a_L_frame t.fd_L_frame ["cell"] spFrame := by
  refine T.F_L_frame.okn (k := 1) sc_L_frame (fun vs H Q E h => ?_) (fun cdv A outer s H vs Q E hr h => ?_)
  · obtain ⟨c, rfl, _⟩ := h; rfl
  obtain ⟨c, rfl, hs, q⟩ := h
  have G_L_signs := ok_L_signs (P := P) (w := w) (base := base) T
  refine ⟨_, (pss_cons (ps_set (i := 1) sc_L_frame.nd rfl (Or.inl rfl) (pe_op oAddN pe_int (pe_op op_mod (pv 0) pe_int)))
    (pss_cons (ps_set (i := 2) sc_L_frame.nd rfl (Or.inl rfl) (pe_ix ixAny (pe_lst (PAs.h (pas_cons pe_int (pas_cons pe_int (pas_cons pe_int (pas_cons pe_int (pas_cons pe_int (pas_cons pe_int (pas_cons pe_int (pas_cons pe_int (pas_cons pe_int (pas_cons pe_int pas_nil)))))))))))) (pe_op op_mod (pe_op op_fdivL (pv 0) pe_int) pe_int) (fun _ _ => rfl)))
    (pss_one (ps_ret (pe_tup (PAs.h (pas_cons (pe_call G_L_signs hr rfl T.m_L_signs T.F_L_signs.kp T.b_L_signs .nil pass1 (PAs.h (pas_cons (pe_op op_fdivL (pv 0) pe_int) (pas_cons (pv 1) pas_nil)))) (pas_cons (pv 2) pas_nil)))))))), ?_⟩
  have r1 := Int.emod_nonneg c (show (5 : Int) ≠ 0 by decide)
  have r2 := Int.emod_lt_of_pos c (show (0 : Int) < 5 by decide)
  have t1 := Int.emod_nonneg (c.fdiv 5) (show (10 : Int) ≠ 0 by decide)
  have t2 := Int.emod_lt_of_pos (c.fdiv 5) (show (0 : Int) < 10 by decide)
  obtain ⟨d, hd, ed⟩ := depth_at t1 t2
  repeat array_get_dec
  try dsimp (config := { proj := false, eta := false, zeta := false, iota := false }) only [tNil, tC]
  refine ⟨by rw [sizeLine_eq]; decide, fun p0 h0 => ?_⟩
  refine ⟨_, rfl, _, _, rfl, rfl, cdivK (by decide) (by decide), _, _, rfl, rfl, (by show (0 : Int) < 10; decide), ?_⟩
  refine ixL (.inl (.inl upd_same)) ed ?_
  repeat array_get_dec
  try dsimp (config := { proj := false, eta := false, zeta := false, iota := false }) only [tNil, tC]
  have hs1 := fdiv_small (c := c) (j := 50) (by decide) hs
  refine ⟨hs1, by omega, by omega, fun L S D => ?_⟩
  have hL := D.len
  refine ⟨_, rfl, by rw [sizeLine_eq]; show 2 ≤ _; decide, fun p hp => ?_⟩
  exact q L S d _ p (by omega) (by omega) (by rw [hL]; exact D) hd (new_same hp (same_new h0 _)) ((same_new h0 _).free hp) upd_same
inductive Sh where
  | non | oth | tup (bs : List Sh)
inductive Oth (K : PySem.W.Frag) (H : Hp) : V → Prop where
  | bl (b : Bool) : Oth K H (.bl b)
  | int (n : Int) : Oth K H (.int n)
  | str (z : Str) : Oth K H (.str z)
  | lst {a : Addr} {xs : List V} (e : H a = some (.lst xs)) : Oth K H (.ref a)
  | dK {a : Addr} {kvs : List (Key × V)} (e : H a = some (.dK kvs)) : Oth K H (.ref a)
theorem Oth.same {H H' : Hp} {x : V} (h : Oth K H x) (g : Same H H') : Oth K H' x := by
  cases h with
  | bl b => exact .bl b
  | int n => exact .int n
  | str z => exact .str z
  | lst e => exact .lst (g _ _ e)
  | dK e => exact .dK (g _ _ e)
theorem Oth.ne {H : Hp} {x : V} (h : Oth K H x) : decide (x = .non) = false := by cases h <;> exact decide_eq_false (fun z => nomatch z)
theorem kitsT (K : PySem.W.Frag) : PySem.W.kitOne K (.type "bool") (.type "tuple") = some false ∧ PySem.W.kitOne K (.type "int") (.type "tuple") = some false ∧ PySem.W.kitOne K (.type "str") (.type "tuple") = some false ∧
    PySem.W.kitOne K (.type "list") (.type "tuple") = some false ∧ PySem.W.kitOne K (.type "dict") (.type "tuple") = some false := by
  unfold PySem.W.kitOne PySem.W.kitCls PySem.W.subIn
  refine ⟨?_, ?_, ?_, ?_, ?_⟩ <;> kernel_rfl
theorem Oth.kit {H : Hp} {x : V} (h : Oth K H x) : ∃ ty, TyOf K H x ty ∧ PySem.W.kitOne K ty (.type "tuple") = some false := by
  obtain ⟨b1, i1, s1, l1, d1⟩ := kitsT K
  cases h with
  | bl b => exact ⟨_, .bl b, b1⟩
  | int n => exact ⟨_, .int n, i1⟩
  | str z => exact ⟨_, .str z, s1⟩
  | lst e => exact ⟨_, .lst e, l1⟩
  | dK e => exact ⟨_, .dK e, d1⟩
inductive ShAt (K : PySem.W.Frag) (H : Hp) : V → Sh → Prop where
  | non : ShAt K H .non .non
  | oth {x : V} (h : Oth K H x) : ShAt K H x .oth
  | tup {a : Addr} {vs : List V} {bs : List Sh} (e : H a = some (.tup vs)) (hl : vs.length = bs.length) (h : ∀ (i : Nat) v b, vs[i]? = some v → bs[i]? = some b → ShAt K H v b) : ShAt K H (.ref a) (.tup bs)
theorem ShAt.same {H H' : Hp} {x : V} {τ : Sh} (h : ShAt K H x τ) (g : Same H H') : ShAt K H' x τ := by
  induction h with
  | non => exact .non
  | oth h => exact .oth (h.same g)
  | tup e hl _ ih => exact .tup (g _ _ e) hl ih
def isTr (m : Nat) : Nat → Sh → Bool
  | _, .non => true
  | _, .oth => false
  | 0, .tup _ => false
  | n + 1, .tup bs => decide (bs.length = m) && bs.all (isTr m n)
def spTreeOf (K : PySem.W.Frag) (n : Nat) : Sp := fun vs H Q _ => ∃ (L : List Nat) (x : V) (τ : Sh), vs = [vt L, x, .int n] ∧ L.length ≤ 100 ∧ ShAt K H x τ ∧ ∀ H', Same H H' → Q (.bl (isTr L.length n τ)) H'
theorem ok_none {k : Nat} {f : Addr} {fd : FuncData} {ps : List Str} : FnOk P w K mg base (CX1 P w) k f fd ps (fun _ _ _ _ => False) := ⟨fun _ _ _ _ h => h.elim, fun _ _ _ _ _ _ _ _ _ _ _ _ _ h => h.elim⟩
theorem tree_of_step (T : Txt K mg t) (n : Nat) (sp : Sp) (hsp : ∀ k, n = k + 1 → sp = spTreeOf K k) (G_is_tree_of : FnOk P w K mg base (CX1 P w) n t.a_is_tree_of t.fd_is_tree_of ["letters", "thing", "steps"] sp) :
    FnOk P w K mg base (CX1 P w) (n + 1) t.a_is_tree_of t.fd_is_tree_of ["letters", "thing", "steps"] (spTreeOf K n) := by
  refine T.F_is_tree_of.okn (k := n) sc_is_tree_of (fun vs H Q E h => ?_) (fun cdv A outer s H vs Q E hr h => ?_)
  · obtain ⟨L, x, τ, rfl, _⟩ := h; rfl
  obtain ⟨L, x, τ, rfl, hL, hx, q⟩ := h
  have zL : L.length ≤ sizeLine := by rw [sizeLine_eq]; omega
  refine ⟨_, (pss_cons (ps_if (pt_cmp (pc_isN (pv 1))) (pss_one (ps_ret pe_bl)) pss_nil)
    (pss_cons (ps_if (PW.pt (pw_or (pt_cmpR (oEqA (hr.units0)) (pv 2) pe_int (nomark _)) (pw_or (pt_not (pt_val (pe_callB isiAny rfl T.m_isinstance bt_isinstance (PAs.h (pas_cons (pv 1) (pas_cons (pe_bltn (v := .ty "tuple") rfl T.m_tuple bt_tuple rfl) pas_nil)))))) (pw_or1 (pt_cmpR (oNeN (hr.units0)) (pe_callB call_len rfl T.m_len bt_len (pa_cons (pv 1) pa_nil)) (pe_callB call_len rfl T.m_len bt_len (pa_cons (pv 0) pa_nil)) (nomark _)))))) (pss_one (ps_ret pe_bl)) pss_nil)
    (pss_one (ps_ret (pe_callB (callAll rfl) rfl T.m_all bt_all (pa_cons (pe_lc (compSc_of (N := ["branch", "letters", "steps"]) (cap := [none, some 0, some 2]) (by kernel_rfl)) rfl (piAny (pv 1)) ⟨fun _ => (pg_name (i := 0) (show List.Nodup (["branch", "letters", "steps"] : List Str) by decide +kernel) rfl (Or.inl rfl)), fun _ => pf_nil, fun _ => (pe_call G_is_tree_of hr rfl T.m_is_tree_of T.F_is_tree_of.kp T.b_is_tree_of .nil pass1 (PAs.h (pas_cons (pv 1) (pas_cons (pv 0) (pas_cons (pe_op op_sub (pv 2) pe_int) pas_nil)))))⟩) pa_nil)))))), ?_⟩
  cases hx with
  | non =>
    refine ⟨_, rfl, _, rfl, iteT ?_⟩
    have : isTr L.length n Sh.non = true := by cases n <;> rfl
    rw [this] at q
    exact q H (Same.refl H)
  | oth h =>
    obtain ⟨ty, hty, ek⟩ := h.kit
    refine ⟨_, rfl, _, rfl, ?_⟩
    rw [h.ne]
    refine iteF ?_
    have hb : isTr L.length n Sh.oth = false := by cases n <;> rfl
    rw [hb] at q
    repeat array_get_dec
    refine if2 (fun _ => q H (Same.refl H)) (fun _ => ?_)
    exact ⟨_, rfl, .inl ⟨x, ty, _, false, rfl, hty, ek, false, rfl, iteT (q H (Same.refl H))⟩⟩
  | tup e hl h =>
    rename_i a vs bs
    refine ⟨_, rfl, _, rfl, iteF ?_⟩
    repeat array_get_dec
    refine if2 (fun z => ?_) (fun z => ?_)
    · have : n = 0 := by have := V.int.inj z; omega
      subst this
      exact q H (Same.refl H)
    obtain ⟨k, rfl⟩ : ∃ k, n = k + 1 := ⟨n - 1, by cases n with | zero => exact absurd rfl z | succ n => rfl⟩
    have hs := hsp k rfl
    subst hs
    refine ⟨_, rfl, .inl ⟨_, _, _, true, rfl, .tup e, kit_same K _, true, rfl, iteF ?_⟩⟩
    repeat array_get_dec
    try dsimp (config := { proj := false, eta := false, zeta := false, iota := false }) only [tNil, tC]
    refine ifn2 (fun z2 => ?_) (fun z2 => ?_)
    · have : isTr L.length (k + 1) (Sh.tup bs) = false := by
        show (decide (bs.length = L.length) && _) = false
        rw [decide_eq_false (fun e => z2 (congrArg (fun (n : Nat) => V.int (n : Int)) (hl.trans e))), Bool.false_and]
      rw [this] at q
      exact q H (Same.refl H)
    have hbl : bs.length = L.length := by
      have := V.int.inj z2
      omega
    have hq : isTr L.length (k + 1) (Sh.tup bs) = bs.all (isTr L.length k) := by
      show (decide (bs.length = L.length) && _) = _
      rw [decide_eq_true hbl, Bool.true_and]
    rw [hq] at q
    refine ⟨_, rfl, .inr (.inl ⟨_, _, rfl, .inl (.inl e), fun D hD c => ?_⟩)⟩
    refine lc_grow walk_tup hD (fun _ j v => ∀ b, bs[j]? = some b → v = .bl (isTr L.length k b)) (fun _ _ _ _ _ h => h) (fun H1 s1 => .inl (.inl (s1 _ _ e))) (by rw [sizeLine_eq]; omega) ?_ ?_
    · intro i x H1 ys C hx s1 _ hC
      have hi := (List.getElem?_eq_some_iff.mp hx).1
      have hb := List.getElem?_eq_getElem (show i < bs.length by omega)
      refine ⟨_, rfl, _, rfl, _, rfl, _, _, rfl, rfl, ?_⟩
      refine ⟨L, x, bs[i], ?_, hL, (h i x _ hx hb).same s1, fun H' s' => hC H' _ s' (fun b hb' => ?_)⟩
      · show [vt L, x, V.int (((k + 1 : Nat) : Int) - 1)] = _
        rw [show (((k + 1 : Nat) : Int) - 1) = (k : Int) by omega]
      · rw [hb] at hb'; cases hb'; rfl
    · intro H1 ys s1 hy hn hv
      have : ys = (bs.map (isTr L.length k)).map V.bl := by
        refine List.ext_getElem? fun j => ?_
        rw [List.getElem?_map, List.getElem?_map]
        cases z : bs[j]? with
        | none =>
          rw [List.getElem?_eq_none_iff] at z
          rw [List.getElem?_eq_none (by omega)]; rfl
        | some b =>
          have hj := (List.getElem?_eq_some_iff.mp z).1
          have := List.getElem?_eq_getElem (show j < ys.length by omega)
          rw [this, hv j _ this b z]; rfl
      subst this
      refine ⟨_, _, rfl, .inl (.inl hy), ?_⟩
      rw [List.all_map]
      exact q H1 s1
theorem ok_is_tree_of (T : Txt K mg t) : ∀ n, FnOk P w K mg base (CX1 P w) (n + 1) t.a_is_tree_of t.fd_is_tree_of ["letters", "thing", "steps"] (spTreeOf K n)
  | 0 => tree_of_step T 0 _ (fun _ h => nomatch h) ok_none
  | n + 1 => tree_of_step T (n + 1) _ (fun k h => by cases h; rfl) (ok_is_tree_of T n)
def spTreeAny (K : PySem.W.Frag) : Sp := fun vs H Q E => ∃ n, n ≤ 6 ∧ spTreeOf K n vs H Q E
theorem ok_tree_any (T : Txt K mg t) : FnOk P w K mg base (CX1 P w) 7 t.a_is_tree_of t.fd_is_tree_of ["letters", "thing", "steps"] (spTreeAny K) := by
  refine ⟨fun vs H Q E ⟨n, _, h⟩ => (ok_is_tree_of (P := P) (w := w) (base := base) T n).len vs H Q E h, fun A outer s H args us vs Q E hr h0 h1 h2 ⟨n, hn, h⟩ => ?_⟩
  exact ((ok_is_tree_of (P := P) (w := w) (base := base) T n).mono (show n + 1 ≤ 7 by omega)).run A outer s H args us vs Q E hr h0 h1 h2 h
def spIsTree (K : PySem.W.Frag) : Sp := fun vs H Q _ => ∃ (f : Addr) (L : List Nat) (d : Nat) (x : V) (τ : Sh), vs = [.ref f, x] ∧ SqT K H f [vt L, .int d] ∧ L.length ≤ 100 ∧ d ≤ 6 ∧ ShAt K H x τ ∧ ∀ H', Same H H' → Q (.bl (isTr L.length d τ)) H'
theorem ok_is_tree (T : Txt K mg t) : FnOk P w K mg base (CX1 P w) 8 t.a_is_tree t.fd_is_tree ["frame", "thing"] (spIsTree K) := by
  refine T.F_is_tree.okn (k := 7) sc_is_tree (fun vs H Q E h => ?_) (fun cdv A outer s H vs Q E hr h => ?_)
  · obtain ⟨f, L, d, x, τ, rfl, _⟩ := h; rfl
  obtain ⟨f, L, d, x, τ, rfl, hf, hL, hd, hx, q⟩ := h
  have G_is_tree_of := ok_tree_any (P := P) (w := w) (base := base) T
  refine ⟨_, (pss_one (ps_ret (pe_call G_is_tree_of hr rfl T.m_is_tree_of T.F_is_tree_of.kp T.b_is_tree_of .nil pass1 (PAs.h (pas_cons (pe_ix ixAny (pv 0) pe_int (fun _ _ => rfl)) (pas_cons (pv 1) (pas_cons (pe_ix ixAny (pv 0) pe_int (fun _ _ => rfl)) pas_nil))))))), ?_⟩
  refine ⟨_, rfl, ixT hf rfl ⟨_, rfl, _, rfl, ixT hf rfl ?_⟩⟩
  exact ⟨d, hd, L, x, τ, rfl, hL, hx, q⟩
def EAt (K : PySem.W.Frag) (F : Hp) (r : V × Sh × Nat) : Prop := ∃ a v, r.1 = .ref a ∧ F a = some (.tup [v, .int r.2.2]) ∧ ShAt K F v r.2.1
theorem EAt.same {F F' : Hp} {r : V × Sh × Nat} (h : EAt K F r) (g : Same F F') : EAt K F' r := by
  obtain ⟨a, v, e, h1, h2⟩ := h
  exact ⟨a, v, e, g _ _ h1, h2.same g⟩
def wtP (M : Nat) (rs : List (V × Sh × Nat)) : Nat := (rs.map fun r => (M + 1) ^ r.2.2).sum
theorem wtP_app (M : Nat) (rs es : List (V × Sh × Nat)) : wtP M (rs ++ es) = wtP M rs + wtP M es := by
  unfold wtP; rw [List.map_append, List.sum_append]
theorem wtP_one (M : Nat) (r : V × Sh × Nat) : wtP M [r] = (M + 1) ^ r.2.2 := by
  unfold wtP; simp
theorem wtP_len (M : Nat) (rs : List (V × Sh × Nat)) : rs.length ≤ wtP M rs := by
  induction rs with
  | nil => exact Nat.le_refl _
  | cons r rs ih =>
    have e : wtP M (r :: rs) = (M + 1) ^ r.2.2 + wtP M rs := by unfold wtP; simp
    have := Nat.pow_pos (n := r.2.2) (show 0 < M + 1 by omega)
    rw [e, List.length_cons]; omega
theorem wtP_all (M l : Nat) (rs : List (V × Sh × Nat)) (h : ∀ r ∈ rs, r.2.2 = l) : wtP M rs = rs.length * (M + 1) ^ l := by
  induction rs with
  | nil => simp [wtP]
  | cons r rs ih =>
    have e : wtP M (r :: rs) = (M + 1) ^ r.2.2 + wtP M rs := by unfold wtP; simp
    rw [e, ih (fun r hr => h r (List.mem_cons_of_mem _ hr)), h r List.mem_cons_self, List.length_cons, Nat.add_mul, Nat.add_comm]; omega
theorem pow_7 {M d : Nat} (hM : M ≤ 6) (hd : d ≤ 6) : (M + 1) ^ d ≤ 117649 :=
  Nat.le_trans (Nat.pow_le_pow_left (show M + 1 ≤ 7 by omega) d) (Nat.le_trans (Nat.pow_le_pow_right (by decide) hd) (by decide))
def spLawIs (K : PySem.W.Frag) : Sp := fun vs H Q _ => ∃ (x : V) (τ : Sh) (M d : Nat), vs = [x, .int M, .int d] ∧ M ≤ 6 ∧ d ≤ 6 ∧ ShAt K H x τ ∧ ∀ H', Same H H' → Q (.bl (isTr M d τ)) H'
theorem ok_L_is (T : Txt K mg t) : FnOk P w K mg base (CX1 P w) 1 t.a_L_is t.fd_L_is ["thing", "many", "depth"] (spLawIs K) := by
  refine T.F_L_is.okn (k := 0) sc_L_is (fun vs H Q E h => ?_) (fun cdv A outer s H vs Q E hr h => ?_)
  · obtain ⟨x, τ, M, d, rfl, _⟩ := h; rfl
  obtain ⟨x, τ, M, d, rfl, hM, hd, hx, q⟩ := h
  refine ⟨_, (pss_cons (ps_set (i := 3) sc_L_is.nd rfl (Or.inl rfl) (pe_lst (pa_cons (pe_tup (PAs.h (pas_cons (pv 0) (pas_cons (pv 2) pas_nil)))) pa_nil)))
    (pss_cons (ps_while PassesOwn.never (pt_cmpR (oNeW (hr.units0)) (pv 3) (pe_lst pa_nil) (nomark _)) (pss_cons (ps_asg (pe_bm0 PySem.F.plainAttrs_list PySem.F.slot_list_pop PySem.F.type_list_pop mt_popL (pv 3)) (pg_tup rfl (pgs_cons (pg_name (i := 4) sc_L_is.nd rfl (Or.inl rfl)) (pgs_cons (pg_name (i := 5) sc_L_is.nd rfl (Or.inl rfl)) pgs_nil))))
    (pss_one (ps_if (pt_cmp (pc_notN (pv 4))) (pss_cons (ps_if (PW.pt (pw_or (pt_not (pt_val (pe_callB isiAny rfl T.m_isinstance bt_isinstance (PAs.h (pas_cons (pv 4) (pas_cons (pe_bltn (v := .ty "tuple") rfl T.m_tuple bt_tuple rfl) pas_nil)))))) (pw_or (pt_cmpR (oEqW (hr.units0)) (pv 5) pe_int (nomark _)) (pw_or1 (pt_cmpR (oNeW (hr.units0)) (pe_callB call_len rfl T.m_len bt_len (pa_cons (pv 4) pa_nil)) (pv 1) (nomark _)))))) (pss_one (ps_ret pe_bl)) pss_nil)
    (pss_one (ps_for PassesOwn.never rfl (piAny (pv 4)) (pg_name (i := 6) sc_L_is.nd rfl (Or.inl rfl)) (pss_one (ps_expr (pe_bm PySem.F.plainAttrs_list PySem.F.slot_list_append PySem.F.type_list_append mt_app (pv 3) (pa_cons (pe_tup (PAs.h (pas_cons (pv 6) (pas_cons (pe_op op_sub (pv 5) pe_int) pas_nil)))) pa_nil))))))) pss_nil))))
    (pss_one (ps_ret pe_bl)))), ?_⟩
  repeat array_get_dec
  refine ⟨by rw [sizeLine_eq]; show 2 ≤ _; decide, fun p0 h0 => ⟨by rw [sizeLine_eq]; show 1 ≤ _; decide, fun p hp => ?_⟩⟩
  have hB := pow_7 hM hd
  refine ⟨fun m σ H' => ∃ (F : Hp) (rs : List (V × Sh × Nat)) (r4 r5 r6 : Option V), σ = [some x, some (.int M), some (.int d), some (.ref p), r4, r5, r6] ∧ Same H F ∧ Same F H' ∧ F p = none ∧ H' p = some (.lst (rs.map (·.1))) ∧
    (∀ r ∈ rs, EAt K F r) ∧ m = wtP M rs ∧ wtP M rs ≤ (M + 1) ^ d ∧ isTr M d τ = rs.all (fun r => isTr M r.2.2 r.2.1), ⟨_, upd H p0 (.tup [x, .int d]), [(.ref p0, τ, d)], none, none, none, rfl, same_new h0 _, same_new hp _, hp, upd_same, ?_, rfl, ?_, ?_⟩, ?_⟩
  · intro r hr
    cases List.mem_singleton.mp hr
    exact ⟨p0, x, rfl, upd_same, hx.same (same_new h0 _)⟩
  · rw [wtP_one]; exact Nat.le_refl _
  · simp
  rintro m _ H' ⟨F, rs, r4, r5, r6, rfl, hF, hS, hFp, hH, hE, rfl, hw, ht⟩
  refine ⟨_, rfl, by rw [sizeLine_eq]; show 0 ≤ _; decide, fun b hb => ?_⟩
  refine .inr ⟨p, b, rs.map (·.1), rfl, rfl, .inl (.inl (new_at hb hH)), .inl (.inl upd_same), _, rfl, ?_⟩
  have hS1 : Same F (upd H' b (.lst [])) := new_same hb hS
  have hH1 := new_at (o := .lst []) hb hH
  rcases List.eq_nil_or_concat rs with rfl | ⟨is, ⟨u, τ', l⟩, rfl⟩
  · refine iteF ?_
    rw [ht] at q
    exact q _ (hF.trans hS1)
  rw [List.concat_eq_append] at *
  have ek : (!((is ++ [(u, τ', l)]).map (fun r => r.1)).isEmpty) = true := by simp
  show if (!((is ++ [(u, τ', l)]).map (fun r => r.1)).isEmpty) = true then _ else _
  rw [ek]
  refine iteT ⟨_, fun σ' H' h => h, ?_⟩
  obtain ⟨a, v, e1, e2, hv⟩ := hE (u, τ', l) (List.mem_append_right _ List.mem_cons_self)
  cases e1
  have hEi : ∀ r ∈ is, EAt K F r := fun r hr => hE r (List.mem_append_left _ hr)
  rw [List.map_append] at hH1
  have hS2 : Same F (upd (upd H' b (.lst [])) p (.lst (is.map (·.1)))) := over_same hFp hS1
  have hH2 : upd (upd H' b (.lst [])) p (.lst (is.map (·.1))) p = some (.lst (is.map (·.1))) := upd_same
  refine ⟨_, rfl, tyL (.inl (.inl hH1)), p, _, .ref a, rfl, rfl, hH1, by simp, ?_⟩
  rw [show ((is.map (·.1)) ++ [(V.ref a, τ', l)].map (·.1)).dropLast = is.map (·.1) by simp]
  generalize upd (upd H' b (.lst [])) p (.lst (is.map (·.1))) = H2 at hS2 hH2 ⊢
  refine ⟨a, _, rfl, .inl (.inl (hS2 _ _ e2)), rfl, _, _, rfl, _, _, rfl, rfl, ?_⟩
  have hwt : wtP M (is ++ [(V.ref a, τ', l)]) = wtP M is + (M + 1) ^ l := by rw [wtP_app, wtP_one]
  rw [hwt] at hw
  have hpos : 0 < (M + 1) ^ l := Nat.pow_pos (by omega)
  rw [List.all_append] at ht
  cases hv with
  | non =>
    refine ⟨_, rfl, _, rfl, iteF ?_⟩
    have hb : ∀ n, isTr M n Sh.non = true := fun n => by cases n <;> rfl
    refine ⟨_, ?_, F, is, _, _, _, rfl, hF, hS2, hFp, hH2, hEi, rfl, by omega, ?_⟩
    · rw [hwt]; omega
    · rw [ht]; simp [hb]
  | oth h =>
    obtain ⟨ty, hty, ek⟩ := (h.same hS2).kit
    refine ⟨_, rfl, _, rfl, ?_⟩
    rw [h.ne]
    refine iteT ?_
    have hb : ∀ n, isTr M n Sh.oth = false := fun n => by cases n <;> rfl
    have hf : isTr M d τ = false := by rw [ht]; simp [hb]
    rw [hf] at q
    exact ⟨_, rfl, .inl ⟨_, ty, _, false, rfl, hty, ek, false, rfl, iteT (q H2 (hF.trans hS2))⟩⟩
  | tup e hl h =>
    rename_i a' vs bs
    refine ⟨_, rfl, _, rfl, iteT ?_⟩
    refine ⟨_, rfl, .inl ⟨_, _, _, true, rfl, .tup (hS2 _ _ e), kit_same K _, true, rfl, iteF ?_⟩⟩
    refine ⟨_, rfl, .inl (.inl ⟨rfl, _, rfl, if2 (fun z => ?_) (fun z => ?_)⟩)⟩
    · have : l = 0 := by have : ((l : Nat) : Int) = 0 := V.int.inj z; omega
      subst this
      have hf : isTr M d τ = false := by rw [ht]; simp [isTr]
      rw [hf] at q
      exact q H2 (hF.trans hS2)
    obtain ⟨k, rfl⟩ : ∃ k, l = k + 1 := ⟨l - 1, by cases l with | zero => exact absurd rfl z | succ n => rfl⟩
    refine ⟨_, rfl, _, _, rfl, .inr ⟨_, .inl (.inl (hS2 _ _ e)), rfl⟩, _, rfl, .inl (.inl ⟨rfl, _, rfl, ifn2 (fun z2 => ?_) (fun z2 => ?_)⟩)⟩
    · have : ¬ bs.length = M := fun e => z2 (congrArg (fun (n : Nat) => V.int (n : Int)) (hl.trans e))
      have hf : isTr M d τ = false := by rw [ht]; simp [isTr, this]
      rw [hf] at q
      exact q H2 (hF.trans hS2)
    have hbl : bs.length = M := by
      have := V.int.inj z2
      omega
    refine ⟨_, rfl, .inr (.inl ⟨_, _, rfl, .inl (.inl (hS2 _ _ e)), ?_⟩)⟩
    refine for_walk (walk_tup (xs := vs)) (fun i σ H3 => ∃ (F2 : Hp) (es : List (V × Sh × Nat)) (r6 : Option V), σ = [some x, some (.int M), some (.int d), some (.ref p), some (.ref a'), some (.int (k + 1 : Nat)), r6] ∧ Same F F2 ∧ Same F2 H3 ∧ F2 p = none ∧
      H3 p = some (.lst ((is ++ es).map (·.1))) ∧ es.length = i ∧ ∀ (j : Nat) r, es[j]? = some r → EAt K F2 r ∧ r.2.2 = k ∧ bs[j]? = some r.2.1) ⟨F, [], r6, rfl, Same.refl _, hS2, hFp, by rw [List.append_nil]; exact hH2, rfl, fun j r h => nomatch h⟩ ?_ ?_ ?_
    · rintro i σ H3 _ ⟨F2, es, _, _, s1, s2, _⟩
      exact .inl (.inl (s2 _ _ (s1 _ _ e)))
    · rintro i y _ H3 hy ⟨F2, es, _, rfl, s1, s2, f2, h2, hn, hr⟩
      have hi := (List.getElem?_eq_some_iff.mp hy).1
      have hb := List.getElem?_eq_getElem (show i < bs.length by omega)
      refine ⟨_, rfl, tyL (.inl (.inl h2)), ?_⟩
      refine ⟨_, rfl, _, rfl, _, _, rfl, rfl, by rw [sizeLine_eq]; show 2 ≤ _; decide, fun p1 hp1 => ?_⟩
      have f3 : F2 p1 = none := s2.free hp1
      have np : p ≠ p1 := fun z => by rw [z, hp1] at h2; cases h2
      try dsimp (config := { proj := false, eta := false, zeta := false, iota := false }) only [tNil, tC]
      rw [show (((k + 1 : Nat) : Int) - 1) = (k : Int) by omega]
      refine appL (new_at hp1 h2) ?_ ?_
      · have := wtP_len M is
        have : is.length ≤ 117649 := by omega
        rw [sizeLine_eq, List.length_map, List.length_append]; omega
      refine ⟨upd F2 p1 (.tup [y, .int k]), es ++ [(.ref p1, bs[i], k)], _, rfl, s1.trans (same_new f3 _), ?_, by rw [upd_ne np]; exact f2, ?_, by rw [List.length_append, hn]; rfl, ?_⟩
      · refine over_same (by rw [upd_ne np]; exact f2) (fun b' o' hb' => ?_)
        by_cases z : b' = p1
        · rw [z, upd_same] at hb'; rw [z, upd_same]; exact hb'
        · rw [upd_ne z] at hb'; rw [upd_ne z]; exact s2 _ _ hb'
      · rw [upd_same, ← List.append_assoc, List.map_append (l₁ := is ++ es)]; rfl
      · intro j r hj
        by_cases z : j < es.length
        · rw [List.getElem?_append_left z] at hj
          obtain ⟨g1, g2, g3⟩ := hr j r hj
          exact ⟨g1.same (same_new f3 _), g2, g3⟩
        · rw [List.getElem?_append_right (by omega)] at hj
          have : j - es.length = 0 := by
            have := (List.getElem?_eq_some_iff.mp hj).1
            simp at this; omega
          rw [this] at hj
          cases hj
          have : j = i := by omega
          rw [this]
          exact ⟨⟨p1, y, rfl, upd_same, (h i y _ hy hb).same (s1.trans (same_new f3 _))⟩, rfl, hb⟩
    · rintro _ H3 ⟨F2, es, _, rfl, s1, s2, f2, h2, hn, hr⟩
      have hM' : es.length = M := by omega
      have hes : ∀ r ∈ es, EAt K F2 r ∧ r.2.2 = k := fun r hr' => by
        obtain ⟨j, hj⟩ := List.getElem?_of_mem hr'
        exact ⟨(hr j r hj).1, (hr j r hj).2.1⟩
      have hbs : bs = es.map (fun r => r.2.1) := by
        refine List.ext_getElem? fun j => ?_
        rw [List.getElem?_map]
        cases z : es[j]? with
        | none =>
          rw [List.getElem?_eq_none_iff] at z
          rw [List.getElem?_eq_none (by omega)]; rfl
        | some r => exact (hr j r z).2.2
      have hw2 := wtP_all M k es (fun r hr' => (hes r hr').2)
      have hp1 : 0 < (M + 1) ^ k := Nat.pow_pos (by omega)
      have hpw : (M + 1) ^ (k + 1) = M * (M + 1) ^ k + (M + 1) ^ k := by rw [Nat.pow_succ, Nat.mul_comm, Nat.add_mul, Nat.one_mul]
      rw [hM'] at hw2
      refine ⟨_, ?_, F2, is ++ es, _, _, _, rfl, hF.trans s1, s2, f2, h2, fun r hr' => ?_, rfl, ?_, ?_⟩
      · rw [hwt, wtP_app, hw2, hpw]; omega
      · rcases List.mem_append.mp hr' with z | z
        · exact (hEi r z).same s1
        · exact (hes r z).1
      · rw [wtP_app, hw2]; omega
      · rw [ht, List.all_append]
        congr 1
        simp only [List.all_cons, List.all_nil, Bool.and_true]
        show (decide (bs.length = M) && bs.all (isTr M k)) = _
        rw [decide_eq_true hbl, Bool.true_and, hbs, List.all_map]
        rw [Bool.eq_iff_iff, List.all_eq_true, List.all_eq_true]
        refine forall_congr' fun r => forall_congr' fun hr' => ?_
        rw [(hes r hr').2]; rfl
theorem ShAt.nons {H : Hp} {a : Addr} {ys : List V} (e : H a = some (.tup ys)) (h : ∀ (j : Nat) v, ys[j]? = some v → v = .non) : ShAt K H (.ref a) (.tup (ys.map fun _ => .non)) := by
  refine .tup e (by simp) fun i v b hv hb => ?_
  rw [List.getElem?_map, hv] at hb
  cases hb
  rw [h i v hv]; exact .non
structure Grow (F H F' H' : Hp) : Prop where
  hh : Same H H'
  ff : Same F F'
  fh : Same F' H'
  old : ∀ a, H a ≠ none → F' a = F a
theorem Grow.refl {F H : Hp} (h : Same F H) : Grow F H F H := ⟨.refl _, .refl _, h, fun _ _ => rfl⟩
theorem same_both {F H : Hp} (h : Same F H) {p : Addr} {o : HO} : Same (upd F p o) (upd H p o) := fun b u e => by
  by_cases z : b = p
  · rw [z, upd_same] at e; rw [z, upd_same]; exact e
  · rw [upd_ne z] at e; rw [upd_ne z]; exact h _ _ e
theorem Grow.new {F H F' H' : Hp} (g : Grow F H F' H') {p : Addr} (h : H' p = none) (o : HO) : Grow F H F' (upd H' p o) := ⟨new_same h g.hh, g.ff, new_same h g.fh, g.old⟩
theorem Grow.keep {F H F' H' : Hp} (g : Grow F H F' H') {p : Addr} (h : H' p = none) (o : HO) : Grow F H (upd F' p o) (upd H' p o) :=
  ⟨new_same h g.hh, new_same (g.fh.free h) g.ff, same_both g.fh, fun a ha => by
    have : a ≠ p := fun z => ha (by rw [z]; exact g.hh.free h)
    rw [upd_ne this]; exact g.old a ha⟩
def spThing (K : PySem.W.Frag) : Sp := fun vs H Q _ => ∃ (x : V) (τ : Sh) (k M : Nat), vs = [x, .int k, .int M] ∧ k < 16 ∧ 2 ≤ M ∧ M ≤ 6 ∧ ∃ F, Same F H ∧ ShAt K F x τ ∧ τ ≠ .oth ∧ ∀ F' H' v τ', Grow F H F' H' → ShAt K F' v τ' → Q v H'
theorem ok_L_thing (T : Txt K mg t) : FnOk P w K mg base (CX1 P w) 1 t.a_L_thing t.fd_L_thing ["thing", "kind", "many"] (spThing K) := by
  refine T.F_L_thing.okn (k := 0) sc_L_thing (fun vs H Q E h => ?_) (fun cdv A outer s H vs Q E hr h => ?_)
  · obtain ⟨x, τ, k, M, rfl, _⟩ := h; rfl
  obtain ⟨x, τ, k, M, rfl, hk, hM, hM6, F, hF, hx, ho, q⟩ := h
  have g0 := Grow.refl hF
  refine ⟨_, (pss_cons (ps_if (pt_cmpR (oEqA (hr.units0)) (pv 1) pe_int (nomark _)) (pss_one (ps_ret (pe_lc (compSc_of (N := ["k"]) (cap := [none]) (by kernel_rfl)) rfl (pi_range1 rfl T.m_range (pa_cons (pv 2) pa_nil)) ⟨fun _ => (pg_name (i := 0) (show List.Nodup (["k"] : List Str) by decide +kernel) rfl (Or.inl rfl)), fun _ => pf_nil, fun _ => pe_non⟩))) pss_nil)
    (pss_cons (ps_if (pt_cmpR (oEqA (hr.units0)) (pv 1) pe_int (nomark _)) (pss_one (ps_ret (pe_callTy call_tuple_of rfl T.m_tuple bt_tuple (pa_cons (pe_lc (compSc_of (N := ["k"]) (cap := [none]) (by kernel_rfl)) rfl (pi_range1 rfl T.m_range (pa_cons (pe_op oAddN (pv 2) pe_int) pa_nil)) ⟨fun _ => (pg_name (i := 0) (show List.Nodup (["k"] : List Str) by decide +kernel) rfl (Or.inl rfl)), fun _ => pf_nil, fun _ => pe_non⟩) pa_nil)))) pss_nil)
    (pss_cons (ps_if (pt_cmpR (oEqA (hr.units0)) (pv 1) pe_int (nomark _)) (pss_one (ps_ret (pe_callTy call_tuple_of rfl T.m_tuple bt_tuple (pa_cons (pe_lc (compSc_of (N := ["k"]) (cap := [none]) (by kernel_rfl)) rfl (pi_range1 rfl T.m_range (pa_cons (pe_op op_sub (pv 2) pe_int) pa_nil)) ⟨fun _ => (pg_name (i := 0) (show List.Nodup (["k"] : List Str) by decide +kernel) rfl (Or.inl rfl)), fun _ => pf_nil, fun _ => pe_non⟩) pa_nil)))) pss_nil)
    (pss_cons (ps_if (pt_cmpR (oEqA (hr.units0)) (pv 1) pe_int (nomark _)) (pss_one (ps_ret (pe_callTy call_tuple_of rfl T.m_tuple bt_tuple (pa_cons (pe_lc (compSc_of (N := ["k"]) (cap := [none]) (by kernel_rfl)) rfl (pi_range1 rfl T.m_range (pa_cons (pv 2) pa_nil)) ⟨fun _ => (pg_name (i := 0) (show List.Nodup (["k"] : List Str) by decide +kernel) rfl (Or.inl rfl)), fun _ => pf_nil, fun _ => pe_non⟩) pa_nil)))) pss_nil)
    (pss_cons (ps_if (PW.pt (pw_and (pt_cmpR (oEqA (hr.units0)) (pv 1) pe_int (nomark _)) (pw_and1 (pt_cmp (pc_notN (pv 0)))))) (pss_one (ps_ret (pe_callTy (callList rfl) rfl T.m_list bt_list (pa_cons (pv 0) pa_nil)))) pss_nil)
    (pss_one (ps_ret (pe_ix ixAny (pe_lst (PAs.h (pas_cons pe_bl (pas_cons (pe_tup pa_nil) (pas_cons pe_str (pas_cons pe_int (pas_cons pe_bl (pas_cons pe_str (pas_cons (pe_lst pa_nil) (pas_cons pe_dnewK (pas_cons pe_int (pas_cons pe_str (pas_cons (pe_op oMulN pe_str (pv 2)) (pas_cons (pe_un un_neg pe_int) pas_nil)))))))))))))) (pe_op op_sub (pv 1) pe_int) (fun _ _ => rfl))))))))), ?_⟩
  refine ⟨_, rfl, .inl ⟨rfl, _, rfl, if2 (fun z => ?_) (fun z0 => ?_)⟩⟩
  · refine ⟨_, rfl, _, rfl, by omega, by omega, fun D hD c => ?_⟩
    refine lc_vals walk_range (fun _ v => v = .non) (fun _ => trivial) (by unfold upto; rw [List.length_map, List.length_range, sizeLine_eq]; omega) (fun i x ys C hx hC => hC _ rfl) (fun ys hl hv => ?_)
    exact q _ _ _ _ (g0.keep hD _) (.oth (.lst upd_same))
  refine ⟨_, rfl, .inl ⟨rfl, _, rfl, if2 (fun z => ?_) (fun z1 => ?_)⟩⟩
  · repeat array_get_dec
    refine ⟨by omega, by omega, fun D hD c => ?_⟩
    refine lc_vals walk_range (fun _ v => v = .non) (fun _ => trivial) (by unfold upto; rw [List.length_map, List.length_range, sizeLine_eq]; omega) (fun i x ys C hx hC => hC _ rfl) (fun ys hl hv => ?_)
    exact ⟨D, ys, rfl, .inl ⟨.inl (.inl upd_same), fun l hl => q _ _ _ _ ((g0.new hD _).keep hl _) (.nons upd_same hv)⟩⟩
  refine ⟨_, rfl, .inl ⟨rfl, _, rfl, if2 (fun z => ?_) (fun z2 => ?_)⟩⟩
  · repeat array_get_dec
    refine ⟨by omega, by omega, fun D hD c => ?_⟩
    refine lc_vals walk_range (fun _ v => v = .non) (fun _ => trivial) (by unfold upto; rw [List.length_map, List.length_range, sizeLine_eq]; omega) (fun i x ys C hx hC => hC _ rfl) (fun ys hl hv => ?_)
    exact ⟨D, ys, rfl, .inl ⟨.inl (.inl upd_same), fun l hl => q _ _ _ _ ((g0.new hD _).keep hl _) (.nons upd_same hv)⟩⟩
  refine ⟨_, rfl, .inl ⟨rfl, _, rfl, if2 (fun z => ?_) (fun z3 => ?_)⟩⟩
  · repeat array_get_dec
    refine ⟨by omega, by omega, fun D hD c => ?_⟩
    refine lc_vals walk_range (fun _ v => v = .non) (fun _ => trivial) (by unfold upto; rw [List.length_map, List.length_range, sizeLine_eq]; omega) (fun i x ys C hx hC => hC _ rfl) (fun ys hl hv => ?_)
    exact ⟨D, ys, rfl, .inl ⟨.inl (.inl upd_same), fun l hl => q _ _ _ _ ((g0.new hD _).keep hl _) (.nons upd_same hv)⟩⟩
  have h4 : 4 ≤ k := by
    rcases Nat.lt_or_ge k 4 with h | h
    · match k, h with
      | 0, _ => exact absurd rfl z0
      | 1, _ => exact absurd rfl z1
      | 2, _ => exact absurd rfl z2
      | 3, _ => exact absurd rfl z3
    · exact h
  refine ⟨_, rfl, .inl ⟨rfl, _, rfl, if2 (fun z => ?_) (fun z4 => ?_)⟩⟩
  · cases hx with
    | oth h => exact absurd rfl ho
    | tup e hl h =>
      rename_i a vs bs
      refine ⟨_, rfl, _, rfl, iteT ?_⟩
      refine ⟨_, rfl, .inl ⟨a, vs, rfl, .inr (.inl (.inl (hF _ _ e))), fun l hl => ?_⟩⟩
      exact q _ _ _ _ (g0.keep hl _) (.oth (.lst upd_same))
    | non =>
      refine ⟨_, rfl, _, rfl, iteF ?_⟩
      refine ⟨by rw [sizeLine_eq]; show 0 ≤ _; decide, fun p1 h1 => ⟨by rw [sizeLine_eq]; show 0 ≤ _; decide, fun p2 h2 => fun p3 h3 => ?_⟩⟩
      repeat array_get_dec
      refine .inr (.inl ⟨[46], M, congrArg V.str (by decide +kernel), rfl, ⟨by omega, by omega, by decide⟩, ?_⟩)
      refine ⟨1, rfl, by rw [sizeLine_eq]; show 12 ≤ _; decide, fun p4 h4' => ?_⟩
      repeat array_get_dec
      try dsimp (config := { proj := false, eta := false, zeta := false, iota := false }) only [tNil, tC]
      have g4 := (((g0.keep h1 (.tup [])).keep h2 (.lst [])).keep h3 (.dK [])).new h4' (.lst [V.bl false, V.ref p1, V.str (Str.ofString "."), V.int 0, V.bl true, V.str (Str.ofString ""), V.ref p2, V.ref p3, V.int 7, V.str (Str.ofString "(..)"), vt (List.replicate (M : Int).toNat [46]).flatten, V.int (-1)])
      have f3 := ((g0.keep h1 (.tup [])).keep h2 (.lst [])).fh.free h3
      have f2 := (g0.keep h1 (.tup [])).fh.free h2
      have z1 : upd (upd (upd F p1 (.tup [])) p2 (.lst [])) p3 (.dK []) p1 = some (.tup []) := new_at f3 (new_at f2 upd_same)
      have z2 : upd (upd (upd F p1 (.tup [])) p2 (.lst [])) p3 (.dK []) p2 = some (.lst []) := new_at f3 upd_same
      have z3 : upd (upd (upd F p1 (.tup [])) p2 (.lst [])) p3 (.dK []) p3 = some (.dK []) := upd_same
      obtain ⟨j, hj, ej⟩ : ∃ j : Nat, j < 12 ∧ ((k : Nat) : Int) - 4 = (j : Int) := ⟨k - 4, by omega, by omega⟩
      rw [ej]
      refine ixL (.inl (.inl upd_same)) (atI_nat (List.getElem?_eq_getElem (show j < 12 from hj))) ?_
      have hm := List.getElem_mem (show j < [V.bl false, V.ref p1, V.str (Str.ofString "."), V.int 0, V.bl true, V.str (Str.ofString ""), V.ref p2, V.ref p3, V.int 7, V.str (Str.ofString "(..)"), vt (List.replicate (M : Int).toNat [46]).flatten, V.int (-1)].length from hj)
      simp only [List.mem_cons, List.not_mem_nil, or_false] at hm
      rcases hm with e | e | e | e | e | e | e | e | e | e | e | e <;> rw [e]
      · exact q _ _ _ _ g4 (.oth (.bl _))
      · exact q _ _ _ _ g4 (.tup z1 rfl (fun i v b h => nomatch h) (bs := []))
      · exact q _ _ _ _ g4 (.oth (.str _))
      · exact q _ _ _ _ g4 (.oth (.int _))
      · exact q _ _ _ _ g4 (.oth (.bl _))
      · exact q _ _ _ _ g4 (.oth (.str _))
      · exact q _ _ _ _ g4 (.oth (.lst z2))
      · exact q _ _ _ _ g4 (.oth (.dK z3))
      · exact q _ _ _ _ g4 (.oth (.int _))
      · exact q _ _ _ _ g4 (.oth (.str _))
      · exact q _ _ _ _ g4 (.oth (.str _))
      · exact q _ _ _ _ g4 (.oth (.int _))
  · refine iteF ?_
    refine ⟨by rw [sizeLine_eq]; show 0 ≤ _; decide, fun p1 h1 => ⟨by rw [sizeLine_eq]; show 0 ≤ _; decide, fun p2 h2 => fun p3 h3 => ?_⟩⟩
    repeat array_get_dec
    refine .inr (.inl ⟨[46], M, congrArg V.str (by decide +kernel), rfl, ⟨by omega, by omega, by decide⟩, ?_⟩)
    refine ⟨1, rfl, by rw [sizeLine_eq]; show 12 ≤ _; decide, fun p4 h4' => ?_⟩
    repeat array_get_dec
    try dsimp (config := { proj := false, eta := false, zeta := false, iota := false }) only [tNil, tC]
    have g4 := (((g0.keep h1 (.tup [])).keep h2 (.lst [])).keep h3 (.dK [])).new h4' (.lst [V.bl false, V.ref p1, V.str (Str.ofString "."), V.int 0, V.bl true, V.str (Str.ofString ""), V.ref p2, V.ref p3, V.int 7, V.str (Str.ofString "(..)"), vt (List.replicate (M : Int).toNat [46]).flatten, V.int (-1)])
    have f3 := ((g0.keep h1 (.tup [])).keep h2 (.lst [])).fh.free h3
    have f2 := (g0.keep h1 (.tup [])).fh.free h2
    have z1 : upd (upd (upd F p1 (.tup [])) p2 (.lst [])) p3 (.dK []) p1 = some (.tup []) := new_at f3 (new_at f2 upd_same)
    have z2 : upd (upd (upd F p1 (.tup [])) p2 (.lst [])) p3 (.dK []) p2 = some (.lst []) := new_at f3 upd_same
    have z3 : upd (upd (upd F p1 (.tup [])) p2 (.lst [])) p3 (.dK []) p3 = some (.dK []) := upd_same
    obtain ⟨j, hj, ej⟩ : ∃ j : Nat, j < 12 ∧ ((k : Nat) : Int) - 4 = (j : Int) := ⟨k - 4, by omega, by omega⟩
    rw [ej]
    refine ixL (.inl (.inl upd_same)) (atI_nat (List.getElem?_eq_getElem (show j < 12 from hj))) ?_
    have hm := List.getElem_mem (show j < [V.bl false, V.ref p1, V.str (Str.ofString "."), V.int 0, V.bl true, V.str (Str.ofString ""), V.ref p2, V.ref p3, V.int 7, V.str (Str.ofString "(..)"), vt (List.replicate (M : Int).toNat [46]).flatten, V.int (-1)].length from hj)
    simp only [List.mem_cons, List.not_mem_nil, or_false] at hm
    rcases hm with e | e | e | e | e | e | e | e | e | e | e | e <;> rw [e]
    · exact q _ _ _ _ g4 (.oth (.bl _))
    · exact q _ _ _ _ g4 (.tup z1 rfl (fun i v b h => nomatch h) (bs := []))
    · exact q _ _ _ _ g4 (.oth (.str _))
    · exact q _ _ _ _ g4 (.oth (.int _))
    · exact q _ _ _ _ g4 (.oth (.bl _))
    · exact q _ _ _ _ g4 (.oth (.str _))
    · exact q _ _ _ _ g4 (.oth (.lst z2))
    · exact q _ _ _ _ g4 (.oth (.dK z3))
    · exact q _ _ _ _ g4 (.oth (.int _))
    · exact q _ _ _ _ g4 (.oth (.str _))
    · exact q _ _ _ _ g4 (.oth (.str _))
    · exact q _ _ _ _ g4 (.oth (.int _))
theorem cutN_60 (ns : List Int) : (cutN ns (some 3) (some 63)).length ≤ 60 := by
  unfold cutN
  rw [List.length_take, List.length_drop]
  have e1 : HT.sIx ns.length 0 (some 3) = min 3 ns.length := HT.sIx_nat _ _ 3
  have e2 : HT.sIx ns.length ns.length (some 63) = min 63 ns.length := HT.sIx_nat _ _ 63
  rw [e1, e2]; omega
def spCells (K : PySem.W.Frag) : Sp := fun vs H Q _ => ∃ (a : Addr) (ns : List Int) (M : Nat), vs = [.ref a, .int M] ∧ SqL K H a (ns.map V.int) ∧ 2 ≤ M ∧ M ≤ 6 ∧ ∀ H' p (cs : List Int), Same H H' → SqL K H' p (cs.map V.int) → cs.length ≤ 1020 → Q (.ref p) H'
theorem ok_L_cells (T : Txt K mg t) : FnOk P w K mg base (CX1 P w) 2 t.a_L_cells t.fd_L_cells ["script", "many"] (spCells K) := by
  refine T.F_L_cells.okn (k := 1) sc_L_cells (fun vs H Q E h => ?_) (fun cdv A outer s H vs Q E hr h => ?_)
  · obtain ⟨a, ns, M, rfl, _⟩ := h; rfl
  obtain ⟨a, ns, M, rfl, ha, hM, hM6, q⟩ := h
  have G_L_cell_at := ok_L_cell_at (P := P) (w := w) (base := base) T
  refine ⟨_, (pss_cons (ps_set (i := 2) sc_L_cells.nd rfl (Or.inl rfl) (pe_op op_mod (pe_op op_fdivL (pe_call G_L_cell_at hr rfl T.m_L_cell_at T.F_L_cell_at.kp T.b_L_cell_at .nil pass1 (PAs.h (pas_cons (pv 0) (pas_cons pe_int pas_nil)))) pe_int) pe_int))
    (pss_cons (ps_set (i := 3) sc_L_cells.nd rfl (Or.inl rfl) (pe_op op_fdivL pe_int (pv 1)))
    (pss_cons (ps_if (pt_cmpR (oEqA (hr.units0)) (pv 2) pe_int (nomark _)) (pss_one (ps_ret (pe_lc (compSc_of (N := ["k"]) (cap := [none]) (by kernel_rfl)) rfl (pi_range1 rfl T.m_range (pa_cons (pe_op op_mod (pe_op op_fdivL (pe_call G_L_cell_at hr rfl T.m_L_cell_at T.F_L_cell_at.kp T.b_L_cell_at .nil pass1 (PAs.h (pas_cons (pv 0) (pas_cons pe_int pas_nil)))) pe_int) (pe_op oAddN (pv 3) pe_int)) pa_nil)) ⟨fun _ => (pg_name (i := 0) (show List.Nodup (["k"] : List Str) by decide +kernel) rfl (Or.inl rfl)), fun _ => pf_nil, fun _ => pe_int⟩))) pss_nil)
    (pss_cons (ps_if (pt_cmpR (oEqA (hr.units0)) (pv 2) pe_int (nomark _)) (pss_one (ps_ret (pe_slice slAny (pe_op oMulN (pe_slice slAny (pv 0) (po_some pe_int) (po_some pe_int)) pe_int) po_none (po_some (pe_op op_mod (pe_op op_fdivL (pe_call G_L_cell_at hr rfl T.m_L_cell_at T.F_L_cell_at.kp T.b_L_cell_at .nil pass1 (PAs.h (pas_cons (pv 0) (pas_cons pe_int pas_nil)))) pe_int) (pe_op oAddN (pv 3) pe_int)))))) pss_nil)
    (pss_one (ps_ret (pe_slice slAny (pv 0) (po_some pe_int) (po_some pe_int)))))))), ?_⟩
  refine ⟨_, rfl, a, ns, 1, rfl, ha, by decide, ?_⟩
  generalize cellN ns 1 = c1
  refine ⟨_, _, rfl, rfl, cdivK (by decide) (by decide), _, _, rfl, rfl, (by show (0 : Int) < 8; decide), ?_⟩
  refine ⟨_, rfl, _, _, rfl, rfl, cdivK (by show (0 : Int) < M; omega) (by show (M : Int) < 1000000000; omega), ?_⟩
  show gName 3 (V.int ((990 : Int).fdiv M)) _ _ _
  obtain ⟨mo, hm1, hm2⟩ : ∃ mo : Nat, (990 : Int).fdiv M = (mo : Int) ∧ mo ≤ 990 := by
    rw [Int.fdiv_eq_ediv_of_nonneg _ (by omega)]
    have h1 := Int.ediv_nonneg (show (0 : Int) ≤ 990 by decide) (show (0 : Int) ≤ M by omega)
    have h2 : (990 : Int) / M ≤ 990 := Int.ediv_le_self _ (by decide)
    exact ⟨((990 : Int) / M).toNat, by omega, by omega⟩
  rw [hm1]
  have cs : ∀ c : Int, 0 ≤ c.fdiv 16 % ((mo : Int) + 1) ∧ c.fdiv 16 % ((mo : Int) + 1) ≤ mo := fun c => by
    have := Int.emod_nonneg (c.fdiv 16) (show (mo : Int) + 1 ≠ 0 by omega)
    have := Int.emod_lt_of_pos (c.fdiv 16) (show (0 : Int) < (mo : Int) + 1 by omega)
    omega
  refine ⟨_, rfl, .inl ⟨rfl, _, rfl, if2 (fun z => ?_) (fun z => ?_)⟩⟩
  · refine ⟨_, rfl, a, ns, 1, rfl, ha, by decide, ?_⟩
    have := cs (cellN ns 1)
    generalize cellN ns 1 = c1 at *
    refine ⟨_, _, rfl, rfl, cdivK (by decide) (by decide), _, rfl, .inl ⟨_, _, rfl, rfl, _, _, rfl, rfl, (by show (0 : Int) < (mo : Int) + 1; omega), ?_⟩⟩
    try dsimp (config := { proj := false, eta := false, zeta := false, iota := false }) only [tNil, tC]
    refine ⟨_, rfl, by omega, by omega, fun D hD c => ?_⟩
    refine lc_vals walk_range (fun _ v => v = .int 1) (fun _ => trivial) (by unfold upto; rw [List.length_map, List.length_range, sizeLine_eq]; omega) (fun i x ys C hx hC => hC _ rfl) (fun ys hl hv => ?_)
    have e : ys = (List.replicate ys.length (1 : Int)).map V.int := by
      rw [List.map_replicate]
      exact List.eq_replicate_of_mem fun v hv' => by
        obtain ⟨j, hj⟩ := List.getElem?_of_mem hv'
        exact hv j v hj
    refine q _ D (List.replicate ys.length 1) (same_new hD _) (.inl (.inl (by rw [← e]; exact upd_same))) ?_
    rw [List.length_replicate, hl]; unfold upto; rw [List.length_map, List.length_range]; omega
  refine ⟨_, rfl, .inl ⟨rfl, _, rfl, if2 (fun z => ?_) (fun z => ?_)⟩⟩
  · refine ⟨_, rfl, _, rfl, _, rfl, .inl ⟨a, _, rfl, ha, fun p1 h1 => ?_⟩⟩
    rw [cut_ints]
    have h60 := cutN_60 ns
    refine .inr (.inr ⟨p1, 17, _, rfl, rfl, upd_same, by decide, by decide, by rw [List.length_map, sizeLine_eq]; show _ * 17 ≤ _; omega, fun p2 h2 => ?_⟩)
    have e : (List.replicate (17 : Int).toNat ((cutN ns (some 3) (some 63)).map V.int)).flatten = ((List.replicate 17 (cutN ns (some 3) (some 63))).flatten).map V.int := by
      rw [List.map_flatten, List.map_replicate]; rfl
    rw [e]
    have hl : ((List.replicate 17 (cutN ns (some 3) (some 63))).flatten).length ≤ 1020 := by rw [len_rep]; omega
    generalize (List.replicate 17 (cutN ns (some 3) (some 63))).flatten = cs2 at *
    have s2 : Same H (upd (upd H p1 (.lst ((cutN ns (some 3) (some 63)).map V.int))) p2 (.lst (cs2.map V.int))) := new_same h2 (same_new h1 _)
    have hc2 : upd (upd H p1 (.lst ((cutN ns (some 3) (some 63)).map V.int))) p2 (.lst (cs2.map V.int)) p2 = some (.lst (cs2.map V.int)) := upd_same
    generalize upd (upd H p1 (.lst ((cutN ns (some 3) (some 63)).map V.int))) p2 (.lst (cs2.map V.int)) = H2 at s2 hc2 ⊢
    refine ⟨_, rfl, a, ns, 1, rfl, same_lst s2 ha, by decide, ?_⟩
    refine ⟨_, _, rfl, rfl, cdivK (by decide) (by decide), _, rfl, .inl ⟨_, _, rfl, rfl, _, _, rfl, rfl, (by show (0 : Int) < (mo : Int) + 1; omega), ?_⟩⟩
    try dsimp (config := { proj := false, eta := false, zeta := false, iota := false }) only [tNil, tC]
    refine ⟨_, rfl, .inl ⟨p2, _, rfl, .inl (.inl hc2), fun p3 h3 => ?_⟩⟩
    rw [cut_ints]
    exact q _ p3 _ (new_same h3 s2) (.inl (.inl upd_same)) (Nat.le_trans (cutN_len _ _ _) hl)
  · refine ⟨_, rfl, _, rfl, _, rfl, .inl ⟨a, _, rfl, ha, fun p1 h1 => ?_⟩⟩
    rw [cut_ints]
    have h60 := cutN_60 ns
    exact q _ p1 _ (same_new h1 _) (.inl (.inl upd_same)) (by omega)
abbrev Lay := Addr × List V
structure Pile (K : PySem.W.Frag) (G : Nat → Sh → Prop) (D : Nat) (H F : Hp) (p : Addr) (al : List Lay) : Prop where
  pl : H p = some (.lst (al.map fun (e : Lay) => V.ref e.1))
  ls : ∀ e ∈ al, H e.1 = some (.lst e.2)
  nd : (al.map (·.1)).Nodup
  np : ∀ e ∈ al, e.1 ≠ p
  sf : Same F H
  fp : F p = none
  fl : ∀ e ∈ al, F e.1 = none
  vl : ∀ (j : Nat) e, al[j]? = some e → ∀ v ∈ e.2, ∃ τ, ShAt K F v τ ∧ G (D - j) τ
  dp : al.length ≤ D + 1
theorem Pile.push {G : Nat → Sh → Prop} {D : Nat} {H F : Hp} {p : Addr} {al : List Lay} (h : Pile K G D H F p al) {b : Addr} (hb : H b = none) (hd : al.length ≤ D) :
    Pile K G D (upd (upd H b (.lst [])) p (.lst ((al ++ [(b, [])]).map fun (e : Lay) => V.ref e.1))) F p (al ++ [(b, [])]) := by
  have nb : ∀ e ∈ al, e.1 ≠ b := fun e he z => by have := h.ls e he; rw [z, hb] at this; cases this
  have nbp : b ≠ p := fun z => by have := h.pl; rw [← z, hb] at this; cases this
  refine ⟨upd_same, fun e he => ?_, ?_, fun e he => ?_, ?_, h.fp, fun e he => ?_, fun j e he => ?_, ?_⟩
  · rcases List.mem_append.mp he with z | z
    · rw [upd_ne (h.np e z), upd_ne (nb e z)]; exact h.ls e z
    · cases List.mem_singleton.mp z
      rw [upd_ne nbp, upd_same]
  · rw [List.map_append, List.nodup_append]
    refine ⟨h.nd, by simp, fun x hx y hy => ?_⟩
    obtain ⟨e, he, rfl⟩ := List.mem_map.mp hx
    cases List.mem_singleton.mp hy
    exact nb e he
  · rcases List.mem_append.mp he with z | z
    · exact h.np e z
    · cases List.mem_singleton.mp z; exact nbp
  · exact over_same h.fp (new_same hb h.sf)
  · rcases List.mem_append.mp he with z | z
    · exact h.fl e z
    · cases List.mem_singleton.mp z; exact h.sf.free hb
  · by_cases z : j < al.length
    · rw [List.getElem?_append_left z] at he
      exact h.vl j e he
    · rw [List.getElem?_append_right (by omega)] at he
      have := (List.getElem?_eq_some_iff.mp he).1
      have e0 : j - al.length = 0 := by simp at this; omega
      rw [e0] at he
      cases he
      exact fun v hv => nomatch hv
  · rw [List.length_append]; show _ + 1 ≤ _; omega
theorem Pile.top {G : Nat → Sh → Prop} {D : Nat} {H F : Hp} {p : Addr} {is : List Lay} {a : Addr} {xs : List V} (h : Pile K G D H F p (is ++ [(a, xs)])) (ys : List V) (hy : ∀ v ∈ ys, ∃ τ, ShAt K F v τ ∧ G (D - is.length) τ) :
    Pile K G D (upd H a (.lst ys)) F p (is ++ [(a, ys)]) := by
  have hnd := h.nd
  rw [List.map_append, List.nodup_append] at hnd
  have na : ∀ (e : Lay), e ∈ is → e.1 ≠ a := fun e he => hnd.2.2 e.1 (List.mem_map_of_mem he) a (by simp)
  have nap : a ≠ p := h.np (a, xs) (by simp)
  have fa : F a = none := h.fl (a, xs) (by simp)
  have em : ∀ (e : Lay), e ∈ is ++ [(a, ys)] → e ∈ is ∨ e = (a, ys) := fun e he => by
    rcases List.mem_append.mp he with z | z
    · exact .inl z
    · exact .inr (List.mem_singleton.mp z)
  refine ⟨?_, fun e he => ?_, ?_, fun e he => ?_, over_same fa h.sf, h.fp, fun e he => ?_, fun j e he => ?_, ?_⟩
  · rw [upd_ne nap.symm, h.pl]; simp
  · rcases em e he with z | rfl
    · rw [upd_ne (na e z)]; exact h.ls e (List.mem_append_left _ z)
    · exact upd_same
  · have := h.nd; simpa using this
  · rcases em e he with z | rfl
    · exact h.np e (List.mem_append_left _ z)
    · exact nap
  · rcases em e he with z | rfl
    · exact h.fl e (List.mem_append_left _ z)
    · exact fa
  · by_cases z : j < is.length
    · rw [List.getElem?_append_left z] at he
      exact h.vl j e (by rw [List.getElem?_append_left z]; exact he)
    · rw [List.getElem?_append_right (by omega)] at he
      have := (List.getElem?_eq_some_iff.mp he).1
      have e0 : j - is.length = 0 := by simp at this; omega
      rw [e0] at he
      cases he
      have : j = is.length := by omega
      rw [this]; exact hy
  · have := h.dp; rw [List.length_append] at this ⊢; exact this
theorem Pile.pop {G : Nat → Sh → Prop} {D : Nat} {H F : Hp} {p : Addr} {is : List Lay} {a : Addr} {xs : List V} (h : Pile K G D H F p (is ++ [(a, xs)])) :
    Pile K G D (upd H p (.lst (is.map fun (e : Lay) => V.ref e.1))) F p is := by
  have hi : ∀ (e : Lay), e ∈ is → e ∈ is ++ [(a, xs)] := fun e he => List.mem_append_left _ he
  refine ⟨upd_same, fun e he => ?_, ?_, fun e he => h.np e (hi e he), over_same h.fp h.sf, h.fp, fun e he => h.fl e (hi e he), fun j e he => ?_, ?_⟩
  · rw [upd_ne (h.np e (hi e he))]; exact h.ls e (hi e he)
  · have := h.nd
    rw [List.map_append, List.nodup_append] at this
    exact this.1
  · exact h.vl j e (by rw [List.getElem?_append_left (List.getElem?_eq_some_iff.mp he).1]; exact he)
  · have := h.dp; rw [List.length_append] at this; omega
theorem Pile.grow {G : Nat → Sh → Prop} {D : Nat} {H F H' F' : Hp} {p : Addr} {al : List Lay} (h : Pile K G D H F p al) (g : Grow F H F' H') : Pile K G D H' F' p al := by
  refine ⟨g.hh _ _ h.pl, fun e he => g.hh _ _ (h.ls e he), h.nd, h.np, g.fh, ?_, fun e he => ?_, fun j e he v hv => ?_, h.dp⟩
  · rw [g.old p (by rw [h.pl]; exact fun z => nomatch z)]; exact h.fp
  · rw [g.old e.1 (by rw [h.ls e he]; exact fun z => nomatch z)]; exact h.fl e he
  · obtain ⟨τ, h1, h2⟩ := h.vl j e he v hv
    exact ⟨τ, h1.same g.ff, h2⟩
theorem shapes {F : Hp} {G : Sh → Prop} {xs : List V} (h : ∀ v ∈ xs, ∃ τ, ShAt K F v τ ∧ G τ) : ∃ bs : List Sh, xs.length = bs.length ∧ (∀ b ∈ bs, G b) ∧ ∀ (i : Nat) v b, xs[i]? = some v → bs[i]? = some b → ShAt K F v b := by
  induction xs with
  | nil => exact ⟨[], rfl, fun b hb => (nomatch hb), fun i v b hv => nomatch hv⟩
  | cons x xs ih =>
    obtain ⟨τ, h1, h2⟩ := h x List.mem_cons_self
    obtain ⟨bs, e, h3, h4⟩ := ih fun v hv => h v (List.mem_cons_of_mem _ hv)
    refine ⟨τ :: bs, by simp [e], fun b hb => ?_, fun i v b hv hb => ?_⟩
    · rcases List.mem_cons.mp hb with rfl | hb
      · exact h2
      · exact h3 b hb
    · cases i with
      | zero => cases hv; cases hb; exact h1
      | succ i => exact h4 i v b hv hb
def cap (M j : Nat) : Nat := if j = 0 then 1 else M
def lk (M : Nat) : Nat → List Lay → Nat
  | _, [] => 0
  | j, e :: r => (cap M j - e.2.length) + lk M (j + 1) r
theorem lk_app (M : Nat) (al : List Lay) (e : Lay) : ∀ j, lk M j (al ++ [e]) = lk M j al + (cap M (j + al.length) - e.2.length) := by
  induction al with
  | nil => intro j; simp [lk]
  | cons x al ih => intro j; simp only [List.cons_append, lk, ih, List.length_cons]; rw [show j + 1 + al.length = j + (al.length + 1) by omega]; omega
structure Lens (M : Nat) (is : List Lay) (xs : List V) : Prop where
  lo : ∀ (j : Nat) e, is[j]? = some e → e.2.length < cap M j
  hi : xs.length ≤ cap M is.length
theorem Lens.down {M : Nat} {is : List Lay} {e : Lay} {xs : List V} (h : Lens M (is ++ [e]) xs) : (∀ (j : Nat) e, is[j]? = some e → e.2.length < cap M j) ∧ e.2.length < cap M is.length :=
  ⟨fun j e' he => h.lo j e' (by rw [List.getElem?_append_left (List.getElem?_eq_some_iff.mp he).1]; exact he), h.lo is.length e (by simp)⟩
theorem meet {A B : TS} {D : Ends} {σ : L2.St} {H : Hp} (S : L2.St → Hp → Prop) (k : ∀ N : L2.St → Hp → Prop, (∀ σ H, S σ H → N σ H) → A { D with nx := N } σ H) (r : ∀ σ H, S σ H → B D σ H) : tSeq A B D σ H := k (B D) r
theorem if_test {c : TT} {A B : TS} {D : Ends} {σ : L2.St} {H : Hp} (C : Prop) (k : ∀ Q : Bool → Hp → Prop, (C → Q true H) → Q false H → c σ H Q) (a : C → A D σ H) (b : B D σ H) : tIfS c A B D σ H := k _ (fun h => iteT (a h)) (iteF b)
theorem set_last {α : Type} (xs : List α) (x v : α) : (xs ++ [x]).set ((xs ++ [x]).length - 1) v = xs ++ [v] := by
  rw [List.length_append, List.set_append_right _ _ (by simp)]; simp
theorem ix_last {n : Nat} (h : 0 < n) : ixN n (-1) = some (n - 1) := by
  unfold ixN
  rw [if_neg (by omega), if_pos (by omega)]
  congr 1; omega
theorem at_last {α : Type} (xs : List α) (x : α) : atI (xs ++ [x]) (-1) = some x := by
  unfold atI
  rw [ix_last (by simp)]
  show (xs ++ [x])[(xs ++ [x]).length - 1]? = _
  simp
def GoodIf (M : Nat) (pl : Int) : Nat → Sh → Prop := fun n τ => pl = -1 → isTr M n τ = true
def spTree (K : PySem.W.Frag) : Sp := fun vs H Q _ => ∃ (c : Addr) (cs : List Int) (M D : Nat) (pl : Int) (k : Nat), vs = [.ref c, .int M, .int D, .int pl, .int k] ∧ SqL K H c (cs.map V.int) ∧ cs.length ≤ 1020 ∧ 2 ≤ M ∧ M ≤ 6 ∧ D ≤ 6 ∧ k < 16 ∧
  ∀ H' v τ, Same H H' → ShAt K H' v τ → GoodIf M pl D τ → Q v H'
theorem ok_L_tree (T : Txt K mg t) : FnOk P w K mg base (CX1 P w) 2 t.a_L_tree t.fd_L_tree ["cells", "many", "depth", "place", "kind"] (spTree K) := by
  refine T.F_L_tree.okn (k := 1) sc_L_tree (fun vs H Q E h => ?_) (fun cdv A outer s H vs Q E hr h => ?_)
  · obtain ⟨c, cs, M, D, pl, k, rfl, _⟩ := h; rfl
  obtain ⟨c, cs, M, D, pl, k, rfl, hc, hcl, hM, hM6, hD, hk, q⟩ := h
  have G_L_thing := ok_L_thing (P := P) (w := w) (base := base) T
  refine ⟨_, (pss_cons (ps_set (i := 5) sc_L_tree.nd rfl (Or.inl rfl) (pe_lst (pa_cons (pe_lst pa_nil) pa_nil)))
    (pss_cons (ps_set (i := 6) sc_L_tree.nd rfl (Or.inl rfl) pe_int)
    (pss_cons (ps_set (i := 7) sc_L_tree.nd rfl (Or.inl rfl) pe_int)
    (pss_cons (ps_while PassesOwn.never (pt_cmpR (oEqW (hr.units0)) (pe_ix ixAny (pv 5) pe_int (fun _ _ => rfl)) (pe_lst pa_nil) (nomark _)) (pss_cons (ps_if (PW.pt (pw_and (pt_cmpR oLeA (pe_callB call_len rfl T.m_len bt_len (pa_cons (pv 5) pa_nil)) (pv 2) (nomark _)) (pw_and (pt_cmpR oLt (pv 6) (pe_callB call_len rfl T.m_len bt_len (pa_cons (pv 0) pa_nil)) (nomark _)) (pw_and1 (pt_cmpR op_gt (pe_op op_mod (pe_ix ixAny (pv 0) (pv 6) (fun _ _ => rfl)) pe_int) pe_int (nomark _)))))) (pss_one (ps_expr (pe_bm PySem.F.plainAttrs_list PySem.F.slot_list_append PySem.F.type_list_append mt_app (pv 5) (pa_cons (pe_lst pa_nil) pa_nil)))) (pss_cons (ps_expr (pe_bm PySem.F.plainAttrs_list PySem.F.slot_list_append PySem.F.type_list_append mt_app (pe_ix ixAny (pv 5) (pe_un un_neg pe_int) (fun _ _ => rfl)) (pa_cons pe_non pa_nil)))
    (pss_cons (ps_if (pt_cmpR (oEqW (hr.units0)) (pv 7) (pv 3) (nomark _)) (pss_one (ps_asg (pe_call G_L_thing hr rfl T.m_L_thing T.F_L_thing.kp T.b_L_thing .nil pass1 (PAs.h (pas_cons pe_non (pas_cons (pv 4) (pas_cons (pv 1) pas_nil))))) (pg_sub (pe_ix ixAny (pv 5) (pe_un un_neg pe_int) (fun _ _ => rfl)) (pe_un un_neg pe_int) set_list))) pss_nil)
    (pss_one (ps_set (i := 7) sc_L_tree.nd rfl (Or.inl rfl) (pe_op oAddN (pv 7) pe_int))))))
    (pss_cons (ps_set (i := 6) sc_L_tree.nd rfl (Or.inl rfl) (pe_op oAddN (pv 6) pe_int))
    (pss_one (ps_while PassesOwn.never (PW.pt (pw_and (pt_cmpR op_gt (pe_callB call_len rfl T.m_len bt_len (pa_cons (pv 5) pa_nil)) pe_int (nomark _)) (pw_and1 (pt_cmpR (oEqW (hr.units0)) (pe_callB call_len rfl T.m_len bt_len (pa_cons (pe_ix ixAny (pv 5) (pe_un un_neg pe_int) (fun _ _ => rfl)) pa_nil)) (pv 1) (nomark _))))) (pss_cons (ps_set (i := 8) sc_L_tree.nd rfl (Or.inl rfl) (pe_callTy call_tuple_of rfl T.m_tuple bt_tuple (pa_cons (pe_bm0 PySem.F.plainAttrs_list PySem.F.slot_list_pop PySem.F.type_list_pop mt_popL (pv 5)) pa_nil)))
    (pss_cons (ps_expr (pe_bm PySem.F.plainAttrs_list PySem.F.slot_list_append PySem.F.type_list_append mt_app (pe_ix ixAny (pv 5) (pe_un un_neg pe_int) (fun _ _ => rfl)) (pa_cons (pv 8) pa_nil)))
    (pss_cons (ps_if (pt_cmpR (oEqW (hr.units0)) (pv 7) (pv 3) (nomark _)) (pss_one (ps_asg (pe_call G_L_thing hr rfl T.m_L_thing T.F_L_thing.kp T.b_L_thing .nil pass1 (PAs.h (pas_cons (pv 8) (pas_cons (pv 4) (pas_cons (pv 1) pas_nil))))) (pg_sub (pe_ix ixAny (pv 5) (pe_un un_neg pe_int) (fun _ _ => rfl)) (pe_un un_neg pe_int) set_list))) pss_nil)
    (pss_one (ps_set (i := 7) sc_L_tree.nd rfl (Or.inl rfl) (pe_op oAddN (pv 7) pe_int)))))))))))
    (pss_one (ps_ret (pe_ix ixAny (pe_ix ixAny (pv 5) pe_int (fun _ _ => rfl)) pe_int (fun _ _ => rfl)))))))), ?_⟩
  refine ⟨by rw [sizeLine_eq]; show 0 ≤ _; decide, fun b hb => ⟨by rw [sizeLine_eq]; show 1 ≤ _; decide, fun p hp => ?_⟩⟩
  refine ⟨fun m σ H' => ∃ (F : Hp) (is : List Lay) (a : Addr) (xs : List V) (at0 pd : Nat) (r8 : Option V), σ = [some (.ref c), some (.int M), some (.int D), some (.int pl), some (.int k), some (.ref p), some (.int at0), some (.int pd), r8] ∧ Same H F ∧ Pile K (GoodIf M pl) D H' F p (is ++ [(a, xs)]) ∧
    Lens M is xs ∧ (is = [] ∨ xs.length < M) ∧ m = (cs.length - at0) * (M + 1) + lk M 0 (is ++ [(a, xs)]), ⟨_, H, [], b, [], 0, 0, none, rfl, Same.refl H, ?_, ⟨fun j e h => (nomatch h), Nat.zero_le _⟩, .inl rfl, rfl⟩, ?_⟩
  · have nbp : b ≠ p := fun z => by rw [← z, upd_same] at hp; cases hp
    have fp : H p = none := (same_new hb _).free hp
    refine ⟨upd_same, fun e he => ?_, by simp, fun e he => ?_, over_same fp (same_new hb _), fp, fun e he => ?_, fun j e he v hv => ?_, by simp⟩
    · cases List.mem_singleton.mp he
      rw [upd_ne nbp, upd_same]
    · cases List.mem_singleton.mp he; exact nbp
    · cases List.mem_singleton.mp he; exact hb
    · cases List.mem_singleton.mp (List.mem_of_getElem? he); exact nomatch hv
  rintro m _ H' ⟨F, is, a, xs, at0, pd, r8, rfl, hF, hP, hL, hd, rfl⟩
  obtain ⟨e0, he0⟩ : ∃ e0, (is ++ [(a, xs)])[0]? = some e0 := by cases is with
    | nil => exact ⟨_, rfl⟩
    | cons e is => exact ⟨_, rfl⟩
  have hm0 := List.mem_of_getElem? he0
  have hcase : (e0.2 = [] ∧ xs.length < cap M is.length) ∨ (is = [] ∧ ∃ v, xs = [v] ∧ e0 = (a, xs)) := by
    cases is with
    | nil =>
      cases he0
      have h1 := hL.hi
      match xs, h1 with
      | [], _ => exact .inl ⟨rfl, by show 0 < 1; decide⟩
      | [v], _ => exact .inr ⟨rfl, v, rfl, rfl⟩
      | _ :: _ :: _, h1 => exact absurd h1 (by show ¬ _ + 1 + 1 ≤ 1; omega)
    | cons e is =>
      cases he0
      have h1 := hL.lo 0 e0 rfl
      have : e0.2.length = 0 := by have : e0.2.length < 1 := h1; omega
      refine .inl ⟨List.length_eq_zero_iff.mp this, ?_⟩
      rcases hd with z | z
      · cases z
      · show xs.length < if _ = 0 then 1 else M
        rw [if_neg (by simp)]; exact z
  refine ⟨_, rfl, ixL (.inl (.inl hP.pl)) (atI_nat (j := 0) (by rw [List.getElem?_map, he0]; rfl)) ?_⟩
  refine ⟨by rw [sizeLine_eq]; show 0 ≤ _; decide, fun b1 hb1 => ?_⟩
  have hP1 := hP.grow ((Grow.refl hP.sf).new hb1 (.lst []))
  refine .inr (.inl ⟨e0.1, b1, e0.2, rfl, rfl, .inl (.inl (hP1.ls e0 hm0)), .inl (.inl upd_same), _, rfl, ?_⟩)
  generalize upd H' b1 (.lst []) = H1 at hP1 ⊢
  rcases hcase with ⟨he, hx⟩ | ⟨rfl, v, rfl, rfl⟩
  · rw [he]
    refine iteT ⟨_, fun σ' H' h => h, ?_⟩
    have hlx : xs.length < M ∨ (is = [] ∧ xs = []) := by
      cases is with
      | nil => exact .inr ⟨rfl, by have : xs.length < 1 := hx; exact List.length_eq_zero_iff.mp (by omega)⟩
      | cons e is =>
        have : xs.length < M := by
          have := hx
          unfold cap at this
          rw [if_neg (by simp)] at this
          exact this
        exact .inl this
    have hlx6 : xs.length < 6 := by
      rcases hlx with z | ⟨_, z⟩
      · omega
      · rw [z]; decide
    refine meet (fun σ H2 => ∃ (F : Hp) (is' : List Lay) (a' : Addr) (xs' : List V) (pd : Nat) (r8 : Option V), σ = [some (.ref c), some (.int M), some (.int D), some (.int pl), some (.int k), some (.ref p), some (.int at0), some (.int pd), r8] ∧ Same H F ∧ Pile K (GoodIf M pl) D H2 F p (is' ++ [(a', xs')]) ∧
      Lens M is' xs' ∧ (cs.length - (at0 + 1)) * (M + 1) + lk M 0 (is' ++ [(a', xs')]) < (cs.length - at0) * (M + 1) + lk M 0 (is ++ [(a, xs)])) (fun N hN => ?_) ?_
    · have hP1l : is.length + 1 ≤ D + 1 := by have := hP1.dp; rw [List.length_append] at this; exact this
      refine if_test (is.length + 1 ≤ D ∧ at0 < cs.length) (fun Q' hq1 hq2 => ?_) (fun ⟨hc1, hc2⟩ => ?_) ?_
      · refine ⟨_, rfl, _, _, rfl, .inl ⟨_, .inl (.inl hP1.pl), rfl⟩, _, rfl, .inl ⟨_, _, rfl, rfl, _, rfl, if2 (fun z1 => ?_) (fun z1 => hq2)⟩⟩
        refine ⟨_, rfl, _, rfl, _, _, rfl, .inl ⟨_, same_lst (hF.trans hP1.sf) hc, rfl⟩, .inl ⟨_, _, rfl, rfl, _, rfl, if2 (fun z2 => ?_) (fun z2 => hq2)⟩⟩
        rw [List.length_map] at z2
        obtain ⟨v, _, ev⟩ := at_ints (ns := cs) (k := (at0 : Int)) (by omega) z2
        refine ⟨_, rfl, _, rfl, ixL (same_lst (hF.trans hP1.sf) hc) ev ⟨_, _, rfl, rfl, by show (0 : Int) < 3; decide, _, _, rfl, rfl, _, rfl, ?_⟩⟩
        rw [List.length_map, List.length_append] at z1
        cases decide (v % 3 > 0) with
        | true => exact hq1 ⟨by have : ((is.length + 1 : Nat) : Int) ≤ D := z1; omega, by omega⟩
        | false => exact hq2
      · refine ⟨_, rfl, tyL (.inl (.inl hP1.pl)), by rw [sizeLine_eq]; show 0 ≤ _; decide, fun b2 hb2 => ?_⟩
        try dsimp (config := { proj := false, eta := false, zeta := false, iota := false }) only [tNil, tC]
        refine appL (new_at hb2 hP1.pl) (by rw [List.length_map, List.length_append, sizeLine_eq]; show _ + 1 < _; omega) ?_
        have hP2 := hP1.push hb2 (by rw [List.length_append]; exact hc1)
        rw [List.map_append] at hP2
        refine hN _ _ ⟨F, is ++ [(a, xs)], b2, [], pd, r8, rfl, hF, hP2, ⟨fun j e he => ?_, Nat.zero_le _⟩, ?_⟩
        · by_cases z : j < is.length
          · rw [List.getElem?_append_left z] at he; exact hL.lo j e he
          · rw [List.getElem?_append_right (by omega)] at he
            have := (List.getElem?_eq_some_iff.mp he).1
            have e0 : j - is.length = 0 := by simp at this; omega
            rw [e0] at he
            cases he
            have : j = is.length := by omega
            rw [this]; exact hx
        · rw [lk_app M (is ++ [(a, xs)])]
          have e1 : cap M (0 + (is ++ [(a, xs)]).length) = M := by unfold cap; rw [if_neg (by simp)]
          rw [e1]
          have : (cs.length - at0) * (M + 1) = (cs.length - (at0 + 1)) * (M + 1) + (M + 1) := by
            rw [show cs.length - at0 = (cs.length - (at0 + 1)) + 1 by omega, Nat.add_mul, Nat.one_mul]
          show _ + (_ + (M - 0)) < _
          rw [this, Nat.sub_zero]
          generalize (cs.length - (at0 + 1)) * (M + 1) = B
          omega
      · have epl : H1 p = some (.lst (is.map (fun (e : Lay) => V.ref e.1) ++ [V.ref a])) := by have := hP1.pl; rw [List.map_append] at this; exact this
        have ea : H1 a = some (.lst xs) := hP1.ls (a, xs) (by simp)
        refine ⟨_, rfl, 1, rfl, ixL (.inl (.inl epl)) (at_last _ _) ⟨tyL (.inl (.inl ea)), ?_⟩⟩
        dsimp (config := { proj := false, eta := false, zeta := false, iota := false }) only [tCons, tNil, tC]
        refine appL ea (by rw [sizeLine_eq]; omega) ?_
        have hno : ∀ v ∈ xs ++ [V.non], ∃ τ, ShAt K F v τ ∧ GoodIf M pl (D - is.length) τ := fun v hv => by
          rcases List.mem_append.mp hv with z | z
          · exact hP1.vl is.length (a, xs) (by simp) v z
          · cases List.mem_singleton.mp z
            exact ⟨.non, .non, fun _ => by cases (D - is.length) <;> rfl⟩
        have hP2 := hP1.top (xs ++ [.non]) hno
        generalize upd H1 a (.lst (xs ++ [.non])) = H2 at hP2 ⊢
        have hmm : ∀ ys : List V, ys.length = xs.length + 1 → Lens M is ys ∧ (cs.length - (at0 + 1)) * (M + 1) + lk M 0 (is ++ [(a, ys)]) < (cs.length - at0) * (M + 1) + lk M 0 (is ++ [(a, xs)]) := fun ys hy => by
          refine ⟨⟨hL.lo, by omega⟩, ?_⟩
          rw [lk_app, lk_app, Nat.zero_add]
          have h1 : (cs.length - (at0 + 1)) * (M + 1) ≤ (cs.length - at0) * (M + 1) := Nat.mul_le_mul_right _ (by omega)
          show _ + (_ + (_ - ys.length)) < _ + (_ + (_ - xs.length))
          generalize (cs.length - (at0 + 1)) * (M + 1) = B at *
          generalize (cs.length - at0) * (M + 1) = C at *
          omega
        dsimp (config := { eta := false, zeta := false, iota := false }) only []
        refine meet (fun σ H3 => ∃ (F : Hp) (ys : List V), σ = [some (.ref c), some (.int M), some (.int D), some (.int pl), some (.int k), some (.ref p), some (.int at0), some (.int pd), r8] ∧ Same H F ∧ Pile K (GoodIf M pl) D H3 F p (is ++ [(a, ys)]) ∧ ys.length = xs.length + 1) (fun N2 hN2 => ?_) ?_
        · refine ⟨_, rfl, _, rfl, .inl (.inl ⟨rfl, _, rfl, if2 (fun z => ?_) (fun z => ?_)⟩)⟩
          · have hpl : pl ≠ -1 := by have : ((pd : Nat) : Int) = pl := V.int.inj z; omega
            refine ⟨_, rfl, _, rfl, .non, .non, k, M, rfl, hk, hM, hM6, F, hP2.sf, .non, (fun z => nomatch z), fun F3 H3 v τ' g hv => ?_⟩
            have hP3 := hP2.grow g
            have epl3 : H3 p = some (.lst (is.map (fun (e : Lay) => V.ref e.1) ++ [V.ref a])) := by have := hP3.pl; rw [List.map_append] at this; exact this
            have ea3 : H3 a = some (.lst (xs ++ [.non])) := hP3.ls (a, xs ++ [.non]) (by simp)
            refine ⟨_, rfl, 1, rfl, ixL (.inl (.inl epl3)) (at_last _ _) ⟨1, rfl, a, _, -1, _, rfl, rfl, ea3, ix_last (by simp), ?_⟩⟩
            rw [set_last]
            refine hN2 _ _ ⟨F3, xs ++ [v], rfl, hF.trans g.ff, hP3.top (xs ++ [v]) (fun u hu => ?_), by simp⟩
            rcases List.mem_append.mp hu with z | z
            · exact hP3.vl is.length (a, xs ++ [.non]) (by simp) u (List.mem_append_left _ z)
            · cases List.mem_singleton.mp z
              exact ⟨τ', hv, fun e => absurd e hpl⟩
          · exact hN2 _ _ ⟨F, xs ++ [.non], rfl, hF, hP2, by simp⟩
        · rintro _ H3 ⟨F3, ys, rfl, hF3, hP3, hy⟩
          obtain ⟨l1, l2⟩ := hmm ys hy
          refine ⟨_, rfl, .inl ⟨_, _, rfl, rfl, ?_⟩⟩
          exact hN _ _ ⟨F3, is, a, ys, pd + 1, r8, rfl, hF3, hP3, l1, l2⟩
    · rintro _ H2 ⟨F2, is2, a2, xs2, pd2, r82, rfl, hF2, hP2, hL2, hm2⟩
      refine ⟨_, rfl, .inl ⟨_, _, rfl, rfl, ?_⟩⟩
      generalize (cs.length - at0) * (M + 1) + lk M 0 (is ++ [(a, xs)]) = m0 at hm2 ⊢
      clear hP1 hP hL hd hm0 he0 hx hlx hlx6 he
      refine ⟨fun m' σ H' => ∃ (F : Hp) (is : List Lay) (a : Addr) (xs : List V) (pd : Nat) (r8 : Option V), σ = [some (.ref c), some (.int M), some (.int D), some (.int pl), some (.int k), some (.ref p), some (.int (at0 + 1 : Nat)), some (.int pd), r8] ∧ Same H F ∧ Pile K (GoodIf M pl) D H' F p (is ++ [(a, xs)]) ∧
        Lens M is xs ∧ (cs.length - (at0 + 1)) * (M + 1) + lk M 0 (is ++ [(a, xs)]) < m0 ∧ m' = is.length, ⟨_, F2, is2, a2, xs2, pd2, r82, rfl, hF2, hP2, hL2, hm2, rfl⟩, ?_⟩
      rintro m' _ H3 ⟨F3, is3, a3, xs3, pd3, r83, rfl, hF3, hP3, hL3, hm3, rfl⟩
      have epl : H3 p = some (.lst (is3.map (fun (e : Lay) => V.ref e.1) ++ [V.ref a3])) := by have := hP3.pl; rw [List.map_append] at this; exact this
      have ea : H3 a3 = some (.lst xs3) := hP3.ls (a3, xs3) (by simp)
      have hh := hL3.hi
      refine ⟨_, rfl, _, _, rfl, .inl ⟨_, .inl (.inl epl), rfl⟩, _, _, rfl, rfl, _, rfl, if2 (fun z1 => ?_) (fun z1 => ?_)⟩
      · have hi0 : is3.length ≠ 0 := by
          have : (1 : Int) < ((is3.map (fun (e : Lay) => V.ref e.1) ++ [V.ref a3]).length : Nat) := z1
          rw [List.length_append, List.length_map] at this
          have e1 : [V.ref a3].length = 1 := rfl
          omega
        have hcap : cap M is3.length = M := by unfold cap; rw [if_neg hi0]
        refine ⟨_, rfl, 1, rfl, ixL (.inl (.inl epl)) (at_last _ _) ⟨_, _, rfl, .inl ⟨_, .inl (.inl ea), rfl⟩, _, rfl, .inl (.inl ⟨rfl, _, rfl, if2 (fun z2 => ?_) (fun z2 => ?_)⟩)⟩⟩
        · refine ⟨_, fun σ' H' h => h, ?_⟩
          have hM3 : xs3.length = M := by have := V.int.inj z2; omega
          rcases List.eq_nil_or_concat is3 with rfl | ⟨is4, ⟨a4, xs4⟩, rfl⟩
          · exact absurd rfl hi0
          rw [List.concat_eq_append] at *
          have hP4 := hP3.pop
          have na3 : a3 ≠ p := hP3.np (a3, xs3) (by simp)
          have ea4 : upd H3 p (.lst ((is4 ++ [(a4, xs4)]).map fun (e : Lay) => V.ref e.1)) a3 = some (.lst xs3) := by rw [upd_ne na3]; exact ea
          have hd3 : is4.length + 1 ≤ D := by have := hP3.dp; rw [List.length_append, List.length_append] at this; have e1 : [(a3, xs3)].length = 1 := rfl; have e2 : [(a4, xs4)].length = 1 := rfl; omega
          obtain ⟨bs, hb1, hb2, hb3⟩ := shapes (hP3.vl (is4 ++ [(a4, xs4)]).length (a3, xs3) (by simp))
          refine ⟨_, rfl, tyL (.inl (.inl epl)), p, _, .ref a3, rfl, rfl, epl, by simp, ?_⟩
          rw [List.dropLast_concat]
          generalize upd H3 p (.lst ((is4 ++ [(a4, xs4)]).map fun (e : Lay) => V.ref e.1)) = H4 at hP4 ea4 ⊢
          refine ⟨a3, xs3, rfl, .inl ⟨.inl (.inl ea4), fun l hl => ?_⟩⟩
          have g5 := (Grow.refl hP4.sf).keep hl (.tup xs3)
          have hP5 := hP4.grow g5
          have hsh : ShAt K (upd F3 l (.tup xs3)) (.ref l) (.tup bs) := .tup upd_same hb1 fun i v b hv hb => (hb3 i v b hv hb).same g5.ff
          have hgd : GoodIf M pl (D - is4.length) (.tup bs) := fun e => by
            rw [show D - is4.length = (D - (is4 ++ [(a4, xs4)]).length) + 1 by rw [List.length_append]; show _ = D - (_ + 1) + 1; omega]
            show (decide (bs.length = M) && bs.all _) = true
            rw [decide_eq_true (hb1 ▸ hM3), Bool.true_and, List.all_eq_true]
            exact fun b hb => hb2 b hb e
          generalize upd H4 l (.tup xs3) = H5 at g5 hP5 ⊢
          generalize upd F3 l (.tup xs3) = F5 at g5 hP5 hsh ⊢
          obtain ⟨hl4, hx4⟩ := hL3.down
          have hx4' : xs4.length < 7 := by
            have : xs4.length < cap M is4.length := hx4
            unfold cap at this
            split at this <;> omega
          have epl5 : H5 p = some (.lst (is4.map (fun (e : Lay) => V.ref e.1) ++ [V.ref a4])) := by have := hP5.pl; rw [List.map_append] at this; exact this
          have ea5 : H5 a4 = some (.lst xs4) := hP5.ls (a4, xs4) (by simp)
          refine ⟨_, rfl, 1, rfl, ixL (.inl (.inl epl5)) (at_last _ _) ⟨tyL (.inl (.inl ea5)), ?_⟩⟩
          refine ⟨_, rfl, ?_⟩
          dsimp (config := { proj := false, eta := false, zeta := false, iota := false }) only [tCons, tNil, tC]
          refine appL ea5 (by rw [sizeLine_eq]; omega) ?_
          have hno : ∀ v ∈ xs4 ++ [V.ref l], ∃ τ, ShAt K F5 v τ ∧ GoodIf M pl (D - is4.length) τ := fun v hv => by
            rcases List.mem_append.mp hv with z | z
            · exact hP5.vl is4.length (a4, xs4) (by simp) v z
            · cases List.mem_singleton.mp z
              exact ⟨_, hsh, hgd⟩
          have hP6 := hP5.top (xs4 ++ [.ref l]) hno
          generalize upd H5 a4 (.lst (xs4 ++ [.ref l])) = H6 at hP6 ⊢
          have hmm : ∀ ys : List V, ys.length = xs4.length + 1 → Lens M is4 ys ∧ (cs.length - (at0 + 1)) * (M + 1) + lk M 0 (is4 ++ [(a4, ys)]) < m0 := fun ys hy => by
            refine ⟨⟨hl4, by have : xs4.length < cap M is4.length := hx4; omega⟩, ?_⟩
            rw [lk_app, lk_app, Nat.zero_add] at hm3
            rw [lk_app, Nat.zero_add]
            have : xs4.length < cap M is4.length := hx4
            have h3 : (cs.length - (at0 + 1)) * (M + 1) + (lk M 0 is4 + (cap M is4.length - xs4.length) + (cap M (0 + (is4 ++ [(a4, xs4)]).length) - xs3.length)) < m0 := hm3
            show _ + (_ + (_ - ys.length)) < _
            generalize (cs.length - (at0 + 1)) * (M + 1) = B at *
            omega
          dsimp (config := { eta := false, zeta := false, iota := false }) only []
          refine meet (fun σ H7 => ∃ (F : Hp) (ys : List V), σ = [some (.ref c), some (.int M), some (.int D), some (.int pl), some (.int k), some (.ref p), some (.int (at0 + 1 : Nat)), some (.int pd3), some (.ref l)] ∧ Same H F ∧ Pile K (GoodIf M pl) D H7 F p (is4 ++ [(a4, ys)]) ∧ ys.length = xs4.length + 1) (fun N2 hN2 => ?_) ?_
          · refine ⟨_, rfl, _, rfl, .inl (.inl ⟨rfl, _, rfl, if2 (fun z => ?_) (fun z => ?_)⟩)⟩
            · have hpl : pl ≠ -1 := by have : ((pd3 : Nat) : Int) = pl := V.int.inj z; omega
              refine ⟨_, rfl, _, rfl, _, rfl, .ref l, .tup bs, k, M, rfl, hk, hM, hM6, F5, hP6.sf, hsh, (fun z => nomatch z), fun F7 H7 v τ' g hv => ?_⟩
              have hP7 := hP6.grow g
              have epl7 : H7 p = some (.lst (is4.map (fun (e : Lay) => V.ref e.1) ++ [V.ref a4])) := by have := hP7.pl; rw [List.map_append] at this; exact this
              have ea7 : H7 a4 = some (.lst (xs4 ++ [.ref l])) := hP7.ls (a4, xs4 ++ [.ref l]) (by simp)
              refine ⟨_, rfl, 1, rfl, ixL (.inl (.inl epl7)) (at_last _ _) ⟨1, rfl, a4, _, -1, _, rfl, rfl, ea7, ix_last (by simp), ?_⟩⟩
              rw [set_last]
              refine hN2 _ _ ⟨F7, xs4 ++ [v], rfl, hF3.trans (g5.ff.trans g.ff), hP7.top (xs4 ++ [v]) (fun u hu => ?_), by simp⟩
              rcases List.mem_append.mp hu with z | z
              · exact hP7.vl is4.length (a4, xs4 ++ [.ref l]) (by simp) u (List.mem_append_left _ z)
              · cases List.mem_singleton.mp z
                exact ⟨τ', hv, fun e => absurd e hpl⟩
            · exact hN2 _ _ ⟨F5, xs4 ++ [.ref l], rfl, hF3.trans g5.ff, hP6, by simp⟩
          · rintro _ H7 ⟨F7, ys, rfl, hF7, hP7, hy⟩
            obtain ⟨l1, l2⟩ := hmm ys hy
            refine ⟨_, rfl, .inl ⟨_, _, rfl, rfl, ?_⟩⟩
            exact ⟨_, by rw [List.length_append]; exact Nat.lt_succ_self _, F7, is4, a4, ys, pd3 + 1, _, rfl, hF7, hP7, l1, l2, rfl⟩
        · exact ⟨_, hm3, F3, is3, a3, xs3, at0 + 1, pd3, r83, rfl, hF3, hP3, hL3, .inr (by
            have : xs3.length ≠ M := fun e => z2 (congrArg (fun (n : Nat) => V.int (n : Int)) e)
            omega), rfl⟩
      · have hi0 : is3 = [] := by
          have : ¬ (1 : Int) < ((is3.map (fun (e : Lay) => V.ref e.1) ++ [V.ref a3]).length : Nat) := z1
          rw [List.length_append, List.length_map] at this
          have e1 : [V.ref a3].length = 1 := rfl
          exact List.length_eq_zero_iff.mp (by omega)
        exact iteF ⟨_, hm3, F3, is3, a3, xs3, at0 + 1, pd3, r83, rfl, hF3, hP3, hL3, .inl hi0, rfl⟩
  · refine iteF ?_
    obtain ⟨τ, hv, hg⟩ := hP1.vl 0 (a, [v]) rfl v List.mem_cons_self
    refine ⟨_, rfl, ixL (.inl (.inl hP1.pl)) (atI_nat (j := 0) rfl) (ixL (.inl (.inl (hP1.ls (a, [v]) (by simp)))) (atI_nat (j := 0) rfl) ?_)⟩
    exact q _ _ _ (hF.trans hP1.sf) (hv.same hP1.sf) hg
theorem isTr_tup {M n : Nat} {bs : List Sh} (h : isTr M n (.tup bs) = true) : ∃ k, n = k + 1 ∧ bs.length = M ∧ ∀ b ∈ bs, isTr M k b = true := by
  cases n with
  | zero => cases h
  | succ k =>
    have h' : (decide (bs.length = M) && bs.all (isTr M k)) = true := h
    rw [Bool.and_eq_true, List.all_eq_true] at h'
    exact ⟨k, rfl, of_decide_eq_true h'.1, h'.2⟩
theorem isTr_oth {M n : Nat} : isTr M n .oth = false := by cases n <;> rfl
theorem isTr_non {M n : Nat} : isTr M n .non = true := by cases n <;> rfl
def spChkTree (K : PySem.W.Frag) (C : Addr) : Sp := fun vs H Q E => ∃ (f : Addr) (L : List Nat) (d : Nat) (x : V) (τ : Sh), vs = [.ref f, x] ∧ SqT K H f [vt L, .int d] ∧ L.length ≤ 100 ∧ d ≤ 6 ∧ ShAt K H x τ ∧
  (isTr L.length d τ = true → ∀ H', Same H H' → Q x H') ∧ (isTr L.length d τ = false → ∀ H', Same H H' → E (.ref C) none H')
theorem ok_checked_tree (T : Txt K mg t) : FnOk P w K mg base (CX1 P w) 9 t.a_checked_tree t.fd_checked_tree ["frame", "thing"] (spChkTree K t.c_NoTree) := by
  refine T.F_checked_tree.okx (k := 8) sc_checked_tree (fun vs H Q E h => ?_) (fun cdv A outer s H vs Q E hr h => ?_)
  · obtain ⟨f, L, d, x, τ, rfl, _⟩ := h; rfl
  obtain ⟨f, L, d, x, τ, rfl, hf, hL, hd, hx, h1, h2⟩ := h
  have G_is_tree := ok_is_tree (P := P) (w := w) (base := base) T
  refine ⟨_, (pss_cons (ps_if (pt_not (pt_val (pe_call G_is_tree hr rfl T.m_is_tree T.F_is_tree.kp T.b_is_tree .nil pass1 (PAs.h (pas_cons (pv 0) (pas_cons (pv 1) pas_nil)))))) (pss_one (ps_raise raises1 rfl rfl T.m_NoTree T.x_NoTree PySem.F.excBase_ValueError (pa_cons pe_str pa_nil))) pss_nil)
    (pss_one (ps_ret (pv 1)))), ?_⟩
  refine ⟨_, rfl, _, rfl, f, L, d, x, τ, rfl, hf, hL, hd, hx, fun H' s' => ⟨_, rfl, ?_⟩⟩
  cases z : isTr L.length d τ with
  | true => exact iteF ⟨_, rfl, h1 z H' s'⟩
  | false => exact iteT ⟨by show 1 ≤ sizeLine; decide, h2 z H' s'⟩
mutual
def wr : Sh → List Nat
  | .non => [46]
  | .oth => []
  | .tup bs => 40 :: (wrs bs ++ [41])
def wrs : List Sh → List Nat
  | [] => []
  | b :: bs => wr b ++ wrs bs
end
theorem wr_tup (bs : List Sh) : wr (.tup bs) = 40 :: (wrs bs ++ [41]) := by rw [wr]
theorem wr_non : wr .non = [46] := by rw [wr]
theorem wrs_nil : wrs [] = [] := by rw [wrs]
theorem wrs_cons (b : Sh) (bs : List Sh) : wrs (b :: bs) = wr b ++ wrs bs := by rw [wrs]
theorem wrs_app (bs cs : List Sh) : wrs (bs ++ cs) = wrs bs ++ wrs cs := by
  induction bs with
  | nil => rw [wrs_nil]; rfl
  | cons b bs ih => rw [List.cons_append, wrs_cons, wrs_cons, ih, List.append_assoc]
theorem wrs_snoc (bs : List Sh) (b : Sh) : wrs (bs ++ [b]) = wrs bs ++ wr b := by rw [wrs_app, wrs_cons, wrs_nil, List.append_nil]
def rep (p : List Nat → Option (Sh × List Nat)) : Nat → List Nat → Option (List Sh × List Nat)
  | 0, r => some ([], r)
  | k + 1, r => match p r with
    | some (b, r1) => (match rep p k r1 with
      | some (bs, r2) => some (b :: bs, r2)
      | none => none)
    | none => none
def pr (M : Nat) : Nat → List Nat → Option (Sh × List Nat)
  | 0, l => if l.head? = some 46 then some (.non, l.tail) else none
  | n + 1, l => if l.head? = some 46 then some (.non, l.tail) else if l.head? = some 40 then (match rep (pr M n) M l.tail with
    | some (bs, r) => if r.head? = some 41 then some (.tup bs, r.tail) else none
    | none => none) else none
theorem head_tail {l : List Nat} {c : Nat} (h : l.head? = some c) : l = c :: l.tail := by
  cases l with
  | nil => cases h
  | cons a l => cases h; rfl
theorem rep_sound {M n : Nat} (ih : ∀ l τ r, pr M n l = some (τ, r) → isTr M n τ = true ∧ l = wr τ ++ r) : ∀ k l bs r, rep (pr M n) k l = some (bs, r) → bs.length = k ∧ (∀ b ∈ bs, isTr M n b = true) ∧ l = wrs bs ++ r
  | 0, l, bs, r, h => by cases h; exact ⟨rfl, (fun b hb => nomatch hb), by rw [wrs_nil]; rfl⟩
  | k + 1, l, bs, r, h => by
    unfold rep at h
    split at h
    · rename_i b r1 e1
      split at h
      · rename_i bs' r2 e2
        cases h
        obtain ⟨h1, h2⟩ := ih _ _ _ e1
        obtain ⟨g1, g2, g3⟩ := rep_sound ih k _ _ _ e2
        refine ⟨by rw [List.length_cons, g1], fun x hx => ?_, by rw [wrs_cons, h2, g3, List.append_assoc]⟩
        rcases List.mem_cons.mp hx with rfl | hx
        · exact h1
        · exact g2 x hx
      · cases h
    · cases h
theorem pr_sound {M : Nat} : ∀ n l τ r, pr M n l = some (τ, r) → isTr M n τ = true ∧ l = wr τ ++ r
  | 0, l, τ, r, h => by
    unfold pr at h
    split at h
    · rename_i e; cases h; exact ⟨isTr_non, by rw [wr_non]; exact head_tail e⟩
    · cases h
  | n + 1, l, τ, r, h => by
    unfold pr at h
    split at h
    · rename_i e; cases h; exact ⟨isTr_non, by rw [wr_non]; exact head_tail e⟩
    · split at h
      · rename_i e
        split at h
        · rename_i bs r1 e1
          split at h
          · rename_i e2
            cases h
            obtain ⟨g1, g2, g3⟩ := rep_sound (pr_sound n) M _ _ _ e1
            refine ⟨?_, ?_⟩
            · show (decide (bs.length = M) && bs.all (isTr M n)) = true
              rw [Bool.and_eq_true, List.all_eq_true]
              exact ⟨decide_eq_true g1, g2⟩
            · rw [wr_tup, List.cons_append, List.append_assoc]
              refine (head_tail e).trans ?_
              rw [g3]
              refine congrArg (fun z => 40 :: (wrs bs ++ z)) ?_
              exact head_tail e2
          · cases h
        · cases h
      · cases h
theorem rep_full {M n : Nat} (ih : ∀ τ r, isTr M n τ = true → pr M n (wr τ ++ r) = some (τ, r)) : ∀ (bs : List Sh) r, (∀ b ∈ bs, isTr M n b = true) → rep (pr M n) bs.length (wrs bs ++ r) = some (bs, r)
  | [], r, _ => by rw [wrs_nil]; rfl
  | b :: bs, r, h => by
    show rep (pr M n) (bs.length + 1) _ = _
    unfold rep
    rw [wrs_cons, List.append_assoc, ih b _ (h b List.mem_cons_self)]
    show (match rep (pr M n) bs.length (wrs bs ++ r) with | some (bs, r2) => some (b :: bs, r2) | none => none) = _
    rw [rep_full ih bs r fun x hx => h x (List.mem_cons_of_mem _ hx)]
theorem pr_full {M : Nat} : ∀ n τ r, isTr M n τ = true → pr M n (wr τ ++ r) = some (τ, r)
  | 0, .non, r, _ => by rw [wr_non]; rfl
  | n + 1, .non, r, _ => by rw [wr_non]; rfl
  | 0, .oth, r, h => by cases h
  | n + 1, .oth, r, h => by cases h
  | 0, .tup bs, r, h => by cases h
  | n + 1, .tup bs, r, h => by
    obtain ⟨k, e, hl, hb⟩ := isTr_tup h
    cases e
    rw [wr_tup]
    unfold pr
    rw [if_neg (fun z => by cases z), if_pos (by rfl)]
    show (match rep (pr M n) M ((wrs bs ++ [41]) ++ r) with | some (bs, r) => if r.head? = some 41 then some (Sh.tup bs, r.tail) else none | none => none) = _
    rw [List.append_assoc, ← hl]
    have := rep_full (M := M) (n := n) (fun τ r h => pr_full n τ r h) bs ([41] ++ r) hb
    rw [hl] at this ⊢
    rw [this]
    rfl
theorem wr_one {M n : Nat} {τ τ' : Sh} (h : isTr M n τ = true) (h' : isTr M n τ' = true) (e : wr τ = wr τ') : τ = τ' := by
  have h1 := pr_full n τ [] h
  have h2 := pr_full n τ' [] h'
  rw [e] at h1
  have := h1.symm.trans h2
  injection this with this
  injection this
def wrP : List (List Sh) → List Sh → List Nat
  | [], top => wrs top
  | b :: below, top => wrs b ++ 40 :: wrP below top
theorem wrP_snoc (below : List (List Sh)) (b top : List Sh) : wrP (below ++ [b]) top = wrP below b ++ 40 :: wrs top := by
  induction below with
  | nil => rfl
  | cons c below ih => show wrs c ++ 40 :: wrP (below ++ [b]) top = _; rw [ih]; show _ = (wrs c ++ 40 :: wrP below b) ++ _; rw [List.append_assoc]; rfl
theorem wrP_top (below : List (List Sh)) (top : List Sh) (b : Sh) : wrP below (top ++ [b]) = wrP below top ++ wr b := by
  induction below with
  | nil => exact wrs_snoc top b
  | cons c below ih => show wrs c ++ 40 :: wrP below (top ++ [b]) = (wrs c ++ 40 :: wrP below top) ++ wr b; rw [ih, List.append_assoc]; rfl
def rdS (s : List (List Sh) × List Sh) (c : Nat) : Option (List (List Sh) × List Sh) :=
  if c = 40 then some (s.1 ++ [s.2], []) else if c = 46 then some (s.1, s.2 ++ [.non]) else if c = 41 then (match s.1.getLast? with
    | some b => some (s.1.dropLast, b ++ [.tup s.2])
    | none => none) else none
def rdA : List Nat → List (List Sh) × List Sh → Option (List (List Sh) × List Sh)
  | [], s => some s
  | c :: l, s => match rdS s c with
    | some s' => rdA l s'
    | none => none
theorem rdS_sound {s s' : List (List Sh) × List Sh} {c : Nat} (h : rdS s c = some s') : wrP s'.1 s'.2 = wrP s.1 s.2 ++ [c] := by
  obtain ⟨below, top⟩ := s
  unfold rdS at h
  split at h
  · rename_i e; cases h; subst e; show wrP (below ++ [top]) [] = _; rw [wrP_snoc, wrs_nil]
  · split at h
    · rename_i e; cases h; subst e; show wrP below (top ++ [.non]) = _; rw [wrP_top, wr_non]
    · split at h
      · rename_i e
        subst e
        split at h
        · rename_i b eb
          cases h
          show wrP below.dropLast (b ++ [.tup top]) = wrP below top ++ [41]
          have : below = below.dropLast ++ [b] := by
            have hne : below ≠ [] := fun z => by rw [z] at eb; cases eb
            rw [List.getLast?_eq_some_getLast hne] at eb
            cases eb
            exact (List.dropLast_concat_getLast hne).symm
          rw [wrP_top, wr_tup]
          conv => rhs; rw [this]
          rw [wrP_snoc, List.append_assoc, List.cons_append]
        · cases h
      · cases h
theorem rdA_sound : ∀ {l : List Nat} {s s' : List (List Sh) × List Sh}, rdA l s = some s' → wrP s'.1 s'.2 = wrP s.1 s.2 ++ l
  | [], s, s', h => by cases h; rw [List.append_nil]
  | c :: l, s, s', h => by
    unfold rdA at h
    split at h
    · rename_i s1 e
      rw [rdA_sound h, rdS_sound e, List.append_assoc]; rfl
    · cases h
theorem rdA_app : ∀ (l m : List Nat) (s : List (List Sh) × List Sh), rdA (l ++ m) s = (rdA l s).bind (rdA m)
  | [], m, s => rfl
  | c :: l, m, s => by
    rw [List.cons_append]
    unfold rdA
    cases e : rdS s c with
    | none => rfl
    | some s1 => exact rdA_app l m s1
theorem rdA_snoc {l : List Nat} {c : Nat} {s s1 : List (List Sh) × List Sh} (h : rdA l s = some s1) : rdA (l ++ [c]) s = rdS s1 c := by
  rw [rdA_app, h]
  show rdA [c] s1 = _
  unfold rdA
  cases rdS s1 c <;> rfl
theorem rdA_wr {M : Nat} : ∀ n τ (below : List (List Sh)) (top : List Sh), isTr M n τ = true → rdA (wr τ) (below, top) = some (below, top ++ [τ])
  | n, .non, below, top, _ => by rw [wr_non]; rfl
  | n, .oth, below, top, h => by rw [isTr_oth] at h; cases h
  | 0, .tup bs, below, top, h => by cases h
  | n + 1, .tup bs, below, top, h => by
    obtain ⟨k, e, hl, hb⟩ := isTr_tup h
    cases e
    have go : ∀ (bs cs : List Sh) (below : List (List Sh)), (∀ b ∈ bs, isTr M n b = true) → rdA (wrs bs) (below, cs) = some (below, cs ++ bs) := by
      intro bs
      induction bs with
      | nil => intro cs below _; rw [wrs_nil, List.append_nil]; rfl
      | cons b bs ih2 =>
        intro cs below hb
        rw [wrs_cons, rdA_app, rdA_wr n b below cs (hb b List.mem_cons_self)]
        show rdA (wrs bs) (below, cs ++ [b]) = _
        rw [ih2 _ _ fun x hx => hb x (List.mem_cons_of_mem _ hx), List.append_assoc]; rfl
    rw [wr_tup]
    show rdA (wrs bs ++ [41]) (below ++ [top], []) = _
    rw [rdA_snoc (go bs [] (below ++ [top]) hb)]
    show (match (below ++ [top]).getLast? with | some b => some ((below ++ [top]).dropLast, b ++ [Sh.tup ([] ++ bs)]) | none => none) = _
    rw [List.getLast?_concat, List.dropLast_concat]; rfl
theorem str_nil0 : V.str (Str.ofString "") = vt [] := congrArg V.str (by decide +kernel)
theorem dot_str : V.str (Str.ofString ".") = vt [46] := congrArg V.str (by decide +kernel)
theorem opn_str : V.str (Str.ofString "(") = vt [40] := congrArg V.str (by decide +kernel)
theorem cls_str : V.str (Str.ofString ")") = vt [41] := congrArg V.str (by decide +kernel)
theorem wrs_flat : ∀ bs : List Sh, (bs.map wr).flatten = wrs bs
  | [] => by rw [wrs_nil]; rfl
  | b :: bs => by rw [wrs_cons, List.map_cons, List.flatten_cons, wrs_flat bs]
theorem wrs_len {B : Nat} : ∀ bs : List Sh, (∀ b ∈ bs, (wr b).length ≤ B) → (wrs bs).length ≤ bs.length * B
  | [], _ => by rw [wrs_nil]; exact Nat.zero_le _
  | b :: bs, h => by
    have h1 := h b List.mem_cons_self
    have h2 := wrs_len bs fun x hx => h x (List.mem_cons_of_mem _ hx)
    rw [wrs_cons, List.length_append, List.length_cons, Nat.add_mul, Nat.one_mul]; omega
theorem wr_len {M : Nat} : ∀ n τ, isTr M n τ = true → (wr τ).length ≤ 2 * (M + 1) ^ n
  | n, .non, _ => by
    rw [wr_non]
    have : 1 ≤ (M + 1) ^ n := Nat.pow_pos (by omega)
    show 1 ≤ _; omega
  | n, .oth, h => by rw [isTr_oth] at h; cases h
  | 0, .tup bs, h => by cases h
  | n + 1, .tup bs, h => by
    obtain ⟨k, e, hl, hb⟩ := isTr_tup h
    cases e
    have h1 := wrs_len bs fun b hbb => wr_len n b (hb b hbb)
    rw [hl] at h1
    have : 1 ≤ (M + 1) ^ n := Nat.pow_pos (by omega)
    have e1 : M * (2 * (M + 1) ^ n) = 2 * (M * (M + 1) ^ n) := by rw [Nat.mul_left_comm]
    have e2 : (M + 1) ^ (n + 1) = M * (M + 1) ^ n + (M + 1) ^ n := by rw [Nat.pow_succ, Nat.mul_comm, Nat.add_mul, Nat.one_mul]
    rw [wr_tup, List.length_cons, List.length_append]
    show _ + 1 + 1 ≤ _
    omega
theorem wr_le {M n : Nat} {τ : Sh} (hM : M ≤ 6) (hn : n ≤ 6) (h : isTr M n τ = true) : (wr τ).length ≤ 235298 := by
  have h1 := wr_len n τ h
  have h2 := pow_7 hM hn
  omega
def spWr (K : PySem.W.Frag) (n : Nat) : L2.Sp := fun vs H Q _ => ∃ (x : V) (τ : Sh) (M : Nat), vs = [x] ∧ M ≤ 6 ∧ n ≤ 6 ∧ ShAt K H x τ ∧ isTr M n τ = true ∧ ∀ H', Same H H' → Q (vt (wr τ)) H'
theorem written_step (T : Txt K mg t) (n : Nat) (sp : L2.Sp) (hsp : ∀ k, n = k + 1 → sp = spWr K k) (G_written : FnOk P w K mg base (CX1 P w) n t.a_written t.fd_written ["tree"] sp) :
    FnOk P w K mg base (CX1 P w) (n + 1) t.a_written t.fd_written ["tree"] (spWr K n) := by
  refine T.F_written.okn (k := n) sc_written (fun vs H Q E h => ?_) (fun cdv A outer s H vs Q E hr h => ?_)
  · obtain ⟨x, τ, M, rfl, _⟩ := h; rfl
  obtain ⟨x, τ, M, rfl, hM, hn, hx, ht, q⟩ := h
  refine ⟨_, (pss_cons (ps_if (pt_cmp (pc_isN (pv 0))) (pss_one (ps_ret pe_str)) pss_nil)
    (pss_one (ps_ret (pe_op oAddN (pe_op oAddN pe_str (pe_bm PySem.F.plainAttrs_str PySem.F.slot_str_join PySem.F.type_str_join mt_join pe_str (pa_cons (pe_lc (compSc_of (N := ["branch"]) (cap := [none]) (by kernel_rfl)) rfl (piAny (pv 0)) ⟨fun _ => (pg_name (i := 0) (show List.Nodup (["branch"] : List Str) by decide +kernel) rfl (Or.inl rfl)), fun _ => pf_nil, fun _ => (pe_call G_written hr rfl T.m_written T.F_written.kp T.b_written .nil pass1 (pa_cons (pv 0) pa_nil))⟩) pa_nil))) pe_str)))), ?_⟩
  rw [dot_str, opn_str, cls_str]
  cases hx with
  | non =>
    refine ⟨_, rfl, _, rfl, iteT ?_⟩
    have := q H (Same.refl H)
    rw [wr_non] at this
    exact this
  | oth h => rw [isTr_oth] at ht; cases ht
  | tup e hl h =>
    rename_i a vs bs
    have hwl := wr_le hM hn ht
    obtain ⟨k, rfl, hbM, hb⟩ := isTr_tup ht
    have hs := hsp k rfl
    subst hs
    rw [wr_tup, List.length_cons, List.length_append] at hwl
    have hwl : (wrs bs).length + 1 + 1 ≤ 235298 := hwl
    refine ⟨_, rfl, _, rfl, iteF ?_⟩
    refine ⟨rfl, _, rfl, .inr (.inl ⟨_, _, rfl, .inl (.inl e), fun D hD c => ?_⟩)⟩
    refine lc_grow walk_tup hD (fun _ j v => ∀ b, bs[j]? = some b → v = vt (wr b)) (fun _ _ _ _ _ h => h) (fun H1 s1 => .inl (.inl (s1 _ _ e))) (by rw [sizeLine_eq]; omega) ?_ ?_
    · intro i x H1 ys C hx s1 _ hC
      have hi := (List.getElem?_eq_some_iff.mp hx).1
      have hbi := List.getElem?_eq_getElem (show i < bs.length by omega)
      refine ⟨_, rfl, x, bs[i], M, rfl, hM, by omega, (h i x _ hx hbi).same s1, hb _ (List.getElem_mem _), fun H' s' => hC H' _ s' (fun b hb' => ?_)⟩
      rw [hbi] at hb'; cases hb'; rfl
    · intro H1 ys s1 hy hn' hv
      have hys : ys = (bs.map wr).map vt := by
        refine List.ext_getElem? fun j => ?_
        rw [List.getElem?_map, List.getElem?_map]
        cases z : bs[j]? with
        | none =>
          rw [List.getElem?_eq_none_iff] at z
          rw [List.getElem?_eq_none (by omega)]; rfl
        | some b =>
          have hj := (List.getElem?_eq_some_iff.mp z).1
          have := List.getElem?_eq_getElem (show j < ys.length by omega)
          rw [this, hv j _ this b z]; rfl
      subst hys
      refine ⟨[], D, bs.map wr, str_nil0, rfl, .inl (.inl (.inl hy)), ?_, ?_⟩
      · rw [wrs_flat]; show _ + _ * 0 ≤ _; omega
      rw [between_nil, wrs_flat]
      refine .inr (.inl (catX (by rw [sizeLine_eq]; show 1 + _ ≤ _; omega) ?_))
      refine .inr (.inl (catX (by rw [sizeLine_eq, List.length_append]; show 1 + _ + 1 ≤ _; omega) ?_))
      have := q H1 s1
      rw [wr_tup] at this
      exact this
theorem ok_written (T : Txt K mg t) : ∀ n, FnOk P w K mg base (CX1 P w) (n + 1) t.a_written t.fd_written ["tree"] (spWr K n)
  | 0 => written_step T 0 _ (fun _ h => nomatch h) ok_none
  | n + 1 => written_step T (n + 1) _ (fun k h => by cases h; rfl) (ok_written T n)
def spWrAny (K : PySem.W.Frag) : L2.Sp := fun vs H Q E => ∃ n, n ≤ 6 ∧ spWr K n vs H Q E
theorem ok_written_any (T : Txt K mg t) : FnOk P w K mg base (CX1 P w) 7 t.a_written t.fd_written ["tree"] (spWrAny K) := by
  refine ⟨fun vs H Q E ⟨n, _, h⟩ => (ok_written (P := P) (w := w) (base := base) T n).len vs H Q E h, fun A outer s H args us vs Q E hr h0 h1 h2 ⟨n, hn, h⟩ => ?_⟩
  exact ((ok_written (P := P) (w := w) (base := base) T n).mono (show n + 1 ≤ 7 by omega)).run A outer s H args us vs Q E hr h0 h1 h2 h
def spShow (K : PySem.W.Frag) (C : Addr) : L2.Sp := fun vs H Q E => ∃ (f : Addr) (L : List Nat) (d : Nat) (x : V) (τ : Sh), vs = [.ref f, x] ∧ SqT K H f [vt L, .int d] ∧ L.length ≤ 6 ∧ d ≤ 6 ∧ ShAt K H x τ ∧
  (isTr L.length d τ = true → ∀ H', Same H H' → Q (vt (wr τ)) H') ∧ (isTr L.length d τ = false → ∀ H', Same H H' → E (.ref C) none H')
theorem ok_show_tree (T : Txt K mg t) : FnOk P w K mg base (CX1 P w) 10 t.a_show_tree t.fd_show_tree ["frame", "tree"] (spShow K t.c_NoTree) := by
  refine T.F_show_tree.okx (k := 9) sc_show_tree (fun vs H Q E h => ?_) (fun cdv A outer s H vs Q E hr h => ?_)
  · obtain ⟨f, L, d, x, τ, rfl, _⟩ := h; rfl
  obtain ⟨f, L, d, x, τ, rfl, hf, hL, hd, hx, h1, h2⟩ := h
  have G_checked_tree := ok_checked_tree (P := P) (w := w) (base := base) T
  have G_written := (ok_written_any (P := P) (w := w) (base := base) T).mono (show 7 ≤ 9 by decide)
  refine ⟨_, (pss_one (ps_ret (pe_call G_written hr rfl T.m_written T.F_written.kp T.b_written .nil pass1 (pa_cons (pe_call G_checked_tree hr rfl T.m_checked_tree T.F_checked_tree.kp T.b_checked_tree .nil passes1 (PAs.h (pas_cons (pv 0) (pas_cons (pv 1) pas_nil)))) pa_nil)))), ?_⟩
  refine ⟨_, rfl, _, rfl, f, L, d, x, τ, rfl, hf, by omega, hd, hx, fun z H1 s1 => ?_, fun z H1 s1 => h2 z H1 s1⟩
  exact ⟨d, hd, x, τ, L.length, rfl, hL, hd, hx.same s1, z, fun H2 s2 => h1 z H2 (s1.trans s2)⟩
theorem cut_one (l : List Nat) (a : Nat) : cutL l (some (a : Int)) (some ((a : Int) + 1)) = (l.drop a).take 1 := by
  unfold cutL
  have e1 : HT.sIx l.length 0 (some (a : Int)) = min a l.length := HT.sIx_nat _ _ a
  have e2 : HT.sIx l.length l.length (some ((a : Int) + 1)) = min (a + 1) l.length := by
    have := HT.sIx_nat l.length l.length (a + 1)
    rw [← this]; congr 1
  rw [e1, e2]
  rcases Nat.lt_or_ge a l.length with z | z
  · rw [Nat.min_eq_left (by omega), Nat.min_eq_left (by omega), Nat.add_sub_cancel_left]
  · rw [Nat.min_eq_right (show l.length ≤ a by omega), Nat.min_eq_right (show l.length ≤ a + 1 by omega), List.drop_eq_nil_of_le z, List.drop_length, List.take_nil, List.take_nil]
def spSign : L2.Sp := fun vs H Q _ => ∃ (l : List Nat) (a : Nat), vs = [vt l, .int (a : Int)] ∧ l.length ≤ 1000000 ∧ Q (vt ((l.drop a).take 1)) H
theorem ok_sign_at (T : Txt K mg t) : FnOk P w K mg base (CX1 P w) 1 t.a_sign_at t.fd_sign_at ["text", "at"] spSign := by
  refine T.F_sign_at.okn (k := 0) sc_sign_at (fun vs H Q E h => ?_) (fun cdv A outer s H vs Q E hr h => ?_)
  · obtain ⟨l, a, rfl, _⟩ := h; rfl
  obtain ⟨l, a, rfl, hl, q⟩ := h
  refine ⟨_, (pss_one (ps_ret (pe_slice slAny (pv 0) (po_some (pv 1)) (po_some (pe_op oAddN (pv 1) pe_int))))), ?_⟩
  refine ⟨_, rfl, _, rfl, _, rfl, _, rfl, .inl ⟨_, _, rfl, rfl, _, rfl, .inr (cutT (by rw [sizeLine_eq]; omega) ?_)⟩⟩
  try dsimp (config := { proj := false, eta := false, zeta := false, iota := false }) only [tNil, tC]
  rw [cut_one]
  exact q
theorem head_one {l : List Nat} {c : Nat} : l.take 1 = [c] ↔ l.head? = some c := by
  cases l with
  | nil => exact ⟨(fun h => nomatch h), (fun h => nomatch h)⟩
  | cons a l => exact ⟨fun h => by cases h; rfl, fun h => by cases h; rfl⟩
def del (H : Hp) (D : Addr) : Hp := fun a => if a = D then none else H a
theorem del_same (H : Hp) (D : Addr) : Same (del H D) H := fun b o e => by
  unfold del at e
  split at e
  · cases e
  · exact e
theorem del_mono {H H' : Hp} (g : Same H H') (D : Addr) : Same (del H D) (del H' D) := fun b o e => by
  unfold del at e ⊢
  split at e
  · cases e
  · rename_i z; rw [if_neg z]; exact g _ _ e
theorem del_upd (H : Hp) (D : Addr) (o : HO) : del (upd H D o) D = del H D := by
  funext a
  unfold del
  split
  · rfl
  · rename_i z; exact if_neg z
theorem ShAt.del {M : Nat} {H : Hp} {D : Addr} {ys : List V} (hD : H D = some (.lst ys)) : ∀ {n : Nat} {v : V} {τ : Sh}, isTr M n τ = true → ShAt K H v τ → ShAt K (del H D) v τ := by
  intro n v τ ht h
  induction h generalizing n with
  | non => exact .non
  | oth _ => rw [isTr_oth] at ht; cases ht
  | tup e hl h ih =>
    rename_i a vs bs
    obtain ⟨k, _, _, hb⟩ := isTr_tup ht
    have hne : a ≠ D := fun z => by rw [z, hD] at e; cases e
    exact .tup (show Bp.del H D a = _ from (if_neg hne).trans e) hl fun i v b hv hbi => ih i v b hv hbi (hb b (List.mem_of_getElem? hbi))
theorem rep_succ (p : List Nat → Option (Sh × List Nat)) : ∀ k r, rep p (k + 1) r = (match rep p k r with
    | some (bs, r1) => (match p r1 with
      | some (b, r2) => some (bs ++ [b], r2)
      | none => none)
    | none => none)
  | 0, r => by
    show (match p r with | some (b, r1) => (match rep p 0 r1 with | some (bs, r2) => some (b :: bs, r2) | none => none) | none => none) = (match p r with | some (b, r2) => some ([] ++ [b], r2) | none => none)
    cases e : p r with
    | none => rfl
    | some x => obtain ⟨b, r1⟩ := x; rfl
  | k + 1, r => by
    rw [rep]
    cases e : p r with
    | none => simp only; rw [rep, e]
    | some x =>
      obtain ⟨b, r1⟩ := x
      simp only
      rw [rep_succ p k r1]
      conv => rhs; rw [rep, e]
      simp only
      cases e2 : rep p k r1 with
      | none => rfl
      | some y =>
        obtain ⟨bs, r2⟩ := y
        simp only
        cases e3 : p r2 with
        | none => rfl
        | some z => obtain ⟨b3, r3⟩ := z; rfl
theorem rep_none {p : List Nat → Option (Sh × List Nat)} {k : Nat} {r : List Nat} (h : rep p k r = none) : ∀ m, rep p (k + m) r = none
  | 0 => h
  | m + 1 => by rw [← Nat.add_assoc, rep_succ, rep_none h m]
def spRB (K : PySem.W.Frag) (C : Addr) (n : Nat) : L2.Sp := fun vs H Q E => ∃ (L l : List Nat) (a : Nat), vs = [vt L, vt l, .int (a : Int), .int (n : Int)] ∧ L.length ≤ 6 ∧ n ≤ 6 ∧ a ≤ l.length ∧ l.length ≤ 1000000 ∧
  (∀ τ j H' p v, pr L.length n (l.drop a) = some (τ, l.drop j) → j ≤ l.length → Same H H' → H' p = some (.tup [v, .int (j : Int)]) → ShAt K H' v τ → Q (.ref p) H') ∧ (pr L.length n (l.drop a) = none → ∀ H', Same H H' → E (.ref C) none H')
theorem pr_dot {M n : Nat} {l : List Nat} (h : l.head? = some 46) : pr M n l = some (.non, l.tail) := by
  cases n with
  | zero => exact if_pos h
  | succ n => exact if_pos h
theorem pr_zero {M : Nat} {l : List Nat} (h : l.head? ≠ some 46) : pr M 0 l = none := if_neg h
theorem pr_bad {M n : Nat} {l : List Nat} (h : l.head? ≠ some 46) (h2 : l.head? ≠ some 40) : pr M (n + 1) l = none := by
  unfold pr
  rw [if_neg h, if_neg h2]
theorem pr_opn {M n : Nat} {l : List Nat} (h : l.head? = some 40) : pr M (n + 1) l = (match rep (pr M n) M l.tail with
    | some (bs, r) => if r.head? = some 41 then some (.tup bs, r.tail) else none
    | none => none) := by
  have : l.head? ≠ some 46 := by rw [h]; exact fun z => by cases z
  rw [pr, if_neg this, if_pos h]
theorem tail_at (l : List Nat) (a : Nat) : (l.drop a).tail = l.drop (a + 1) := by rw [List.tail_drop]
theorem head_lt {l : List Nat} {a c : Nat} (h : (l.drop a).head? = some c) : a < l.length := by
  rcases Nat.lt_or_ge a l.length with z | z
  · exact z
  · rw [List.drop_eq_nil_of_le z] at h; cases h
theorem rb_step (T : Txt K mg t) (n : Nat) (sp : L2.Sp) (hsp : ∀ k, n = k + 1 → sp = spRB K t.c_NoTree k) (G_read_branch : FnOk P w K mg base (CX1 P w) (n + 1) t.a_read_branch t.fd_read_branch ["letters", "text", "at", "steps"] sp) :
    FnOk P w K mg base (CX1 P w) (n + 2) t.a_read_branch t.fd_read_branch ["letters", "text", "at", "steps"] (spRB K t.c_NoTree n) := by
  refine T.F_read_branch.okx (k := n + 1) sc_read_branch (fun vs H Q E h => ?_) (fun cdv A outer s H vs Q E hr h => ?_)
  · obtain ⟨L, l, a, rfl, _⟩ := h; rfl
  obtain ⟨L, l, a, rfl, hL, hn, ha, hl, q, qe⟩ := h
  have G_sign_at := (ok_sign_at (P := P) (w := w) (base := base) T).mono (show 1 ≤ n + 1 by omega)
  refine ⟨_, (pss_cons (ps_if (pt_cmpR (oEqA (hr.units0)) (pe_call G_sign_at hr rfl T.m_sign_at T.F_sign_at.kp T.b_sign_at .nil pass1 (PAs.h (pas_cons (pv 1) (pas_cons (pv 2) pas_nil)))) pe_str (nomark _)) (pss_one (ps_ret (pe_tup (PAs.h (pas_cons pe_non (pas_cons (pe_op oAddN (pv 2) pe_int) pas_nil)))))) pss_nil)
    (pss_cons (ps_if (PW.pt (pw_or (pt_cmpR (oEqA (hr.units0)) (pv 3) pe_int (nomark _)) (pw_or1 (pt_cmpR (oNeN (hr.units0)) (pe_call G_sign_at hr rfl T.m_sign_at T.F_sign_at.kp T.b_sign_at .nil pass1 (PAs.h (pas_cons (pv 1) (pas_cons (pv 2) pas_nil)))) pe_str (nomark _))))) (pss_one (ps_raise raises1 rfl rfl T.m_NoTree T.x_NoTree PySem.F.excBase_ValueError (pa_cons pe_str pa_nil))) pss_nil)
    (pss_cons (ps_set (i := 4) sc_read_branch.nd rfl (Or.inl rfl) (pe_lst pa_nil))
    (pss_cons (ps_aug (i := 2) sc_read_branch.nd rfl (Or.inl rfl) pe_int ipAdd)
    (pss_cons (ps_for PassesOwn.leaving rfl (piAny (pv 0)) (pg_name (i := 5) sc_read_branch.nd rfl (Or.inl rfl)) (pss_cons (ps_set (i := 6) sc_read_branch.nd rfl (Or.inl rfl) (pe_call G_read_branch hr rfl T.m_read_branch T.F_read_branch.kp T.b_read_branch .nil passes1 (PAs.h (pas_cons (pv 0) (pas_cons (pv 1) (pas_cons (pv 2) (pas_cons (pe_op op_sub (pv 3) pe_int) pas_nil)))))))
    (pss_cons (ps_expr (pe_bm PySem.F.plainAttrs_list PySem.F.slot_list_append PySem.F.type_list_append mt_app (pv 4) (pa_cons (pe_ix ixAny (pv 6) pe_int (fun _ _ => rfl)) pa_nil)))
    (pss_one (ps_set (i := 2) sc_read_branch.nd rfl (Or.inl rfl) (pe_ix ixAny (pv 6) pe_int (fun _ _ => rfl)))))))
    (pss_cons (ps_if (pt_cmpR (oNeN (hr.units0)) (pe_call G_sign_at hr rfl T.m_sign_at T.F_sign_at.kp T.b_sign_at .nil pass1 (PAs.h (pas_cons (pv 1) (pas_cons (pv 2) pas_nil)))) pe_str (nomark _)) (pss_one (ps_raise raises1 rfl rfl T.m_NoTree T.x_NoTree PySem.F.excBase_ValueError (pa_cons pe_str pa_nil))) pss_nil)
    (pss_one (ps_ret (pe_tup (PAs.h (pas_cons (pe_callTy call_tuple_of rfl T.m_tuple bt_tuple (pa_cons (pv 4) pa_nil)) (pas_cons (pe_op oAddN (pv 2) pe_int) pas_nil)))))))))))), ?_⟩
  rw [dot_str, opn_str, cls_str]
  refine ⟨_, rfl, _, rfl, l, a, rfl, hl, .inl ⟨rfl, _, rfl, if2 (fun e => ?_) (fun e => ?_)⟩⟩
  · have e := head_one.mp (vtx.mp e)
    have hlt := head_lt e
    refine ⟨_, rfl, .inl ⟨_, _, rfl, rfl, ?_⟩⟩
    try dsimp (config := { proj := false, eta := false, zeta := false, iota := false }) only [tNil, tC]
    rw [show ((a : Int) + 1) = ((a + 1 : Nat) : Int) by omega]
    refine ⟨by rw [sizeLine_eq]; show 2 ≤ _; decide, fun p hp => ?_⟩
    exact q .non (a + 1) _ p .non (by rw [pr_dot e, tail_at]) hlt (same_new hp _) upd_same .non
  have e46 : (l.drop a).head? ≠ some 46 := fun z => e (congrArg vt (head_one.mpr z))
  refine ⟨_, rfl, .inl ⟨rfl, _, rfl, if2 (fun z => ?_) (fun z => ?_)⟩⟩
  · have : n = 0 := by have := V.int.inj z; omega
    subst this
    exact ⟨by show 1 ≤ sizeLine; decide, qe (pr_zero e46) H (Same.refl H)⟩
  obtain ⟨k, rfl⟩ : ∃ k, n = k + 1 := ⟨n - 1, by cases n with | zero => exact absurd rfl z | succ n => rfl⟩
  have hs := hsp k rfl
  subst hs
  refine ⟨_, rfl, _, rfl, l, a, rfl, hl, .inl ⟨rfl, _, rfl, ifn2 (fun hne => ?_) (fun heq => ?_)⟩⟩
  · exact ⟨by show 1 ≤ sizeLine; decide, qe (pr_bad e46 fun z => hne (congrArg vt (head_one.mpr z))) H (Same.refl H)⟩
  have e40 := head_one.mp (vtx.mp heq)
  have hlt := head_lt e40
  have hop := pr_opn (M := L.length) (n := k) e40
  rw [tail_at] at hop
  refine ⟨by rw [sizeLine_eq]; show 0 ≤ _; decide, fun D hD => ?_⟩
  have s0 : Same H (upd H D (.lst [])) := same_new hD _
  have e0 : upd H D (.lst []) D = some (.lst []) := upd_same
  try dsimp (config := { proj := false, eta := false, zeta := false, iota := false }) only [tNil, tC]
  generalize upd H D (.lst []) = H0 at s0 e0 ⊢
  refine ⟨_, rfl, .inl ⟨_, _, rfl, rfl, ?_⟩⟩
  try dsimp (config := { proj := false, eta := false, zeta := false, iota := false }) only [tNil, tC]
  rw [show ((a : Int) + 1) = ((a + 1 : Nat) : Int) by omega]
  refine ⟨_, rfl, .inr (.inr ⟨_, rfl, ?_⟩)⟩
  refine for_walk (walk_tx L) (fun i σ H' => ∃ (bs : List Sh) (j : Nat) (ys : List V) (r5 r6 : Option V), σ = [some (vt L), some (vt l), some (.int (j : Int)), some (.int ((k + 1 : Nat) : Int)), some (.ref D), r5, r6] ∧ Same H H' ∧ H' D = some (.lst ys) ∧
      rep (pr L.length k) i (l.drop (a + 1)) = some (bs, l.drop j) ∧ j ≤ l.length ∧ ys.length = bs.length ∧ ∀ (m : Nat) (v : V) (b : Sh), ys[m]? = some v → bs[m]? = some b → ShAt K (del H' D) v b)
    ⟨[], a + 1, [], none, none, rfl, s0, e0, rfl, hlt, rfl, (fun m v b h => nomatch h)⟩ (fun _ _ _ _ _ => trivial) ?_ ?_
  · rintro i x _ H' hx ⟨bs, j, ys, r5, r6, rfl, g, eD, hrep, hj, hyl, hsh⟩
    have hi : i < L.length := by have := (List.getElem?_eq_some_iff.mp hx).1; rwa [List.length_map] at this
    have hbl := (rep_sound (pr_sound k) i _ _ _ hrep).1
    refine ⟨_, rfl, _, rfl, _, rfl, _, rfl, _, _, rfl, rfl, L, l, j, ?_, hL, by omega, hj, hl, fun τ j2 H2 p v hpr hj2 s2 ep hv => ?_, fun hno H2 s2 => ?_⟩
    · show [vt L, vt l, V.int (j : Int), V.int (((k + 1 : Nat) : Int) - 1)] = _
      rw [show (((k + 1 : Nat) : Int) - 1) = (k : Int) by omega]
    · have hT : SqT K H2 p [v, .int (j2 : Int)] := .inl (.inl ep)
      have eD2 := s2 _ _ eD
      refine ⟨_, rfl, tyL (.inl (.inl eD2)), _, rfl, ixT hT rfl ?_⟩
      try dsimp (config := { proj := false, eta := false, zeta := false, iota := false }) only [tNil, tC]
      refine appL eD2 (by rw [sizeLine_eq]; omega) ?_
      have hpD : p ≠ D := fun z => by rw [z, eD2] at ep; cases ep
      have hT2 : SqT K (upd H2 D (.lst (ys ++ [v]))) p [v, .int (j2 : Int)] := .inl (.inl ((if_neg hpD).trans ep))
      refine ⟨_, rfl, ixT hT2 rfl ?_⟩
      refine ⟨bs ++ [τ], j2, ys ++ [v], _, _, rfl, ?_, upd_same, ?_, hj2, by rw [List.length_append, List.length_append, hyl]; rfl, fun m u b hu hb => ?_⟩
      · exact over_same hD (g.trans s2)
      · rw [rep_succ, hrep]
        show (match pr L.length k (l.drop j) with | some (b, r2) => some (bs ++ [b], r2) | none => none) = _
        rw [hpr]
      · rw [del_upd]
        rcases Nat.lt_or_ge m ys.length with z | z
        · rw [List.getElem?_append_left z] at hu
          rw [List.getElem?_append_left (by omega)] at hb
          exact (hsh m u b hu hb).same (del_mono s2 D)
        · rw [List.getElem?_append_right z] at hu
          rw [List.getElem?_append_right (by omega), ← hyl] at hb
          cases zz : m - ys.length with
          | zero =>
            rw [zz] at hu hb
            cases hu
            cases hb
            exact hv.del eD2 (pr_sound k _ _ _ hpr).1
          | succ y => rw [zz] at hu; cases hu
    · refine qe ?_ H2 (g.trans s2)
      have h1 : rep (pr L.length k) (i + 1) (l.drop (a + 1)) = none := by
        rw [rep_succ, hrep]
        show (match pr L.length k (l.drop j) with | some (b, r2) => some (bs ++ [b], r2) | none => none) = _
        rw [hno]
      have h2 := rep_none h1 (L.length - (i + 1))
      rw [show i + 1 + (L.length - (i + 1)) = L.length by omega] at h2
      rw [hop, h2]
  · rintro _ H' ⟨bs, j, ys, r5, r6, rfl, g, eD, hrep, hj, hyl, hsh⟩
    rw [List.length_map] at hrep
    rw [hrep] at hop
    have hop : pr L.length (k + 1) (l.drop a) = if (l.drop j).head? = some 41 then some (Sh.tup bs, (l.drop j).tail) else none := hop
    refine ⟨_, rfl, _, rfl, l, j, rfl, hl, .inl ⟨rfl, _, rfl, ifn2 (fun hne => ?_) (fun heq => ?_)⟩⟩
    · refine ⟨by show 1 ≤ sizeLine; decide, qe ?_ H' g⟩
      rw [hop, if_neg fun z => hne (congrArg vt (head_one.mpr z))]
    have e41 := head_one.mp (vtx.mp heq)
    rw [if_pos e41, tail_at] at hop
    refine ⟨_, rfl, D, ys, rfl, .inl ⟨.inl (.inl eD), fun p1 hp1 => ?_⟩⟩
    refine ⟨_, rfl, .inl ⟨_, _, rfl, rfl, ?_⟩⟩
    try dsimp (config := { proj := false, eta := false, zeta := false, iota := false }) only [tNil, tC]
    rw [show ((j : Int) + 1) = ((j + 1 : Nat) : Int) by omega]
    refine ⟨by rw [sizeLine_eq]; show 2 ≤ _; decide, fun p2 hp2 => ?_⟩
    refine q (.tup bs) (j + 1) _ p2 (.ref p1) hop (head_lt e41) (new_same hp2 (new_same hp1 g)) upd_same ?_
    refine .tup (new_at hp2 upd_same) hyl fun m v b hv hb => (hsh m v b hv hb).same ?_
    exact (del_same H' D).trans ((same_new hp1 _).trans (same_new hp2 _))
theorem ok_read_branch (T : Txt K mg t) : ∀ n, FnOk P w K mg base (CX1 P w) (n + 2) t.a_read_branch t.fd_read_branch ["letters", "text", "at", "steps"] (spRB K t.c_NoTree n)
  | 0 => rb_step T 0 _ (fun _ h => nomatch h) ok_none
  | n + 1 => rb_step T (n + 1) _ (fun k h => by cases h; rfl) (ok_read_branch T n)
def spRBAny (K : PySem.W.Frag) (C : Addr) : L2.Sp := fun vs H Q E => ∃ n, n ≤ 6 ∧ spRB K C n vs H Q E
theorem ok_rb_any (T : Txt K mg t) : FnOk P w K mg base (CX1 P w) 8 t.a_read_branch t.fd_read_branch ["letters", "text", "at", "steps"] (spRBAny K t.c_NoTree) := by
  refine ⟨fun vs H Q E ⟨n, _, h⟩ => (ok_read_branch (P := P) (w := w) (base := base) T n).len vs H Q E h, fun A outer s H args us vs Q E hr h0 h1 h2 ⟨n, hn, h⟩ => ?_⟩
  exact ((ok_read_branch (P := P) (w := w) (base := base) T n).mono (show n + 2 ≤ 8 by omega)).run A outer s H args us vs Q E hr h0 h1 h2 h
def NTx (K : PySem.W.Frag) (H : Hp) (x : V) : Prop := ∃ ty, TyOf K H x ty ∧ PySem.W.kitOne K ty (.type "str") = some false
def spRT (K : PySem.W.Frag) (C : Addr) : L2.Sp := fun vs H Q E => ∃ (f : Addr) (L : List Nat) (d : Nat) (x : V), vs = [.ref f, x] ∧ SqT K H f [vt L, .int d] ∧ L.length ≤ 6 ∧ d ≤ 6 ∧
  ((NTx K H x ∧ ∀ H', Same H H' → E (.ref C) none H') ∨ ∃ l : List Nat, x = vt l ∧ l.length ≤ 1000000 ∧ (∀ τ, isTr L.length d τ = true → l = wr τ → ∀ H' v, Same H H' → ShAt K H' v τ → Q v H') ∧ ((∀ τ, isTr L.length d τ = true → l ≠ wr τ) → ∀ H', Same H H' → E (.ref C) none H'))
theorem ok_read_tree (T : Txt K mg t) : FnOk P w K mg base (CX1 P w) 9 t.a_read_tree t.fd_read_tree ["frame", "text"] (spRT K t.c_NoTree) := by
  refine T.F_read_tree.okx (k := 8) sc_read_tree (fun vs H Q E h => ?_) (fun cdv A outer s H vs Q E hr h => ?_)
  · obtain ⟨f, L, d, x, rfl, _⟩ := h; rfl
  obtain ⟨f, L, d, x, rfl, hf, hL, hd, h⟩ := h
  have G_read_branch := ok_rb_any (P := P) (w := w) (base := base) T
  refine ⟨_, (pss_cons (ps_if (pt_not (pt_val (pe_callB isiAny rfl T.m_isinstance bt_isinstance (PAs.h (pas_cons (pv 1) (pas_cons (pe_bltn (v := .ty "str") rfl T.m_str bt_str rfl) pas_nil)))))) (pss_one (ps_raise raises1 rfl rfl T.m_NoTree T.x_NoTree PySem.F.excBase_ValueError (pa_cons pe_str pa_nil))) pss_nil)
    (pss_cons (ps_set (i := 2) sc_read_tree.nd rfl (Or.inl rfl) (pe_call G_read_branch hr rfl T.m_read_branch T.F_read_branch.kp T.b_read_branch .nil passes1 (PAs.h (pas_cons (pe_ix ixAny (pv 0) pe_int (fun _ _ => rfl)) (pas_cons (pv 1) (pas_cons pe_int (pas_cons (pe_ix ixAny (pv 0) pe_int (fun _ _ => rfl)) pas_nil)))))))
    (pss_cons (ps_if (pt_cmpR (oNeN (hr.units0)) (pe_ix ixAny (pv 2) pe_int (fun _ _ => rfl)) (pe_callB call_len rfl T.m_len bt_len (pa_cons (pv 1) pa_nil)) (nomark _)) (pss_one (ps_raise raises1 rfl rfl T.m_NoTree T.x_NoTree PySem.F.excBase_ValueError (pa_cons pe_str pa_nil))) pss_nil)
    (pss_one (ps_ret (pe_ix ixAny (pv 2) pe_int (fun _ _ => rfl))))))), ?_⟩
  rcases h with ⟨⟨ty, hty, ek⟩, qe⟩ | ⟨l, rfl, hl, q, qe⟩
  · exact ⟨_, rfl, .inl ⟨_, ty, _, false, rfl, hty, ek, false, rfl, iteT ⟨by show 1 ≤ sizeLine; decide, qe H (Same.refl H)⟩⟩⟩
  refine ⟨_, rfl, .inl ⟨_, _, _, true, rfl, .str _, kit_same K _, true, rfl, iteF ?_⟩⟩
  refine ⟨_, rfl, ixT hf rfl ⟨_, rfl, _, rfl, ixT hf rfl ?_⟩⟩
  refine ⟨d, hd, L, l, 0, rfl, hL, hd, Nat.zero_le _, hl, fun τ j H1 p v hpr hj s1 ep hv => ?_, fun hno H1 s1 => qe (fun τ ht e => ?_) H1 s1⟩
  · rw [List.drop_zero] at hpr
    obtain ⟨ht, e⟩ := pr_sound d _ _ _ hpr
    have hT : SqT K H1 p [v, .int (j : Int)] := .inl (.inl ep)
    refine ⟨_, rfl, ixT hT rfl ⟨_, rfl, _, _, rfl, lenvS (by rw [sizeLine_eq]; omega), .inl ⟨rfl, _, rfl, ifn2 (fun hne => ?_) (fun heq => ?_)⟩⟩⟩
    · refine ⟨by show 1 ≤ sizeLine; decide, qe (fun τ' ht' e' => hne ?_) H1 s1⟩
      have h1 := pr_full d τ' [] ht'
      rw [List.append_nil, ← e', hpr] at h1
      injection h1 with h1
      have h2 := congrArg List.length (congrArg Prod.snd h1)
      have h2 : (l.drop j).length = 0 := h2
      rw [List.length_drop] at h2
      exact congrArg (fun n : Nat => V.int (n : Int)) (show j = l.length by omega)
    · have hjl : j = l.length := by have := V.int.inj heq; omega
      subst hjl
      rw [List.drop_length, List.append_nil] at e
      exact ⟨_, rfl, ixT hT rfl (q τ ht e H1 v s1 hv)⟩
  · rw [List.drop_zero, e] at hno
    have h1 := pr_full d τ [] ht
    rw [List.append_nil, hno] at h1
    cases h1
def E2 (K : PySem.W.Frag) (M : Nat) (F : Hp) (r : V × Sh × Nat) : Prop := ∃ a u v, r.1 = .ref a ∧ F a = some (.tup [u, v]) ∧ ShAt K F u r.2.1 ∧ ShAt K F v r.2.1 ∧ isTr M r.2.2 r.2.1 = true
theorem E2.same {M : Nat} {F F' : Hp} {r : V × Sh × Nat} (h : E2 K M F r) (g : Same F F') : E2 K M F' r := by
  obtain ⟨a, u, v, h1, h2, h3, h4, h5⟩ := h
  exact ⟨a, u, v, h1, g _ _ h2, h3.same g, h4.same g, h5⟩
def spAlike (K : PySem.W.Frag) : L2.Sp := fun vs H Q _ => ∃ (x y : V) (τ : Sh) (M d : Nat), vs = [x, y] ∧ M ≤ 6 ∧ d ≤ 6 ∧ ShAt K H x τ ∧ ShAt K H y τ ∧ isTr M d τ = true ∧ ∀ H', Same H H' → Q (.bl true) H'
theorem ok_L_alike (T : Txt K mg t) : FnOk P w K mg base (CX1 P w) 1 t.a_L_alike t.fd_L_alike ["found", "due"] (spAlike K) := by
  refine T.F_L_alike.okn (k := 0) sc_L_alike (fun vs H Q E h => ?_) (fun cdv A outer s H vs Q E hr h => ?_)
  · obtain ⟨x, y, τ, M, d, rfl, _⟩ := h; rfl
  obtain ⟨x, y, τ, M, d, rfl, hM, hd, hx, hy, ht, q⟩ := h
  refine ⟨_, (pss_cons (ps_set (i := 2) sc_L_alike.nd rfl (Or.inl rfl) (pe_lst (pa_cons (pe_tup (PAs.h (pas_cons (pv 0) (pas_cons (pv 1) pas_nil)))) pa_nil)))
    (pss_cons (ps_while PassesOwn.never (pt_cmpR (oNeW (hr.units0)) (pv 2) (pe_lst pa_nil) (nomark _)) (pss_cons (ps_asg (pe_bm0 PySem.F.plainAttrs_list PySem.F.slot_list_pop PySem.F.type_list_pop mt_popL (pv 2)) (pg_tup rfl (pgs_cons (pg_name (i := 3) sc_L_alike.nd rfl (Or.inl rfl)) (pgs_cons (pg_name (i := 4) sc_L_alike.nd rfl (Or.inl rfl)) pgs_nil))))
    (pss_one (ps_if (PW.pt (pw_or (pt_cmp (pc_isN (pv 4))) (pw_or1 (pt_cmp (pc_isN (pv 3)))))) (pss_one (ps_if (PW.pt (pw_or (pt_cmp (pc_notN (pv 3))) (pw_or1 (pt_cmp (pc_notN (pv 4)))))) (pss_one (ps_ret pe_bl)) pss_nil)) (pss_cons (ps_if (PW.pt (pw_or (pt_not (pt_val (pe_callB isiAny rfl T.m_isinstance bt_isinstance (PAs.h (pas_cons (pv 3) (pas_cons (pe_bltn (v := .ty "tuple") rfl T.m_tuple bt_tuple rfl) pas_nil)))))) (pw_or1 (pt_cmpR (oNeW (hr.units0)) (pe_callB call_len rfl T.m_len bt_len (pa_cons (pv 3) pa_nil)) (pe_callB call_len rfl T.m_len bt_len (pa_cons (pv 4) pa_nil)) (nomark _))))) (pss_one (ps_ret pe_bl)) pss_nil)
    (pss_one (ps_for PassesOwn.never rfl (pi_zipT rfl T.m_zip bt_zip (PAs.h (pas_cons (pv 3) (pas_cons (pv 4) pas_nil)))) (pg_tup rfl (pgs_cons (pg_name (i := 5) sc_L_alike.nd rfl (Or.inl rfl)) (pgs_cons (pg_name (i := 6) sc_L_alike.nd rfl (Or.inl rfl)) pgs_nil))) (pss_one (ps_expr (pe_bm PySem.F.plainAttrs_list PySem.F.slot_list_append PySem.F.type_list_append mt_app (pv 2) (pa_cons (pe_tup (PAs.h (pas_cons (pv 5) (pas_cons (pv 6) pas_nil)))) pa_nil)))))))))))
    (pss_one (ps_ret pe_bl)))), ?_⟩
  repeat array_get_dec
  refine ⟨by rw [sizeLine_eq]; show 2 ≤ _; decide, fun p0 h0 => ⟨by rw [sizeLine_eq]; show 1 ≤ _; decide, fun p hp => ?_⟩⟩
  have hB := pow_7 hM hd
  refine ⟨fun m σ H' => ∃ (F : Hp) (rs : List (V × Sh × Nat)) (r3 r4 r5 r6 : Option V), σ = [some x, some y, some (.ref p), r3, r4, r5, r6] ∧ Same H F ∧ Same F H' ∧ F p = none ∧ H' p = some (.lst (rs.map (·.1))) ∧
    (∀ r ∈ rs, E2 K M F r) ∧ m = wtP M rs ∧ wtP M rs ≤ (M + 1) ^ d, ⟨_, upd H p0 (.tup [x, y]), [(.ref p0, τ, d)], none, none, none, none, rfl, same_new h0 _, same_new hp _, hp, upd_same, ?_, rfl, ?_⟩, ?_⟩
  · intro r hr
    cases List.mem_singleton.mp hr
    exact ⟨p0, x, y, rfl, upd_same, hx.same (same_new h0 _), hy.same (same_new h0 _), ht⟩
  · rw [wtP_one]; exact Nat.le_refl _
  rintro m _ H' ⟨F, rs, r3, r4, r5, r6, rfl, hF, hS, hFp, hH, hE, rfl, hw⟩
  refine ⟨_, rfl, by rw [sizeLine_eq]; show 0 ≤ _; decide, fun b hb => ?_⟩
  refine .inr ⟨p, b, rs.map (·.1), rfl, rfl, .inl (.inl (new_at hb hH)), .inl (.inl upd_same), _, rfl, ?_⟩
  have hS1 : Same F (upd H' b (.lst [])) := new_same hb hS
  have hH1 := new_at (o := .lst []) hb hH
  rcases List.eq_nil_or_concat rs with rfl | ⟨is, ⟨u, τ', l⟩, rfl⟩
  · exact iteF (q _ (hF.trans hS1))
  rw [List.concat_eq_append] at *
  have ek : (!((is ++ [(u, τ', l)]).map (fun r => r.1)).isEmpty) = true := by simp
  show if (!((is ++ [(u, τ', l)]).map (fun r => r.1)).isEmpty) = true then _ else _
  rw [ek]
  refine iteT ⟨_, fun σ' H' h => h, ?_⟩
  obtain ⟨a, v1, v2, e1, e2, hv1, hv2, htr⟩ := hE (u, τ', l) (List.mem_append_right _ List.mem_cons_self)
  cases e1
  have hEi : ∀ r ∈ is, E2 K M F r := fun r hr => hE r (List.mem_append_left _ hr)
  rw [List.map_append] at hH1
  have hS2 : Same F (upd (upd H' b (.lst [])) p (.lst (is.map (·.1)))) := over_same hFp hS1
  have hH2 : upd (upd H' b (.lst [])) p (.lst (is.map (·.1))) p = some (.lst (is.map (·.1))) := upd_same
  refine ⟨_, rfl, tyL (.inl (.inl hH1)), p, _, .ref a, rfl, rfl, hH1, by simp, ?_⟩
  rw [show ((is.map (·.1)) ++ [(V.ref a, τ', l)].map (·.1)).dropLast = is.map (·.1) by simp]
  generalize upd (upd H' b (.lst [])) p (.lst (is.map (·.1))) = H2 at hS2 hH2 ⊢
  refine ⟨a, _, rfl, .inl (.inl (hS2 _ _ e2)), rfl, _, _, rfl, _, _, rfl, rfl, ?_⟩
  have hwt : wtP M (is ++ [(V.ref a, τ', l)]) = wtP M is + (M + 1) ^ l := by rw [wtP_app, wtP_one]
  rw [hwt] at hw
  have hpos : 0 < (M + 1) ^ l := Nat.pow_pos (by omega)
  cases hv1 with
  | non =>
    cases hv2
    refine ⟨_, rfl, _, rfl, iteT ?_⟩
    refine ⟨_, rfl, _, rfl, iteF ⟨_, rfl, _, rfl, iteF ?_⟩⟩
    refine ⟨_, ?_, F, is, _, _, _, _, rfl, hF, hS2, hFp, hH2, hEi, rfl, by omega⟩
    rw [hwt]; omega
  | oth h => rw [isTr_oth] at htr; cases htr
  | tup ea hla ha =>
    rename_i a1 vs bs
    cases hv2 with
    | tup eb hlb hb2 =>
    rename_i a2 ws
    obtain ⟨k, rfl, hbl, hbs⟩ := isTr_tup htr
    refine ⟨_, rfl, _, rfl, iteF ⟨_, rfl, _, rfl, iteF ?_⟩⟩
    refine ⟨_, rfl, .inl ⟨_, _, _, true, rfl, .tup (hS2 _ _ ea), kit_same K _, true, rfl, iteF ?_⟩⟩
    refine ⟨_, rfl, _, _, rfl, .inr ⟨_, .inl (.inl (hS2 _ _ ea)), rfl⟩, _, rfl, _, _, rfl, .inr ⟨_, .inl (.inl (hS2 _ _ eb)), rfl⟩, .inl (.inl ⟨rfl, _, rfl, ifnF (congrArg (fun n : Nat => V.int (n : Int)) (hla.trans hlb.symm)) ?_⟩)⟩
    refine ⟨_, rfl, _, rfl, a1, a2, vs, ws, rfl, hS2 _ _ ea, hS2 _ _ eb, ?_⟩
    refine for_zipT (hla.trans hlb.symm) (fun i σ H3 => ∃ (F2 : Hp) (es : List (V × Sh × Nat)) (r5 r6 : Option V), σ = [some x, some y, some (.ref p), some (.ref a1), some (.ref a2), r5, r6] ∧ Same F F2 ∧ Same F2 H3 ∧ F2 p = none ∧
      H3 p = some (.lst ((is ++ es).map (·.1))) ∧ es.length = i ∧ ∀ r ∈ es, E2 K M F2 r ∧ r.2.2 = k) ⟨F, [], r5, r6, rfl, Same.refl _, hS2, hFp, by rw [List.append_nil]; exact hH2, rfl, fun r h => nomatch h⟩ ?_ ?_ ?_
    · rintro i σ H3 ⟨F2, es, _, _, _, s1, s2, _⟩
      exact ⟨s2 _ _ (s1 _ _ ea), s2 _ _ (s1 _ _ eb)⟩
    · rintro i c v _ H3 q1 hc hv ⟨F2, es, _, _, rfl, s1, s2, f2, h2, hn, hr⟩ hq1
      have hi := (List.getElem?_eq_some_iff.mp hc).1
      have hbi := List.getElem?_eq_getElem (show i < bs.length by omega)
      have s2 : Same F2 (upd H3 q1 (.tup [c, v])) := new_same hq1 s2
      have h2 := new_at (o := .tup [c, v]) hq1 h2
      generalize upd H3 q1 (.tup [c, v]) = H4 at s2 h2 ⊢
      refine ⟨_, rfl, tyL (.inl (.inl h2)), ?_⟩
      refine ⟨_, rfl, _, rfl, by rw [sizeLine_eq]; show 2 ≤ _; decide, fun p1 hp1 => ?_⟩
      have f3 : F2 p1 = none := s2.free hp1
      have np : p ≠ p1 := fun z => by rw [z, hp1] at h2; cases h2
      try dsimp (config := { proj := false, eta := false, zeta := false, iota := false }) only [tNil, tC]
      refine appL (new_at hp1 h2) ?_ ?_
      · have := wtP_len M is
        have : is.length ≤ 117649 := by omega
        rw [sizeLine_eq, List.length_map, List.length_append]; omega
      refine ⟨upd F2 p1 (.tup [c, v]), es ++ [(.ref p1, bs[i], k)], _, _, rfl, s1.trans (same_new f3 _), ?_, by rw [upd_ne np]; exact f2, ?_, by rw [List.length_append, hn]; rfl, ?_⟩
      · refine over_same (by rw [upd_ne np]; exact f2) (fun b' o' hb' => ?_)
        by_cases z : b' = p1
        · rw [z, upd_same] at hb'; rw [z, upd_same]; exact hb'
        · rw [upd_ne z] at hb'; rw [upd_ne z]; exact s2 _ _ hb'
      · rw [upd_same, ← List.append_assoc, List.map_append (l₁ := is ++ es)]; rfl
      · intro r hr'
        rcases List.mem_append.mp hr' with z | z
        · exact ⟨(hr r z).1.same (same_new f3 _), (hr r z).2⟩
        · cases List.mem_singleton.mp z
          exact ⟨⟨p1, c, v, rfl, upd_same, (ha i c _ hc hbi).same (s1.trans (same_new f3 _)), (hb2 i v _ hv hbi).same (s1.trans (same_new f3 _)), hbs _ (List.getElem_mem _)⟩, rfl⟩
    · rintro _ H3 ⟨F2, es, _, _, rfl, s1, s2, f2, h2, hn, hr⟩
      have hM' : es.length = M := by omega
      have hw2 := wtP_all M k es (fun r hr' => (hr r hr').2)
      have hp1 : 0 < (M + 1) ^ k := Nat.pow_pos (by omega)
      have hpw : (M + 1) ^ (k + 1) = M * (M + 1) ^ k + (M + 1) ^ k := by rw [Nat.pow_succ, Nat.mul_comm, Nat.add_mul, Nat.one_mul]
      rw [hM'] at hw2
      refine ⟨_, ?_, F2, is ++ es, _, _, _, _, rfl, hF.trans s1, s2, f2, h2, fun r hr' => ?_, rfl, ?_⟩
      · rw [hwt, wtP_app, hw2, hpw]; omega
      · rcases List.mem_append.mp hr' with z | z
        · exact (hEi r z).same s1
        · exact (hr r z).1
      · rw [wtP_app, hw2]; rw [hpw] at hw; omega
structure PL (H F : Hp) (p : Addr) (al : List Lay) : Prop where
  pl : H p = some (.lst (al.map fun (e : Lay) => V.ref e.1))
  ls : ∀ e ∈ al, H e.1 = some (.lst e.2)
  nd : (al.map (·.1)).Nodup
  np : ∀ e ∈ al, e.1 ≠ p
  sf : Same F H
  fp : F p = none
  fl : ∀ e ∈ al, F e.1 = none
theorem PL.push {H F : Hp} {p : Addr} {al : List Lay} (h : PL H F p al) {b : Addr} (hb : H b = none) (ys : List V) :
    PL (upd (upd H b (.lst ys)) p (.lst ((al ++ [(b, ys)]).map fun (e : Lay) => V.ref e.1))) F p (al ++ [(b, ys)]) := by
  have nb : ∀ e ∈ al, e.1 ≠ b := fun e he z => by have := h.ls e he; rw [z, hb] at this; cases this
  have nbp : b ≠ p := fun z => by have := h.pl; rw [← z, hb] at this; cases this
  refine ⟨upd_same, fun e he => ?_, ?_, fun e he => ?_, over_same h.fp (new_same hb h.sf), h.fp, fun e he => ?_⟩
  · rcases List.mem_append.mp he with z | z
    · rw [upd_ne (h.np e z), upd_ne (nb e z)]; exact h.ls e z
    · cases List.mem_singleton.mp z
      rw [upd_ne nbp, upd_same]
  · rw [List.map_append, List.nodup_append]
    refine ⟨h.nd, by simp, fun x hx y hy => ?_⟩
    obtain ⟨e, he, rfl⟩ := List.mem_map.mp hx
    cases List.mem_singleton.mp hy
    exact nb e he
  · rcases List.mem_append.mp he with z | z
    · exact h.np e z
    · cases List.mem_singleton.mp z; exact nbp
  · rcases List.mem_append.mp he with z | z
    · exact h.fl e z
    · cases List.mem_singleton.mp z; exact h.sf.free hb
theorem PL.top {H F : Hp} {p : Addr} {is : List Lay} {a : Addr} {xs : List V} (h : PL H F p (is ++ [(a, xs)])) (ys : List V) : PL (upd H a (.lst ys)) F p (is ++ [(a, ys)]) := by
  have hnd := h.nd
  rw [List.map_append, List.nodup_append] at hnd
  have na : ∀ (e : Lay), e ∈ is → e.1 ≠ a := fun e he => hnd.2.2 e.1 (List.mem_map_of_mem he) a (by simp)
  have nap : a ≠ p := h.np (a, xs) (by simp)
  have fa : F a = none := h.fl (a, xs) (by simp)
  have em : ∀ (e : Lay), e ∈ is ++ [(a, ys)] → e ∈ is ∨ e = (a, ys) := fun e he => by
    rcases List.mem_append.mp he with z | z
    · exact .inl z
    · exact .inr (List.mem_singleton.mp z)
  refine ⟨?_, fun e he => ?_, ?_, fun e he => ?_, over_same fa h.sf, h.fp, fun e he => ?_⟩
  · rw [upd_ne nap.symm, h.pl]; simp
  · rcases em e he with z | rfl
    · rw [upd_ne (na e z)]; exact h.ls e (List.mem_append_left _ z)
    · exact upd_same
  · have := h.nd
    simpa using this
  · rcases em e he with z | rfl
    · exact h.np e (List.mem_append_left _ z)
    · exact nap
  · rcases em e he with z | rfl
    · exact h.fl e (List.mem_append_left _ z)
    · exact fa
theorem PL.pop {H F : Hp} {p : Addr} {is : List Lay} {a : Addr} {xs : List V} (h : PL H F p (is ++ [(a, xs)])) : PL (upd H p (.lst (is.map fun (e : Lay) => V.ref e.1))) F p is := by
  have hi : ∀ (e : Lay), e ∈ is → e ∈ is ++ [(a, xs)] := fun e he => List.mem_append_left _ he
  refine ⟨upd_same, fun e he => ?_, ?_, fun e he => h.np e (hi e he), over_same h.fp h.sf, h.fp, fun e he => h.fl e (hi e he)⟩
  · rw [upd_ne (h.np e (hi e he))]; exact h.ls e (hi e he)
  · have := h.nd
    rw [List.map_append, List.nodup_append] at this
    exact this.1
theorem PL.grow {H F H' F' : Hp} {p : Addr} {al : List Lay} (h : PL H F p al) (g : Grow F H F' H') : PL H' F' p al := by
  refine ⟨g.hh _ _ h.pl, fun e he => g.hh _ _ (h.ls e he), h.nd, h.np, g.fh, ?_, fun e he => ?_⟩
  · rw [g.old p (by rw [h.pl]; exact fun z => nomatch z)]; exact h.fp
  · rw [g.old e.1 (by rw [h.ls e he]; exact fun z => nomatch z)]; exact h.fl e he
abbrev Vs (K : PySem.W.Frag) (F : Hp) (xs : List V) (bs : List Sh) : Prop := Paired (ShAt K F) xs bs
theorem Vs.same {F F' : Hp} {xs : List V} {bs : List Sh} (h : Vs K F xs bs) (g : Same F F') : Vs K F' xs bs := by
  induction h with
  | nil => exact .nil
  | cons h _ ih => exact .cons (h.same g) ih
theorem Vs.of {F : Hp} : ∀ {xs : List V} {bs : List Sh}, xs.length = bs.length → (∀ (i : Nat) v b, xs[i]? = some v → bs[i]? = some b → ShAt K F v b) → Vs K F xs bs
  | [], [], _, _ => .nil
  | x :: xs, b :: bs, h, hh => .cons (hh 0 x b rfl rfl) (Vs.of (by simpa using h) fun i v b h1 h2 => hh (i + 1) v b h1 h2)
  | [], _ :: _, h, _ => by cases h
  | _ :: _, [], h, _ => by cases h
theorem Vs.get {F : Hp} {xs : List V} {bs : List Sh} (h : Vs K F xs bs) : xs.length = bs.length ∧ ∀ (i : Nat) v b, xs[i]? = some v → bs[i]? = some b → ShAt K F v b := by
  induction h with
  | nil => exact ⟨rfl, fun i v b h => nomatch h⟩
  | cons h _ ih =>
    refine ⟨by simp [ih.1], fun i v b h1 h2 => ?_⟩
    cases i with
    | zero => cases h1; cases h2; exact h
    | succ i => exact ih.2 i v b h1 h2
theorem paired_split {α β : Type} {R : α → β → Prop} {xs : List α} {x : α} {ys : List β} (h : Paired R (xs ++ [x]) ys) : ∃ ys' y, ys = ys' ++ [y] ∧ Paired R xs ys' ∧ R x y := by
  induction xs generalizing ys with
  | nil =>
    cases h with
    | cons h t => cases t; exact ⟨[], _, rfl, .nil, h⟩
  | cons z xs ih =>
    cases h with
    | cons h t =>
      obtain ⟨ys', y, rfl, h1, h2⟩ := ih t
      exact ⟨_ :: ys', y, rfl, .cons h h1, h2⟩
theorem paired_rev {α β : Type} {R : α → β → Prop} {xs : List α} {ys : List β} (h : Paired R xs ys) : Paired R xs.reverse ys.reverse := by
  induction h with
  | nil => exact .nil
  | cons h _ ih => rw [List.reverse_cons, List.reverse_cons]; exact ih.snoc h
abbrev Ls (K : PySem.W.Frag) (F : Hp) (al : List Lay) (ss : List (List Sh)) : Prop := Paired (fun e bs => Vs K F e.2 bs) al ss
theorem Ls.same {F F' : Hp} {al : List Lay} {ss : List (List Sh)} (h : Ls K F al ss) (g : Same F F') : Ls K F' al ss := by
  induction h with
  | nil => exact .nil
  | cons h _ ih => exact .cons (h.same g) ih
theorem paired_len {α β : Type} {R : α → β → Prop} {xs : List α} {ys : List β} (h : Paired R xs ys) : xs.length = ys.length := by
  induction h with
  | nil => rfl
  | cons _ _ ih => simp [ih]
def rem : List (List Sh) → List Nat
  | [] => []
  | [b] => wrs b.reverse
  | b :: c :: r => wrs b.reverse ++ 41 :: rem (c :: r)
theorem rem_top (b : List Sh) (r : List (List Sh)) (x : Sh) : rem ((b ++ [x]) :: r) = wr x ++ rem (b :: r) := by
  cases r with
  | nil => show wrs (b ++ [x]).reverse = wr x ++ wrs b.reverse; rw [List.reverse_append]; first | done | exact wrs_cons _ _
  | cons c r => show wrs (b ++ [x]).reverse ++ _ = wr x ++ (wrs b.reverse ++ _); rw [List.reverse_append, ← List.append_assoc]; congr 1 <;> first | done | exact wrs_cons _ _
theorem rem_nil (c : List Sh) (r : List (List Sh)) : rem ([] :: c :: r) = 41 :: rem (c :: r) := by
  show wrs [].reverse ++ _ = _
  rw [List.reverse_nil, wrs_nil]; rfl
theorem rem_opn (bs b : List Sh) (r : List (List Sh)) : wr (.tup bs) ++ rem (b :: r) = 40 :: rem (bs.reverse :: b :: r) := by
  rw [wr_tup]
  show 40 :: ((wrs bs ++ [41]) ++ rem (b :: r)) = 40 :: (wrs bs.reverse.reverse ++ 41 :: rem (b :: r))
  rw [List.reverse_reverse, List.append_assoc]; rfl
theorem rem_len : ∀ ss : List (List Sh), ss.length ≤ (rem ss).length + 1
  | [] => Nat.zero_le _
  | [b] => by show 1 ≤ _ + 1; omega
  | b :: c :: r => by
    have := rem_len (c :: r)
    show r.length + 1 + 1 ≤ (wrs b.reverse ++ 41 :: rem (c :: r)).length + 1
    rw [List.length_append, List.length_cons]
    have h2 : (c :: r).length = r.length + 1 := rfl
    omega
def spLWr (K : PySem.W.Frag) : L2.Sp := fun vs H Q _ => ∃ (x : V) (τ : Sh) (M d : Nat), vs = [x] ∧ M ≤ 6 ∧ d ≤ 6 ∧ ShAt K H x τ ∧ isTr M d τ = true ∧ ∀ H', Same H H' → Q (vt (wr τ)) H'
theorem ok_L_written (T : Txt K mg t) : FnOk P w K mg base (CX1 P w) 1 t.a_L_written t.fd_L_written ["tree"] (spLWr K) := by
  refine T.F_L_written.okn (k := 0) sc_L_written (fun vs H Q E h => ?_) (fun cdv A outer s H vs Q E hr h => ?_)
  · obtain ⟨x, τ, M, d, rfl, _⟩ := h; rfl
  obtain ⟨x, τ, M, d, rfl, hM, hd, hx, ht, q⟩ := h
  have hwl := wr_le hM hd ht
  refine ⟨_, (pss_cons (ps_set (i := 1) sc_L_written.nd rfl (Or.inl rfl) (pe_lst (pa_cons (pe_lst (pa_cons (pv 0) pa_nil)) pa_nil)))
    (pss_cons (ps_set (i := 2) sc_L_written.nd rfl (Or.inl rfl) pe_str)
    (pss_cons (ps_while PassesOwn.never (pt_cmpR (oNeW (hr.units0)) (pv 1) (pe_lst pa_nil) (nomark _)) (pss_one (ps_if (pt_cmpR (oEqW (hr.units0)) (pe_ix ixAny (pv 1) (pe_un un_neg pe_int) (fun _ _ => rfl)) (pe_lst pa_nil) (nomark _)) (pss_cons (ps_expr (pe_bm0 PySem.F.plainAttrs_list PySem.F.slot_list_pop PySem.F.type_list_pop mt_popL (pv 1)))
    (pss_one (ps_if (pt_cmpR (oNeW (hr.units0)) (pv 1) (pe_lst pa_nil) (nomark _)) (pss_one (ps_set (i := 2) sc_L_written.nd rfl (Or.inl rfl) (pe_op oAddN (pv 2) pe_str))) pss_nil))) (pss_cons (ps_set (i := 3) sc_L_written.nd rfl (Or.inl rfl) (pe_bm0 PySem.F.plainAttrs_list PySem.F.slot_list_pop PySem.F.type_list_pop mt_popL (pe_ix ixAny (pv 1) (pe_un un_neg pe_int) (fun _ _ => rfl))))
    (pss_one (ps_if (pt_cmp (pc_isN (pv 3))) (pss_one (ps_set (i := 2) sc_L_written.nd rfl (Or.inl rfl) (pe_op oAddN (pv 2) pe_str))) (pss_cons (ps_set (i := 2) sc_L_written.nd rfl (Or.inl rfl) (pe_op oAddN (pv 2) pe_str))
    (pss_one (ps_expr (pe_bm PySem.F.plainAttrs_list PySem.F.slot_list_append PySem.F.type_list_append mt_app (pv 1) (pa_cons (pe_listRevT rfl rfl T.m_list bt_list rfl T.m_reversed bt_reversed (pv 3)) pa_nil)))))))))))
    (pss_one (ps_ret (pv 2)))))), ?_⟩
  rw [dot_str, opn_str, cls_str, str_nil0]
  refine ⟨_, rfl, by rw [sizeLine_eq]; show 1 ≤ _; decide, fun b0 h0 => ⟨by rw [sizeLine_eq]; show 1 ≤ _; decide, fun p hp => ?_⟩⟩
  have nbp : b0 ≠ p := fun z => by rw [← z, upd_same] at hp; cases hp
  have hPL0 : PL (upd (upd H b0 (.lst [x])) p (.lst [.ref b0])) H p [(b0, [x])] := by
    have fp : H p = none := (same_new h0 _).free hp
    refine ⟨upd_same, fun e he => ?_, by simp, fun e he => ?_, over_same fp (same_new h0 _), fp, fun e he => ?_⟩
    · cases List.mem_singleton.mp he
      rw [upd_ne nbp, upd_same]
    · cases List.mem_singleton.mp he; exact nbp
    · cases List.mem_singleton.mp he; exact h0
  refine ⟨fun m σ H' => ∃ (F : Hp) (al : List Lay) (ss : List (List Sh)) (tx0 : List Nat) (r3 : Option V), σ = [some x, some (.ref p), some (vt tx0), r3] ∧ Same H F ∧ PL H' F p al ∧ Ls K F al ss ∧ (∀ bs ∈ ss, ∀ b ∈ bs, ∃ n, isTr M n b = true) ∧
      tx0 ++ rem ss.reverse = wr τ ∧ m = 2 * (rem ss.reverse).length + ss.length, ⟨_, H, [(b0, [x])], [[τ]], [], none, rfl, Same.refl H, hPL0, .cons (.cons hx .nil) .nil, ?_, ?_, rfl⟩, ?_⟩
  · intro bs hbs b hb
    cases List.mem_singleton.mp hbs
    cases List.mem_singleton.mp hb
    exact ⟨d, ht⟩
  · show wrs [τ] = wr τ
    rw [wrs_cons, wrs_nil, List.append_nil]
  rintro m _ H' ⟨F, al, ss, tx0, r3, rfl, hF, hP, hS, hT, hw, rfl⟩
  have hlen := paired_len hS
  have hrl := rem_len ss.reverse
  have hwl2 : tx0.length + (rem ss.reverse).length ≤ 235298 := by rw [← List.length_append, hw]; exact hwl
  rw [List.length_reverse] at hrl
  refine ⟨_, rfl, by rw [sizeLine_eq]; show 0 ≤ _; decide, fun b hb => ?_⟩
  have hP1 := hP.grow ((Grow.refl hP.sf).new hb (.lst []))
  refine .inr ⟨p, b, al.map (fun (e : Lay) => V.ref e.1), rfl, rfl, .inl (.inl hP1.pl), .inl (.inl upd_same), _, rfl, ?_⟩
  generalize upd H' b (.lst []) = H1 at hP1 ⊢
  rcases List.eq_nil_or_concat al with rfl | ⟨is, ⟨a, xs⟩, rfl⟩
  · cases hS
    refine iteF ?_
    have e : tx0 = wr τ := by rw [← hw]; exact (List.append_nil _).symm
    subst e
    exact ⟨_, rfl, q _ (hF.trans hP1.sf)⟩
  rw [List.concat_eq_append] at *
  obtain ⟨ts, bs, rfl, hSi, hSt⟩ := paired_split hS
  have ek : (!((is ++ [(a, xs)]).map (fun (e : Lay) => V.ref e.1)).isEmpty) = true := by simp
  show if (!((is ++ [(a, xs)]).map (fun (e : Lay) => V.ref e.1)).isEmpty) = true then _ else _
  rw [ek]
  refine iteT ⟨_, fun σ' H' h => h, ?_⟩
  have epl : H1 p = some (.lst (is.map (fun (e : Lay) => V.ref e.1) ++ [V.ref a])) := by have := hP1.pl; rw [List.map_append] at this; exact this
  have ea : H1 a = some (.lst xs) := hP1.ls (a, xs) (by simp)
  rw [List.reverse_append, List.reverse_singleton, List.singleton_append] at hw hwl2 hrl
  have hsl : (ts ++ [bs]).length = ts.length + 1 := by rw [List.length_append]; rfl
  refine ⟨_, rfl, 1, rfl, ixL (.inl (.inl epl)) (at_last _ _) ?_⟩
  refine ⟨by rw [sizeLine_eq]; show 0 ≤ _; decide, fun b1 hb1 => ?_⟩
  have hP2 := hP1.grow ((Grow.refl hP1.sf).new hb1 (.lst []))
  have ea2 := new_at (o := .lst []) hb1 ea
  have epl2 := new_at (o := .lst []) hb1 epl
  refine .inr (.inl ⟨a, b1, xs, rfl, rfl, .inl (.inl ea2), .inl (.inl upd_same), _, rfl, ?_⟩)
  generalize upd H1 b1 (.lst []) = H2 at hP2 ea2 epl2 ⊢
  rcases List.eq_nil_or_concat xs with rfl | ⟨xi, v, rfl⟩
  · cases hSt
    refine iteT ?_
    refine ⟨_, rfl, tyL (.inl (.inl epl2)), p, _, .ref a, rfl, rfl, epl2, by simp, ?_⟩
    rw [List.dropLast_concat]
    have hP3 := hP2.pop
    generalize upd H2 p (.lst (is.map fun (e : Lay) => V.ref e.1)) = H3 at hP3 ⊢
    refine ⟨_, rfl, by rw [sizeLine_eq]; show 0 ≤ _; decide, fun b2 hb2 => ?_⟩
    have hP4 := hP3.grow ((Grow.refl hP3.sf).new hb2 (.lst []))
    refine .inr ⟨p, b2, is.map (fun (e : Lay) => V.ref e.1), rfl, rfl, .inl (.inl hP4.pl), .inl (.inl upd_same), _, rfl, ?_⟩
    generalize upd H3 b2 (.lst []) = H4 at hP4 ⊢
    rcases List.eq_nil_or_concat is with rfl | ⟨is', e', rfl⟩
    · cases hSi
      refine iteF ?_
      refine ⟨_, ?_, F, [], [], tx0, _, rfl, hF, hP4, .nil, (fun bs h => nomatch h), hw, rfl⟩
      show 2 * 0 + 0 < 2 * _ + ([] ++ [([] : List Sh)]).length
      simp
    · rw [List.concat_eq_append] at *
      obtain ⟨ts', cs, rfl, _, _⟩ := paired_split hSi
      have ek2 : (!((is' ++ [e']).map (fun (e : Lay) => V.ref e.1)).isEmpty) = true := by simp
      show if (!((is' ++ [e']).map (fun (e : Lay) => V.ref e.1)).isEmpty) = true then _ else _
      rw [ek2]
      refine iteT ?_
      rw [List.reverse_append, List.reverse_singleton, List.singleton_append, rem_nil] at hw hwl2
      refine ⟨_, rfl, .inr (.inl (catX (by rw [sizeLine_eq]; show _ + 1 ≤ _; omega) ?_))⟩
      refine ⟨_, ?_, F, is' ++ [e'], ts' ++ [cs], tx0 ++ [41], _, rfl, hF, hP4, hSi, fun bs h => hT bs (List.mem_append_left _ h), ?_, rfl⟩
      · rw [List.reverse_append, List.reverse_append, List.reverse_singleton, List.reverse_singleton, List.singleton_append, List.singleton_append, List.reverse_append, List.reverse_singleton, List.singleton_append, rem_nil, hsl, List.length_cons]
        omega
      · rw [List.reverse_append, List.reverse_singleton, List.singleton_append, List.append_assoc]; exact hw
  · rw [List.concat_eq_append] at *
    have ek3 : (xi ++ [v]).isEmpty = false := by simp
    show if (xi ++ [v]).isEmpty = true then _ else _
    rw [ek3]
    refine iteF ?_
    obtain ⟨ci, c, rfl, hci, hc⟩ := paired_split hSt
    refine ⟨_, rfl, 1, rfl, ixL (.inl (.inl epl2)) (at_last _ _) ⟨tyL (.inl (.inl ea2)), a, _, v, rfl, rfl, ea2, by simp, ?_⟩⟩
    rw [List.dropLast_concat]
    have hP3 := hP2.top xi
    generalize upd H2 a (.lst xi) = H3 at hP3 ⊢
    obtain ⟨n, hcn⟩ := hT (ci ++ [c]) (List.mem_append_right _ List.mem_cons_self) c (List.mem_append_right _ List.mem_cons_self)
    have hT' : ∀ bs ∈ ts ++ [ci], ∀ b ∈ bs, ∃ n, isTr M n b = true := fun bs h b hb => by
      rcases List.mem_append.mp h with z | z
      · exact hT bs (List.mem_append_left _ z) b hb
      · cases List.mem_singleton.mp z
        exact hT (ci ++ [c]) (List.mem_append_right _ List.mem_cons_self) b (List.mem_append_left _ hb)
    rw [rem_top] at hw hwl2 hrl
    cases hc with
    | oth h => rw [isTr_oth] at hcn; cases hcn
    | non =>
      refine ⟨_, rfl, _, rfl, iteT ?_⟩
      rw [wr_non] at hw hwl2
      rw [List.length_append] at hwl2
      have hwl2 : tx0.length + (1 + (rem (ci :: ts.reverse)).length) ≤ 235298 := hwl2
      refine ⟨_, rfl, .inr (.inl (catX (by rw [sizeLine_eq]; show _ + 1 ≤ _; omega) ?_))⟩
      refine ⟨_, ?_, F, is ++ [(a, xi)], ts ++ [ci], tx0 ++ [46], _, rfl, hF, hP3, hSi.snoc hci, hT', ?_, rfl⟩
      · rw [List.reverse_append, List.reverse_append, List.reverse_singleton, List.reverse_singleton, List.singleton_append, List.singleton_append, rem_top, wr_non, hsl, List.length_append, List.length_append]
        show 2 * _ + (ts.length + 1) < 2 * (1 + _) + _
        omega
      · rw [List.reverse_append, List.reverse_singleton, List.singleton_append, List.append_assoc]; exact hw
    | tup e hl h =>
      rename_i ad vs bs'
      refine ⟨_, rfl, _, rfl, iteF ?_⟩
      rw [rem_opn] at hw hwl2
      rw [List.length_cons] at hwl2
      refine ⟨_, rfl, .inr (.inl (catX (by rw [sizeLine_eq]; show _ + 1 ≤ _; omega) ?_))⟩
      have e3 := hP3.sf _ _ e
      have epl3 : H3 p = some (.lst (is.map (fun (e : Lay) => V.ref e.1) ++ [V.ref a])) := by have := hP3.pl; rw [List.map_append] at this; exact this
      refine ⟨_, rfl, tyL (.inl (.inl epl3)), _, rfl, ad, vs, rfl, .inl (.inl e3), fun b3 hb3 => ?_⟩
      try dsimp (config := { proj := false, eta := false, zeta := false, iota := false }) only [tNil, tC]
      refine appL (new_at hb3 epl3) ?_ ?_
      · rw [sizeLine_eq, List.length_append, List.length_map]
        have := paired_len hSi
        have h1 := rem_len (ci :: ts.reverse)
        rw [List.length_cons, List.length_reverse] at h1
        have h2 : (rem (ci :: ts.reverse)).length ≤ 235298 := by
          have := congrArg List.length (rem_opn bs' ci ts.reverse)
          rw [List.length_append, List.length_cons] at this
          omega
        show _ + 1 < _
        omega
      have hP4 := hP3.push hb3 vs.reverse
      rw [show is.map (fun (e : Lay) => V.ref e.1) ++ [V.ref a] ++ [V.ref b3] = ((is ++ [(a, xi)]) ++ [(b3, vs.reverse)]).map (fun (e : Lay) => V.ref e.1) by simp]
      obtain ⟨k, rfl, _, hbk⟩ := isTr_tup hcn
      refine ⟨_, ?_, F, (is ++ [(a, xi)]) ++ [(b3, vs.reverse)], (ts ++ [ci]) ++ [bs'.reverse], tx0 ++ [40], _, rfl, hF, hP4, (hSi.snoc hci).snoc (paired_rev (Vs.of hl h)), fun bs hbs b hb => ?_, ?_, rfl⟩
      · rw [List.reverse_append, List.reverse_append, List.reverse_append, List.reverse_singleton, List.reverse_singleton, List.reverse_singleton, List.singleton_append, List.singleton_append, List.singleton_append, rem_top, rem_opn, hsl, List.length_cons, List.length_append, List.length_append]
        show 2 * _ + (ts.length + 1 + 1) < 2 * (_ + 1) + _
        omega
      · rcases List.mem_append.mp hbs with z | z
        · exact hT' bs z b hb
        · cases List.mem_singleton.mp z
          exact ⟨k, hbk b (List.mem_reverse.mp hb)⟩
      · rw [List.reverse_append, List.reverse_append, List.reverse_singleton, List.reverse_singleton, List.singleton_append, List.singleton_append, List.append_assoc]; exact hw
theorem rdA_none {l : List Nat} {i : Nat} {s : List (List Sh) × List Sh} (h : rdA (l.take i) s = none) : rdA l s = none := by
  rw [← List.take_append_drop i l, rdA_app, h]; rfl
def tot (below : List (List Sh)) (top : List Sh) : Nat := (below.map List.length).sum + top.length + below.length
theorem no_tree {M d : Nat} {l : List Nat} (h : ∀ τ, rdA l ([], []) ≠ some ([], [τ])) : ∀ τ, isTr M d τ = true → l ≠ wr τ := fun τ ht e => h τ (by rw [e]; exact rdA_wr d τ [] [] ht)
theorem Vs.one {F : Hp} {xs : List V} {τ : Sh} (h : Vs K F xs [τ]) : ∃ v, xs = [v] ∧ ShAt K F v τ := by
  cases h with
  | cons h t => cases t; exact ⟨_, rfl, h⟩
def spLRd (K : PySem.W.Frag) : L2.Sp := fun vs H Q _ => ∃ (l : List Nat) (M d : Nat), vs = [vt l, .int M, .int d] ∧ M ≤ 6 ∧ d ≤ 6 ∧ l.length ≤ 1000000 ∧
  (∀ τ H' p v, isTr M d τ = true → l = wr τ → Same H H' → H' p = some (.lst [v]) → ShAt K H' v τ → Q (.ref p) H') ∧ ((∀ τ, isTr M d τ = true → l ≠ wr τ) → ∀ H' p, Same H H' → H' p = some (.lst []) → Q (.ref p) H')
theorem ok_L_read (T : Txt K mg t) : FnOk P w K mg base (CX1 P w) 2 t.a_L_read t.fd_L_read ["text", "many", "depth"] (spLRd K) := by
  refine T.F_L_read.okn (k := 1) sc_L_read (fun vs H Q E h => ?_) (fun cdv A outer s H vs Q E hr h => ?_)
  · obtain ⟨l, M, d, rfl, _⟩ := h; rfl
  obtain ⟨l, M, d, rfl, hM, hd, hl, q, qn⟩ := h
  have G_L_is := ok_L_is (P := P) (w := w) (base := base) T
  refine ⟨_, (pss_cons (ps_set (i := 3) sc_L_read.nd rfl (Or.inl rfl) (pe_lst (pa_cons (pe_lst pa_nil) pa_nil)))
    (pss_cons (ps_for PassesOwn.never rfl (piAny (pv 0)) (pg_name (i := 4) sc_L_read.nd rfl (Or.inl rfl)) (pss_one (ps_if (pt_cmpR (oEqA (hr.units0)) (pv 4) pe_str (nomark _)) (pss_one (ps_expr (pe_bm PySem.F.plainAttrs_list PySem.F.slot_list_append PySem.F.type_list_append mt_app (pv 3) (pa_cons (pe_lst pa_nil) pa_nil)))) (pss_one (ps_if (pt_cmpR (oEqA (hr.units0)) (pv 4) pe_str (nomark _)) (pss_one (ps_expr (pe_bm PySem.F.plainAttrs_list PySem.F.slot_list_append PySem.F.type_list_append mt_app (pe_ix ixAny (pv 3) (pe_un un_neg pe_int) (fun _ _ => rfl)) (pa_cons pe_non pa_nil)))) (pss_one (ps_if (PW.pt (pw_and (pt_cmpR (oEqA (hr.units0)) (pv 4) pe_str (nomark _)) (pw_and1 (pt_cmpR op_gt (pe_callB call_len rfl T.m_len bt_len (pa_cons (pv 3) pa_nil)) pe_int (nomark _))))) (pss_cons (ps_set (i := 5) sc_L_read.nd rfl (Or.inl rfl) (pe_callTy call_tuple_of rfl T.m_tuple bt_tuple (pa_cons (pe_bm0 PySem.F.plainAttrs_list PySem.F.slot_list_pop PySem.F.type_list_pop mt_popL (pv 3)) pa_nil)))
    (pss_one (ps_expr (pe_bm PySem.F.plainAttrs_list PySem.F.slot_list_append PySem.F.type_list_append mt_app (pe_ix ixAny (pv 3) (pe_un un_neg pe_int) (fun _ _ => rfl)) (pa_cons (pv 5) pa_nil))))) (pss_one (ps_ret (pe_lst pa_nil))))))))))
    (pss_cons (ps_if (PW.pt (pw_or (pt_cmpR (oNeN (hr.units0)) (pe_callB call_len rfl T.m_len bt_len (pa_cons (pv 3) pa_nil)) pe_int (nomark _)) (pw_or (pt_cmpR (oNeN (hr.units0)) (pe_callB call_len rfl T.m_len bt_len (pa_cons (pe_ix ixAny (pv 3) pe_int (fun _ _ => rfl)) pa_nil)) pe_int (nomark _)) (pw_or1 (pt_not (pt_val (pe_call G_L_is hr rfl T.m_L_is T.F_L_is.kp T.b_L_is .nil pass1 (PAs.h (pas_cons (pe_ix ixAny (pe_ix ixAny (pv 3) pe_int (fun _ _ => rfl)) pe_int (fun _ _ => rfl)) (pas_cons (pv 1) (pas_cons (pv 2) pas_nil))))))))))) (pss_one (ps_ret (pe_lst pa_nil))) pss_nil)
    (pss_one (ps_ret (pe_ix ixAny (pv 3) pe_int (fun _ _ => rfl))))))), ?_⟩
  rw [dot_str, opn_str, cls_str]
  refine ⟨by rw [sizeLine_eq]; show 0 ≤ _; decide, fun b0 h0 => ⟨by rw [sizeLine_eq]; show 1 ≤ _; decide, fun p hp => ?_⟩⟩
  have nbp : b0 ≠ p := fun z => by rw [← z, upd_same] at hp; cases hp
  have hPL0 : PL (upd (upd H b0 (.lst [])) p (.lst [.ref b0])) H p [(b0, [])] := by
    have fp : H p = none := (same_new h0 _).free hp
    refine ⟨upd_same, fun e he => ?_, by simp, fun e he => ?_, over_same fp (same_new h0 _), fp, fun e he => ?_⟩
    · cases List.mem_singleton.mp he
      rw [upd_ne nbp, upd_same]
    · cases List.mem_singleton.mp he; exact nbp
    · cases List.mem_singleton.mp he; exact h0
  refine ⟨_, rfl, .inr (.inr ⟨_, rfl, ?_⟩)⟩
  refine for_walk (walk_tx l) (fun i σ H' => ∃ (F : Hp) (is : List Lay) (a : Addr) (xs : List V) (below : List (List Sh)) (top : List Sh) (r4 r5 : Option V), σ = [some (vt l), some (.int (M : Int)), some (.int (d : Int)), some (.ref p), r4, r5] ∧ Same H F ∧ PL H' F p (is ++ [(a, xs)]) ∧
      Ls K F is below ∧ Vs K F xs top ∧ rdA (l.take i) ([], []) = some (below, top) ∧ tot below top ≤ i) ⟨H, [], b0, [], [], [], none, none, rfl, Same.refl H, hPL0, .nil, .nil, rfl, Nat.le_refl _⟩ (fun _ _ _ _ _ => trivial) ?_ ?_
  · rintro i x _ H' hx ⟨F, is, a, xs, below, top, r4, r5, rfl, hF, hP, hSi, hSt, hrd, hti⟩
    obtain ⟨c, hc, rfl⟩ := sign_at hx
    have hil := (List.getElem?_eq_some_iff.mp hc).1
    have hlb := paired_len hSi
    have hlt := paired_len hSt
    unfold tot at hti
    have htk : l.take (i + 1) = l.take i ++ [c] := by rw [List.take_add_one, hc]; rfl
    have hsn : rdA (l.take (i + 1)) ([], []) = rdS (below, top) c := by rw [htk]; exact rdA_snoc hrd
    have epl : H' p = some (.lst (is.map (fun (e : Lay) => V.ref e.1) ++ [V.ref a])) := by have := hP.pl; rw [List.map_append] at this; exact this
    have ea : H' a = some (.lst xs) := hP.ls (a, xs) (by simp)
    have bad : rdS (below, top) c = none → ∀ H'' p', Same H H'' → H'' p' = some (.lst []) → Q (.ref p') H'' := fun hn => qn (no_tree fun τ e => by rw [rdA_none (i := i + 1) (hsn.trans hn)] at e; cases e)
    refine ⟨_, rfl, .inl ⟨rfl, _, rfl, if2 (fun e => ?_) (fun e40 => ?_)⟩⟩
    · have e : [c] = [40] := vtx.mp e
      cases e
      refine ⟨_, rfl, tyL (.inl (.inl epl)), by rw [sizeLine_eq]; show 0 ≤ _; decide, fun b hb => ?_⟩
      try dsimp (config := { proj := false, eta := false, zeta := false, iota := false }) only [tNil, tC]
      refine appL (new_at hb epl) (by rw [sizeLine_eq, List.length_append, List.length_map]; show _ + 1 < _; omega) ?_
      have hP2 := hP.push hb []
      rw [show is.map (fun (e : Lay) => V.ref e.1) ++ [V.ref a] ++ [V.ref b] = ((is ++ [(a, xs)]) ++ [(b, [])]).map (fun (e : Lay) => V.ref e.1) by simp]
      exact ⟨F, is ++ [(a, xs)], b, [], below ++ [top], [], _, _, rfl, hF, hP2, hSi.snoc hSt, .nil, hsn, by unfold tot; simp only [List.map_append, List.sum_append, List.length_append, List.map_cons, List.map_nil, List.sum_cons, List.sum_nil, List.length_cons, List.length_nil]; omega⟩
    have e40 : c ≠ 40 := fun z => e40 (by rw [z])
    refine ⟨_, rfl, .inl ⟨rfl, _, rfl, if2 (fun e => ?_) (fun e46 => ?_)⟩⟩
    · have e : [c] = [46] := vtx.mp e
      cases e
      refine ⟨_, rfl, 1, rfl, ixL (.inl (.inl epl)) (at_last _ _) ⟨tyL (.inl (.inl ea)), ?_⟩⟩
      dsimp (config := { proj := false, eta := false, zeta := false, iota := false }) only [tCons, tNil, tC]
      refine appL ea (by rw [sizeLine_eq]; omega) ?_
      exact ⟨F, is, a, xs ++ [.non], below, top ++ [.non], _, _, rfl, hF, hP.top _, hSi, hSt.snoc (a := V.non) (b := Sh.non) .non, hsn.trans rfl, by unfold tot; rw [List.length_append]; show _ + (_ + 1) + _ ≤ _; omega⟩
    have e46 : c ≠ 46 := fun z => e46 (by rw [z])
    refine ⟨_, rfl, .inl ⟨rfl, _, rfl, if2 (fun e => ?_) (fun e41 => ?_)⟩⟩
    · have e : [c] = [41] := vtx.mp e
      cases e
      refine ⟨_, rfl, _, _, rfl, .inl ⟨_, .inl (.inl epl), rfl⟩, ?_⟩
      rcases List.eq_nil_or_concat is with rfl | ⟨is', ⟨a', xs'⟩, rfl⟩
      · cases hSi
        refine ⟨_, _, rfl, rfl, _, rfl, ifF (by show ¬ (((0 + 1 : Nat)) : Int) > 1; decide) ?_⟩
        refine ⟨by rw [sizeLine_eq]; show 0 ≤ _; decide, fun b hb => ?_⟩
        exact bad rfl _ b (new_same hb (hF.trans hP.sf)) upd_same
      · rw [List.concat_eq_append] at *
        obtain ⟨bi, bt, rfl, hSi', hSt'⟩ := paired_split hSi
        refine ⟨_, _, rfl, rfl, _, rfl, ifT (by rw [List.length_append, List.length_map, List.length_append]; show ((is'.length + 1 + 1 : Nat) : Int) > 1; omega) ?_⟩
        refine ⟨_, rfl, tyL (.inl (.inl epl)), p, _, .ref a, rfl, rfl, epl, by simp, ?_⟩
        rw [List.dropLast_concat]
        have hP2 := hP.pop
        have ea2 : upd H' p (.lst ((is' ++ [(a', xs')]).map fun (e : Lay) => V.ref e.1)) a = some (.lst xs) := by rw [upd_ne (hP.np (a, xs) (by simp))]; exact ea
        generalize upd H' p (.lst ((is' ++ [(a', xs')]).map fun (e : Lay) => V.ref e.1)) = H2 at hP2 ea2 ⊢
        refine ⟨a, xs, rfl, .inl ⟨.inl (.inl ea2), fun tp htp => ?_⟩⟩
        have g := (Grow.refl hP2.sf).keep htp (.tup xs)
        have hP3 := hP2.grow g
        have hv : ShAt K (upd F tp (.tup xs)) (.ref tp) (.tup top) := .tup upd_same (Vs.get hSt).1 fun j v b h1 h2 => ((Vs.get hSt).2 j v b h1 h2).same g.ff
        have s3 := g.ff
        generalize upd H2 tp (.tup xs) = H3 at hP3 g ⊢
        generalize upd F tp (.tup xs) = F3 at hP3 g hv s3 ⊢
        have epl3 : H3 p = some (.lst (is'.map (fun (e : Lay) => V.ref e.1) ++ [V.ref a'])) := by have := hP3.pl; rw [List.map_append] at this; exact this
        have ea3 : H3 a' = some (.lst xs') := hP3.ls (a', xs') (by simp)
        refine ⟨_, rfl, 1, rfl, ixL (.inl (.inl epl3)) (at_last _ _) ⟨tyL (.inl (.inl ea3)), _, rfl, ?_⟩⟩
        try dsimp (config := { proj := false, eta := false, zeta := false, iota := false }) only [tNil, tC]
        have hl2 : xs'.length = bt.length := paired_len hSt'
        simp only [List.map_append, List.sum_append, List.length_append, List.map_cons, List.map_nil, List.sum_cons, List.sum_nil, List.length_cons, List.length_nil] at hti
        refine appL ea3 (by rw [sizeLine_eq]; omega) ?_
        refine ⟨F3, is', a', xs' ++ [.ref tp], bi, bt ++ [.tup top], _, _, rfl, hF.trans s3, hP3.top _, Ls.same hSi' s3, (Vs.same hSt' s3).snoc hv, hsn.trans ?_, ?_⟩
        · show (match (bi ++ [bt]).getLast? with | some b => some ((bi ++ [bt]).dropLast, b ++ [Sh.tup top]) | none => none) = _
          rw [List.getLast?_concat, List.dropLast_concat]
        · unfold tot; rw [List.length_append]; show _ + (_ + 1) + _ ≤ _; omega
    · have e41 : c ≠ 41 := fun z => e41 (by rw [z])
      refine ⟨by rw [sizeLine_eq]; show 0 ≤ _; decide, fun b hb => ?_⟩
      exact bad (by unfold rdS; rw [if_neg e40, if_neg e46, if_neg e41]) _ b (new_same hb (hF.trans hP.sf)) upd_same
  · rintro _ H' ⟨F, is, a, xs, below, top, r4, r5, rfl, hF, hP, hSi, hSt, hrd, hti⟩
    rw [List.length_map, List.take_length] at hrd
    have hlt := paired_len hSt
    have epl : H' p = some (.lst (is.map (fun (e : Lay) => V.ref e.1) ++ [V.ref a])) := by have := hP.pl; rw [List.map_append] at this; exact this
    have ea : H' a = some (.lst xs) := hP.ls (a, xs) (by simp)
    have sH := hF.trans hP.sf
    refine ⟨_, rfl, _, _, rfl, .inl ⟨_, .inl (.inl epl), rfl⟩, .inl ⟨rfl, _, rfl, ifn2 (fun hne => ?_) (fun heq => ?_)⟩⟩
    · refine ⟨by rw [sizeLine_eq]; show 0 ≤ _; decide, fun b hb => qn (no_tree fun τ e => ?_) _ b (new_same hb sH) upd_same⟩
      rw [hrd] at e
      cases e
      cases hSi
      exact hne rfl
    have his : is = [] := by
      have := V.int.inj heq
      rw [List.length_append, List.length_map] at this
      have h1 : ((is.length + 1 : Nat) : Int) = 1 := this
      exact List.length_eq_zero_iff.mp (by omega)
    subst his
    cases hSi
    have eat : atI ([].map (fun (e : Lay) => V.ref e.1) ++ [V.ref a]) 0 = some (.ref a) := rfl
    refine ⟨_, rfl, ixL (.inl (.inl epl)) eat ⟨_, _, rfl, .inl ⟨_, .inl (.inl ea), rfl⟩, .inl ⟨rfl, _, rfl, ifn2 (fun hne => ?_) (fun heq => ?_)⟩⟩⟩
    · refine ⟨by rw [sizeLine_eq]; show 0 ≤ _; decide, fun b hb => qn (no_tree fun τ e => ?_) _ b (new_same hb sH) upd_same⟩
      rw [hrd] at e
      cases e
      obtain ⟨v, rfl, _⟩ := Vs.one hSt
      exact hne rfl
    have hx1 : xs.length = 1 := by have := V.int.inj heq; omega
    obtain ⟨τ, rfl⟩ : ∃ τ, top = [τ] := by
      match top, hlt.symm.trans hx1 with
      | [τ], _ => exact ⟨τ, rfl⟩
    obtain ⟨v, rfl, hv⟩ := Vs.one hSt
    have eav : atI [v] 0 = some v := rfl
    refine ⟨_, rfl, ixL (.inl (.inl epl)) eat (ixL (.inl (.inl ea)) eav ⟨_, rfl, _, rfl, v, τ, M, d, rfl, hM, hd, hv.same hP.sf, fun H2 s2 => ⟨_, rfl, ?_⟩⟩)⟩
    cases z : isTr M d τ with
    | false =>
      refine iteT ⟨by rw [sizeLine_eq]; show 0 ≤ _; decide, fun b hb => qn (fun τ' ht e => ?_) _ b (new_same hb (sH.trans s2)) upd_same⟩
      rw [e, rdA_wr d τ' [] [] ht] at hrd
      cases hrd
      rw [z] at ht
      cases ht
    | true =>
      refine iteF ?_
      have hw := rdA_sound hrd
      have hw : wrs [τ] = wrs [] ++ l := hw
      rw [wrs_cons, wrs_nil, List.append_nil, List.nil_append] at hw
      exact ⟨_, rfl, ixL (.inl (.inl (s2 _ _ epl))) eat (q τ H2 a v z hw.symm (sH.trans s2) (s2 _ _ ea) (hv.same (hP.sf.trans s2)))⟩
theorem flatten_ones (l : List Nat) : (l.map fun c => [c]).flatten = l := by
  induction l with
  | nil => rfl
  | cons c l ih => rw [List.map_cons, List.flatten_cons, ih]; rfl
theorem with_restX {F G S : List Nat → Prop} (k : ∀ n0, S n0 → (∀ n, S n → F n) → G n0) (r : ∀ n, S n → F n) : ∀ n0, S n0 → G n0 := fun n0 h => k n0 h r
theorem odc_str : V.str (Str.ofString "(.)") = vt [40, 46, 41] := congrArg V.str (by decide +kernel)
theorem at3 {n : Int} (h0 : 0 ≤ n) (h1 : n < 3) : ∃ c, atI [40, 46, 41] n = some c := by
  obtain ⟨k, rfl⟩ : ∃ k : Nat, n = k := ⟨n.toNat, (Int.toNat_of_nonneg h0).symm⟩
  match k, (show k < 3 by omega) with
  | 0, _ => exact ⟨40, rfl⟩
  | 1, _ => exact ⟨46, rfl⟩
  | 2, _ => exact ⟨41, rfl⟩
def spLSg : L2.Sp := fun vs H Q _ => ∃ n : Int, vs = [.int n] ∧ ∀ c, Q (vt [c]) H
theorem ok_L_sign (T : Txt K mg t) : FnOk P w K mg base (CX1 P w) 1 t.a_L_sign t.fd_L_sign ["number"] spLSg := by
  refine T.F_L_sign.okn (k := 0) sc_L_sign (fun vs H Q E h => ?_) (fun cdv A outer s H vs Q E hr h => ?_)
  · obtain ⟨n, rfl, _⟩ := h; rfl
  obtain ⟨n, rfl, q⟩ := h
  refine ⟨_, (pss_cons (ps_set (i := 1) sc_L_sign.nd rfl (Or.inl rfl) pe_str)
    (pss_cons (ps_set (i := 1) sc_L_sign.nd rfl (Or.inl rfl) (pe_op oAddN (pv 1) pe_str))
    (pss_one (ps_ret (pe_ix ixAny (pv 1) (pe_op op_mod (pv 0) pe_int) (fun _ _ => rfl)))))), ?_⟩
  have e1 : V.str (Str.ofString " !\"#$&'()*+,-./0123456789:;<=>?@ABCDEFGHIJKLMNOPQRSTUVWXYZ[\\]^_`") = vt (signs.take 64) := congrArg V.str (by decide +kernel)
  have e2 : V.str (Str.ofString "abcdefghijklmnopqrstuvwxyz{|}~") = vt (signs.drop 64) := congrArg V.str (by decide +kernel)
  refine ⟨_, rfl, .inr (.inl ⟨_, _, e1, e2, by decide +kernel, ?_⟩)⟩
  rw [List.take_append_drop]
  have m1 := Int.emod_nonneg n (show (94 : Int) ≠ 0 by decide)
  have m2 := Int.emod_lt_of_pos n (show (0 : Int) < 94 by decide)
  obtain ⟨j, hj⟩ : ∃ j : Nat, n % 94 = (j : Int) := ⟨_, (Int.toNat_of_nonneg m1).symm⟩
  refine ⟨_, rfl, _, rfl, _, _, rfl, rfl, (by show (0 : Int) < 94; decide), ?_⟩
  try dsimp (config := { proj := false, eta := false, zeta := false, iota := false }) only [tNil, tC]
  rw [hj]
  exact ixS (by rw [signs_len, sizeLine_eq]; decide) (atI_nat (List.getElem?_eq_getElem (by rw [signs_len]; omega))) (q _)
def spLFr (K : PySem.W.Frag) : L2.Sp := fun vs H Q _ => ∃ (a : Addr) (ns : List Int) (n : Int), vs = [.ref a, .int n] ∧ SqL K H a (ns.map V.int) ∧ ns.length ≤ 63 ∧ ∀ l H', l.length ≤ 63 → Same H H' → Q (vt l) H'
theorem ok_L_free (T : Txt K mg t) : FnOk P w K mg base (CX1 P w) 1 t.a_L_free t.fd_L_free ["cells", "size"] (spLFr K) := by
  refine T.F_L_free.okn (k := 0) sc_L_free (fun vs H Q E h => ?_) (fun cdv A outer s H vs Q E hr h => ?_)
  · obtain ⟨a, ns, n, rfl, _⟩ := h; rfl
  obtain ⟨a, ns, n, rfl, ha, hl, q⟩ := h
  refine ⟨_, (pss_one (ps_ret (pe_bm PySem.F.plainAttrs_str PySem.F.slot_str_join PySem.F.type_str_join mt_join pe_str (pa_cons (pe_lc (compSc_of (N := ["cell"]) (cap := [none]) (by kernel_rfl)) rfl (piAny (pe_slice slAny (pv 0) po_none (po_some (pv 1)))) ⟨fun _ => (pg_name (i := 0) (show List.Nodup (["cell"] : List Str) by decide +kernel) rfl (Or.inl rfl)), fun _ => pf_nil, fun _ => (pe_ix ixAny pe_str (pe_op op_mod (pe_op op_fdivL (pv 0) pe_int) pe_int) (fun _ _ => rfl))⟩) pa_nil)))), ?_⟩
  rw [odc_str]
  refine ⟨rfl, _, rfl, _, rfl, _, rfl, .inl ⟨a, _, rfl, ha, fun p1 hp1 => ?_⟩⟩
  rw [cut_ints]
  have hcl : (cutN ns none (some n)).length ≤ 63 := by
    unfold cutN
    rw [List.length_take, List.length_drop]; omega
  have s1 := same_new (o := .lst ((cutN ns none (some n)).map V.int)) hp1
  have e1 : upd H p1 (.lst ((cutN ns none (some n)).map V.int)) p1 = some (.lst ((cutN ns none (some n)).map V.int)) := upd_same
  generalize cutN ns none (some n) = ms at hcl s1 e1 ⊢
  generalize upd H p1 (.lst (ms.map V.int)) = H1 at s1 e1 ⊢
  refine .inl ⟨p1, _, rfl, .inl (.inl e1), fun D hD cp => ?_⟩
  refine lc_grow (walk_list (xs := ms.map V.int)) hD (fun _ _ v => ∃ c, v = vt [c]) (fun _ _ _ _ _ h => h) (fun H' s' => .inl (.inl (s' _ _ e1))) (by rw [List.length_map, sizeLine_eq]; omega) ?_ ?_
  · intro i x H4 ys C hx s4 hy hC
    rw [List.getElem?_map] at hx
    obtain ⟨c, _, rfl⟩ := Option.map_eq_some_iff.mp hx
    have m1 := Int.emod_nonneg (c.fdiv 3) (show (3 : Int) ≠ 0 by decide)
    have m2 := Int.emod_lt_of_pos (c.fdiv 3) (show (0 : Int) < 3 by decide)
    obtain ⟨ch, hch⟩ := at3 m1 m2
    refine ⟨_, rfl, _, _, rfl, rfl, cdivK (by decide) (by decide), _, _, rfl, rfl, (by show (0 : Int) < 3; decide), ?_⟩
    exact ixS (by rw [sizeLine_eq]; decide) hch (hC _ _ (Same.refl _) ⟨ch, rfl⟩)
  · intro H4 ys s4 hy hn hv
    obtain ⟨l, rfl⟩ : ∃ l : List Nat, ys = (l.map fun c => [c]).map vt := by
      clear hn hy
      induction ys with
      | nil => exact ⟨[], rfl⟩
      | cons y ys ih =>
        obtain ⟨l, e⟩ := ih fun j v h => hv (j + 1) v h
        obtain ⟨c, rfl⟩ := hv 0 y rfl
        exact ⟨c :: l, by rw [e]; rfl⟩
    rw [List.length_map, List.length_map, List.length_map] at hn
    refine ⟨[], D, l.map fun c => [c], str_nil0, rfl, .inl (.inl (.inl hy)), ?_, ?_⟩
    · rw [flatten_ones, List.length_map]; show _ + _ * 0 ≤ _; omega
    rw [between_nil, flatten_ones]
    exact q l H4 (by omega) (s1.trans s4)
def spLPut : L2.Sp := fun vs H Q _ => ∃ (l : List Nat) (c : Int), vs = [vt l, .int c] ∧ l.length ≤ 1000000 ∧ ∀ l', l'.length ≤ l.length + 1 → Q (vt l') H
theorem ok_L_put (T : Txt K mg t) : FnOk P w K mg base (CX1 P w) 2 t.a_L_put t.fd_L_put ["text", "cell"] spLPut := by
  refine T.F_L_put.okn (k := 1) sc_L_put (fun vs H Q E h => ?_) (fun cdv A outer s H vs Q E hr h => ?_)
  · obtain ⟨l, c, rfl, _⟩ := h; rfl
  obtain ⟨l, c, rfl, hl, q⟩ := h
  have G_L_sign := ok_L_sign (P := P) (w := w) (base := base) T
  have zl : l.length ≤ sizeLine := by rw [sizeLine_eq]; omega
  refine ⟨_, (pss_cons (ps_set (i := 2) sc_L_put.nd rfl (Or.inl rfl) (pe_op op_mod (pv 1) (pe_op oAddN (pe_callB call_len rfl T.m_len bt_len (pa_cons (pv 0) pa_nil)) pe_int)))
    (pss_cons (ps_set (i := 3) sc_L_put.nd rfl (Or.inl rfl) (pe_op op_fdivL (pv 1) (pe_op oAddN (pe_callB call_len rfl T.m_len bt_len (pa_cons (pv 0) pa_nil)) pe_int)))
    (pss_cons (ps_set (i := 4) sc_L_put.nd rfl (Or.inl rfl) (pe_ix ixAny pe_str (pe_op op_mod (pv 3) pe_int) (fun _ _ => rfl)))
    (pss_cons (ps_if (pt_cmpR (oEqA (hr.units0)) (pe_op op_mod (pe_op op_fdivL (pv 3) pe_int) pe_int) pe_int (nomark _)) (pss_one (ps_set (i := 4) sc_L_put.nd rfl (Or.inl rfl) (pe_call G_L_sign hr rfl T.m_L_sign T.F_L_sign.kp T.b_L_sign .nil pass1 (pa_cons (pe_op op_fdivL (pv 3) pe_int) pa_nil)))) pss_nil)
    (pss_one (ps_ret (pe_op oAddN (pe_op oAddN (pe_slice slAny (pv 0) po_none (po_some (pv 2))) (pv 4)) (pe_slice slAny (pv 0) (po_some (pv 2)) po_none)))))))), ?_⟩
  rw [odc_str]
  have hp : (0 : Int) < ((l.length : Nat) : Int) + 1 := by omega
  have m1 := Int.emod_nonneg c (show ((l.length : Nat) : Int) + 1 ≠ 0 by omega)
  have m2 := Int.emod_lt_of_pos c hp
  obtain ⟨i, hi⟩ : ∃ i : Nat, c % (((l.length : Nat) : Int) + 1) = (i : Int) := ⟨_, (Int.toNat_of_nonneg m1).symm⟩
  refine ⟨_, rfl, _, rfl, _, _, rfl, lenvS zl, .inl ⟨_, _, rfl, rfl, _, _, rfl, rfl, hp, ?_⟩⟩
  try dsimp (config := { proj := false, eta := false, zeta := false, iota := false }) only [tNil, tC]
  rw [hi]
  refine ⟨_, rfl, _, rfl, _, _, rfl, lenvS zl, .inl ⟨_, _, rfl, rfl, _, _, rfl, rfl, cdiv' (by show (0 : Int) < ((l.length : Nat) : Int) + 1; omega) (by show ((l.length : Nat) : Int) + 1 < 1000000000; omega), ?_⟩⟩
  try dsimp (config := { proj := false, eta := false, zeta := false, iota := false }) only [tNil, tC]
  generalize c.fdiv (((l.length : Nat) : Int) + 1) = r
  have n1 := Int.emod_nonneg r (show (3 : Int) ≠ 0 by decide)
  have n2 := Int.emod_lt_of_pos r (show (0 : Int) < 3 by decide)
  obtain ⟨ch, hch⟩ := at3 n1 n2
  refine ⟨_, rfl, _, _, rfl, rfl, (by show (0 : Int) < 3; decide), ixS (by rw [sizeLine_eq]; decide) hch ?_⟩
  have fin : ∀ X : List Nat, X.length = 1 → X.length = 1 := fun _ h => h
  have hX : [ch].length = 1 := rfl
  generalize [ch] = X0 at hX ⊢
  revert X0
  refine with_restX (S := fun X => X.length = 1) (fun X hX k => ⟨_, rfl, _, _, rfl, rfl, cdivK (by decide) (by decide), _, _, rfl, rfl, (by show (0 : Int) < 4; decide), .inl ⟨rfl, _, rfl, ite2' (fun _ => k X hX) (fun _ => ?_)⟩⟩) ?_
  · exact ⟨_, rfl, _, _, rfl, rfl, cdivK (by decide) (by decide), _, rfl, fun c => k [c] rfl⟩
  intro X hX
  refine ⟨_, rfl, _, rfl, _, rfl, .inr (cutT zl ?_)⟩
  rw [cut_to]
  refine ⟨_, rfl, .inr (.inl (catX (by rw [sizeLine_eq, List.length_take, hX]; omega) ?_))⟩
  refine ⟨_, rfl, _, rfl, _, rfl, .inr (cutT zl ?_)⟩
  rw [cut_from]
  refine .inr (.inl (catX (by rw [sizeLine_eq, List.length_append, List.length_take, List.length_drop, hX]; omega) ?_))
  exact q _ (by rw [List.length_append, List.length_append, List.length_take, List.length_drop, hX]; omega)
def spLEx : L2.Sp := fun vs H Q _ => ∃ (l : List Nat) (r : Int), vs = [vt l, .int r] ∧ l.length ≤ 1000000 ∧ ∀ l' H', l'.length ≤ l.length + (l.length + 1) * 2 → Same H H' → Q (vt l') H'
theorem ok_L_exchanged (T : Txt K mg t) : FnOk P w K mg base (CX1 P w) 1 t.a_L_exchanged t.fd_L_exchanged ["text", "rest"] spLEx := by
  obtain ⟨oc, od, kV, doc, pm, an, cdv, ct, osl, e, lk, hcd⟩ := T.F_L_exchanged.ex
  rw [e] at lk ⊢
  refine fn_ofT (k := 0) (p0 := "text") lk hcd sc_L_exchanged rfl (fun vs H Q E h => ?_) fun A outer s H vs Q E hr h => ?_
  · obtain ⟨l, r, rfl, _⟩ := h; rfl
  obtain ⟨l, r, rfl, hl, q⟩ := h
  refine' ⟨tExch, pss_exch ?hq ?he ?hN ?h0 ?h2 ?h3 ?h4 ?k2 ?k3 ?k4 ?hv ?hne ?hc ?hsub ?hrd ?w1 ?w2 ?w3 ?w4 ?w5 ?w6 ?w7 ?hbase ?hfew ?hline ?hst ?d0 ?c0 ?d3 ?d4, ?last⟩
  case hsub => exact pe_ix ixAny (pv 2) (pe_op op_mod (pv 1) pe_int) (fun _ _ => rfl)
  case hq => refine paq_of _ ?_; exact Eq.refl true
  case he => rfl
  case hN => exact sc_L_exchanged.nd
  case h0 => rfl
  case h2 => rfl
  case h3 => rfl
  case h4 => rfl
  case k2 => rfl
  case k3 => rfl
  case k4 => rfl
  case hv => exact Or.inl rfl
  case hne => decide
  case hc => rfl
  case w1 => rfl
  case w2 => rfl
  case w3 => rfl
  case w4 => rfl
  case w5 => rfl
  case w6 => rfl
  case w7 => rfl
  case hbase => rfl
  case hfew => rfl
  case hline => rfl
  case hst => rfl
  case d0 => decide
  case c0 => decide
  case d3 => decide
  case d4 => decide
  case last => exact ⟨l, r, rfl, rfl, hl, fun l' H' h1 h2 => q l' H' h1 h2⟩
  case hrd =>
    intro σ H p vs r Q e1 e2 hS hv hq
    have m1 := Int.emod_nonneg r (show (8 : Int) ≠ 0 by decide)
    have m2 := Int.emod_lt_of_pos r (show (0 : Int) < 8 by decide)
    obtain ⟨j, hj⟩ : ∃ j : Nat, r % 8 = (j : Int) := ⟨_, (Int.toNat_of_nonneg m1).symm⟩
    refine ⟨_, e2, _, e1, _, _, rfl, rfl, (by show (0 : Int) < 8; decide), ?_⟩
    try dsimp (config := { proj := false, eta := false, zeta := false, iota := false }) only [tNil, tC]
    rw [hj]
    have hjl : j < vs.length := by omega
    exact ixL hS (atI_nat (List.getElem?_eq_getElem hjl)) (hq _ (List.getElem_mem hjl))
theorem cut_le3 (l : List Nat) (a b : Option Int) : (cutL l a b).length ≤ l.length := by
  unfold cutL
  rw [List.length_take, List.length_drop]; omega
def spLSp (K : PySem.W.Frag) : L2.Sp := fun vs H Q _ => ∃ (l : List Nat) (M : Nat) (c : Int) (a : Addr) (ns : List Int), vs = [vt l, .int (M : Int), .int c, .ref a] ∧ 0 < l.length ∧ l.length ≤ 300000 ∧ M ≤ 6 ∧ SqL K H a (ns.map V.int) ∧ ns.length ≤ 63 ∧
  ∀ l' H', l'.length ≤ 1000000 → Same H H' → Q (vt l') H'
theorem ok_L_spoilt (T : Txt K mg t) : FnOk P w K mg base (CX1 P w) 3 t.a_L_spoilt t.fd_L_spoilt ["text", "many", "cell", "cells"] (spLSp K) := by
  refine T.F_L_spoilt.okn (k := 2) sc_L_spoilt (fun vs H Q E h => ?_) (fun cdv A outer s H vs Q E hr h => ?_)
  · obtain ⟨l, M, c, a, ns, rfl, _⟩ := h; rfl
  obtain ⟨l, M, c, a, ns, rfl, h0, hl, hM, ha, hn, q⟩ := h
  have G_L_put := ok_L_put (P := P) (w := w) (base := base) T
  have G_L_exchanged := (ok_L_exchanged (P := P) (w := w) (base := base) T).mono (show 1 ≤ 2 by decide)
  have G_L_free := (ok_L_free (P := P) (w := w) (base := base) T).mono (show 1 ≤ 2 by decide)
  have zl : l.length ≤ sizeLine := by rw [sizeLine_eq]; omega
  have hp : (0 : Int) < ((l.length : Nat) : Int) := by omega
  refine ⟨_, (pss_cons (ps_set (i := 4) sc_L_spoilt.nd rfl (Or.inl rfl) (pe_op op_fdivL (pe_op op_fdivL (pv 2) pe_int) (pe_callB call_len rfl T.m_len bt_len (pa_cons (pv 0) pa_nil))))
    (pss_cons (ps_set (i := 5) sc_L_spoilt.nd rfl (Or.inl rfl) (pe_op op_mod (pe_op op_fdivL (pv 2) pe_int) (pe_callB call_len rfl T.m_len bt_len (pa_cons (pv 0) pa_nil))))
    (pss_cons (ps_set (i := 6) sc_L_spoilt.nd rfl (Or.inl rfl) (pe_op oAddN (pe_slice slAny (pv 0) po_none (po_some (pv 5))) (pe_slice slAny (pv 0) (po_some (pe_op oAddN (pv 5) pe_int)) po_none)))
    (pss_cons (ps_if (pt_cmpR (oEqA (hr.units0)) (pe_op op_mod (pv 2) pe_int) pe_int (nomark _)) (pss_one (ps_ret (pe_call G_L_put hr rfl T.m_L_put T.F_L_put.kp T.b_L_put .nil pass1 (PAs.h (pas_cons (pv 0) (pas_cons (pe_op op_fdivL (pv 2) pe_int) pas_nil)))))) pss_nil)
    (pss_cons (ps_if (pt_cmpR (oEqA (hr.units0)) (pe_op op_mod (pv 2) pe_int) pe_int (nomark _)) (pss_one (ps_ret (pe_op oAddN (pe_op oAddN (pe_slice slAny (pv 0) po_none (po_some (pv 5))) (pe_call G_L_put hr rfl T.m_L_put T.F_L_put.kp T.b_L_put .nil pass1 (PAs.h (pas_cons pe_str (pas_cons (pv 4) pas_nil))))) (pe_slice slAny (pv 0) (po_some (pe_op oAddN (pv 5) pe_int)) po_none)))) pss_nil)
    (pss_cons (ps_if (pt_cmpR (oEqA (hr.units0)) (pe_op op_mod (pv 2) pe_int) pe_int (nomark _)) (pss_one (ps_ret (pv 6))) pss_nil)
    (pss_cons (ps_if (pt_cmpR (oEqA (hr.units0)) (pe_op op_mod (pv 2) pe_int) pe_int (nomark _)) (pss_one (ps_ret (pe_op oAddN (pe_op oAddN (pe_op oAddN (pe_slice slAny (pv 0) po_none (po_some (pv 5))) (pe_slice slAny (pv 0) (po_some (pe_op oAddN (pv 5) pe_int)) (po_some (pe_op oAddN (pv 5) pe_int)))) (pe_ix ixAny (pv 0) (pv 5) (fun _ _ => rfl))) (pe_slice slAny (pv 0) (po_some (pe_op oAddN (pv 5) pe_int)) po_none)))) pss_nil)
    (pss_cons (ps_if (pt_cmpR (oEqA (hr.units0)) (pe_op op_mod (pv 2) pe_int) pe_int (nomark _)) (pss_cons (ps_set (i := 7) sc_L_spoilt.nd rfl (Or.inl rfl) (pe_op op_mod (pv 4) (pe_op oAddN (pe_callB call_len rfl T.m_len bt_len (pa_cons (pv 6) pa_nil)) pe_int)))
    (pss_one (ps_ret (pe_op oAddN (pe_op oAddN (pe_slice slAny (pv 6) po_none (po_some (pv 7))) (pe_ix ixAny (pv 0) (pv 5) (fun _ _ => rfl))) (pe_slice slAny (pv 6) (po_some (pv 7)) po_none))))) pss_nil)
    (pss_cons (ps_if (PW.pt (pw_and (pt_cmpR (oEqA (hr.units0)) (pe_op op_mod (pv 2) pe_int) pe_int (nomark _)) (pw_and1 (pt_cmpR (oEqA (hr.units0)) (pe_ix ixAny (pv 0) (pv 5) (fun _ _ => rfl)) pe_str (nomark _))))) (pss_one (ps_ret (pe_op oAddN (pe_op oAddN (pe_op oAddN (pe_op oAddN (pe_slice slAny (pv 0) po_none (po_some (pv 5))) pe_str) (pe_op oMulN pe_str (pv 1))) pe_str) (pe_slice slAny (pv 0) (po_some (pe_op oAddN (pv 5) pe_int)) po_none)))) pss_nil)
    (pss_cons (ps_if (pt_cmpR (oEqA (hr.units0)) (pe_op op_mod (pv 2) pe_int) pe_int (nomark _)) (pss_one (ps_ret (pe_call G_L_exchanged hr rfl T.m_L_exchanged T.F_L_exchanged.kp T.b_L_exchanged .nil pass1 (PAs.h (pas_cons (pv 0) (pas_cons (pv 4) pas_nil)))))) pss_nil)
    (pss_one (ps_ret (pe_call G_L_free hr rfl T.m_L_free T.F_L_free.kp T.b_L_free .nil pass1 (PAs.h (pas_cons (pv 3) (pas_cons (pe_op oAddN pe_int (pe_op op_mod (pv 4) pe_int)) pas_nil)))))))))))))))), ?_⟩
  rw [dot_str, opn_str, cls_str, str_nil0]
  refine ⟨_, rfl, _, _, rfl, rfl, cdivK (by decide) (by decide), _, rfl, _, _, rfl, lenvS zl, _, _, rfl, rfl, cdiv' hp (by omega), ?_⟩
  try dsimp (config := { proj := false, eta := false, zeta := false, iota := false }) only [tNil, tC]
  generalize hrr : (c.fdiv 8).fdiv ((l.length : Nat) : Int) = r
  have m1 := Int.emod_nonneg (c.fdiv 8) (show ((l.length : Nat) : Int) ≠ 0 by omega)
  have m2 := Int.emod_lt_of_pos (c.fdiv 8) hp
  obtain ⟨i, hi⟩ : ∃ i : Nat, c.fdiv 8 % ((l.length : Nat) : Int) = (i : Int) := ⟨_, (Int.toNat_of_nonneg m1).symm⟩
  have hil : i < l.length := by omega
  have hch := List.getElem?_eq_getElem hil
  refine ⟨_, rfl, _, _, rfl, rfl, cdivK (by decide) (by decide), _, rfl, _, _, rfl, lenvS zl, _, _, rfl, rfl, hp, ?_⟩
  try dsimp (config := { proj := false, eta := false, zeta := false, iota := false }) only [tNil, tC]
  rw [hi]
  refine ⟨_, rfl, _, rfl, _, rfl, .inr (cutT zl ?_)⟩
  rw [cut_to]
  refine ⟨_, rfl, _, rfl, .inl ⟨_, _, rfl, rfl, _, rfl, .inr (cutT zl ?_)⟩⟩
  try dsimp (config := { proj := false, eta := false, zeta := false, iota := false }) only [tNil, tC]
  rw [show ((i : Int) + 1) = ((i + 1 : Nat) : Int) by omega, cut_from]
  refine .inr (.inl (catX (by rw [sizeLine_eq, List.length_take, List.length_drop]; omega) ?_))
  have hll : (l.take i ++ l.drop (i + 1)).length ≤ 300000 := by rw [List.length_append, List.length_take, List.length_drop]; omega
  generalize l.take i ++ l.drop (i + 1) = left at hll ⊢
  have zf : left.length ≤ sizeLine := by rw [sizeLine_eq]; omega
  refine ⟨_, rfl, _, _, rfl, rfl, (by show (0 : Int) < 8; decide), .inl ⟨rfl, _, rfl, if2 (fun _ => ?_) (fun _ => ?_)⟩⟩
  · exact ⟨_, rfl, _, rfl, _, _, rfl, rfl, cdivK (by decide) (by decide), l, _, rfl, by omega, fun l' h => q l' H (by omega) (Same.refl H)⟩
  refine ⟨_, rfl, _, _, rfl, rfl, (by show (0 : Int) < 8; decide), .inl ⟨rfl, _, rfl, if2 (fun _ => ?_) (fun _ => ?_)⟩⟩
  · refine ⟨_, rfl, _, rfl, _, rfl, .inr (cutT zl ?_)⟩
    rw [cut_to]
    refine ⟨_, rfl, [], r, rfl, by decide, fun l' h => ?_⟩
    have h : l'.length ≤ 1 := h
    refine .inr (.inl (catX (by rw [sizeLine_eq, List.length_take]; omega) ?_))
    refine ⟨_, rfl, _, rfl, .inl ⟨_, _, rfl, rfl, _, rfl, .inr (cutT zl ?_)⟩⟩
    try dsimp (config := { proj := false, eta := false, zeta := false, iota := false }) only [tNil, tC]
    rw [show ((i : Int) + 1) = ((i + 1 : Nat) : Int) by omega, cut_from]
    refine .inr (.inl (catX (by rw [sizeLine_eq, List.length_append, List.length_take, List.length_drop]; omega) ?_))
    exact q _ H (by rw [List.length_append, List.length_append, List.length_take, List.length_drop]; omega) (Same.refl H)
  refine ⟨_, rfl, _, _, rfl, rfl, (by show (0 : Int) < 8; decide), .inl ⟨rfl, _, rfl, if2 (fun _ => ?_) (fun _ => ?_)⟩⟩
  · exact ⟨_, rfl, q _ H (by omega) (Same.refl H)⟩
  refine ⟨_, rfl, _, _, rfl, rfl, (by show (0 : Int) < 8; decide), .inl ⟨rfl, _, rfl, if2 (fun _ => ?_) (fun _ => ?_)⟩⟩
  · refine ⟨_, rfl, _, rfl, _, rfl, .inr (cutT zl ?_)⟩
    rw [cut_to]
    refine ⟨_, rfl, _, rfl, .inl ⟨_, _, rfl, rfl, _, rfl, _, rfl, .inl ⟨_, _, rfl, rfl, _, rfl, .inr (cutT zl ?_)⟩⟩⟩
    try dsimp (config := { proj := false, eta := false, zeta := false, iota := false }) only [tNil, tC]
    have k1 := cut_le3 l (some ((i : Int) + 1)) (some ((i : Int) + 2))
    refine .inr (.inl (catX (by rw [sizeLine_eq, List.length_take]; omega) ?_))
    refine ⟨_, rfl, _, rfl, ixS zl (atI_nat hch) (.inr (.inl (catX (by rw [sizeLine_eq, List.length_append, List.length_take]; show _ + _ + 1 ≤ _; omega) ?_)))⟩
    refine ⟨_, rfl, _, rfl, .inl ⟨_, _, rfl, rfl, _, rfl, .inr (cutT zl ?_)⟩⟩
    try dsimp (config := { proj := false, eta := false, zeta := false, iota := false }) only [tNil, tC]
    have k2 := cut_le3 l (some ((i : Int) + 2)) none
    refine .inr (.inl (catX (by rw [sizeLine_eq, List.length_append, List.length_append, List.length_take]; show _ + _ + 1 + _ ≤ _; omega) ?_))
    exact q _ H (by rw [List.length_append, List.length_append, List.length_append, List.length_take]; show _ + _ + 1 + _ ≤ _; omega) (Same.refl H)
  refine ⟨_, rfl, _, _, rfl, rfl, (by show (0 : Int) < 8; decide), .inl ⟨rfl, _, rfl, if2 (fun _ => ?_) (fun _ => ?_)⟩⟩
  · refine ⟨_, rfl, _, rfl, _, _, rfl, lenvS zf, .inl ⟨_, _, rfl, rfl, _, _, rfl, rfl, (by show (0 : Int) < ((left.length : Nat) : Int) + 1; omega), ?_⟩⟩
    try dsimp (config := { proj := false, eta := false, zeta := false, iota := false }) only [tNil, tC]
    generalize r % (((left.length : Nat) : Int) + 1) = to0
    refine ⟨_, rfl, _, rfl, _, rfl, .inr (cutT zf ?_)⟩
    have k1 := cut_le3 left none (some to0)
    refine ⟨_, rfl, _, rfl, ixS zl (atI_nat hch) (.inr (.inl (catX (by rw [sizeLine_eq]; show _ + 1 ≤ _; omega) ?_)))⟩
    refine ⟨_, rfl, _, rfl, _, rfl, .inr (cutT zf ?_)⟩
    have k2 := cut_le3 left (some to0) none
    refine .inr (.inl (catX (by rw [sizeLine_eq, List.length_append]; show _ + 1 + _ ≤ _; omega) ?_))
    exact q _ H (by rw [List.length_append, List.length_append]; show _ + 1 + _ ≤ _; omega) (Same.refl H)
  dsimp (config := { eta := false, zeta := false, iota := false }) only [tNext, tSeq]
  refine if_test True (fun Q' q1 q0 => ?_) (fun _ => ?_) ?_
  · refine ⟨_, rfl, _, _, rfl, rfl, (by show (0 : Int) < 8; decide), .inl ⟨rfl, _, rfl, if2 (fun _ => ?_) (fun _ => q0)⟩⟩
    refine ⟨_, rfl, _, rfl, ixS zl (atI_nat hch) (.inl ⟨rfl, _, rfl, ?_⟩)⟩
    generalize decide (vt [l[i]] = vt [46]) = bb
    cases bb with
    | true => exact q1 trivial
    | false => exact q0
  · refine ⟨_, rfl, _, rfl, _, rfl, .inr (cutT zl ?_)⟩
    rw [cut_to]
    refine .inr (.inl (catX (by rw [sizeLine_eq, List.length_take]; show _ + 1 ≤ _; omega) ?_))
    refine ⟨_, rfl, .inr (.inl ⟨[46], _, rfl, rfl, ⟨by omega, by omega, by decide⟩, ?_⟩)⟩
    have hrl : (List.replicate (M : Int).toNat [46]).flatten.length = M := by rw [Int.toNat_natCast]; simp
    generalize (List.replicate (M : Int).toNat [46]).flatten = R at hrl ⊢
    refine .inr (.inl (catX (by rw [sizeLine_eq, List.length_append, List.length_take, hrl]; show _ + 1 + _ ≤ _; omega) ?_))
    refine .inr (.inl (catX (by rw [sizeLine_eq, List.length_append, List.length_append, List.length_take, hrl]; show _ + 1 + _ + 1 ≤ _; omega) ?_))
    refine ⟨_, rfl, _, rfl, .inl ⟨_, _, rfl, rfl, _, rfl, .inr (cutT zl ?_)⟩⟩
    try dsimp (config := { proj := false, eta := false, zeta := false, iota := false }) only [tNil, tC]
    rw [show ((i : Int) + 1) = ((i + 1 : Nat) : Int) by omega, cut_from]
    refine .inr (.inl (catX (by rw [sizeLine_eq, List.length_append, List.length_append, List.length_append, List.length_take, List.length_drop, hrl]; show _ + 1 + _ + 1 + _ ≤ _; omega) ?_))
    exact q _ H (by rw [List.length_append, List.length_append, List.length_append, List.length_append, List.length_take, List.length_drop, hrl]; show _ + 1 + _ + 1 + _ ≤ _; omega) (Same.refl H)
  refine ⟨_, rfl, _, _, rfl, rfl, (by show (0 : Int) < 8; decide), .inl ⟨rfl, _, rfl, if2 (fun _ => ?_) (fun _ => ?_)⟩⟩
  · exact ⟨_, rfl, _, rfl, l, r, rfl, by omega, fun l' H' h s' => q l' H' (by omega) s'⟩
  · exact ⟨_, rfl, _, rfl, _, _, rfl, rfl, (by show (0 : Int) < 40; decide), .inl ⟨_, _, rfl, rfl, a, ns, _, rfl, ha, hn, fun l' H' h s' => q l' H' (by omega) s'⟩⟩
def spLDeep (K : PySem.W.Frag) : L2.Sp := fun vs H Q _ => ∃ (M : Nat) (n : Nat), vs = [.int (M : Int), .int (n : Int)] ∧ 2 ≤ M ∧ M ≤ 6 ∧ n ≤ 2000 ∧ ∀ H' v τ, Same H H' → ShAt K H' v τ → Q v H'
theorem ok_L_deep (T : Txt K mg t) : FnOk P w K mg base (CX1 P w) 1 t.a_L_deep t.fd_L_deep ["many", "size"] (spLDeep K) := by
  refine T.F_L_deep.okn (k := 0) sc_L_deep (fun vs H Q E h => ?_) (fun cdv A outer s H vs Q E hr h => ?_)
  · obtain ⟨M, n, rfl, _⟩ := h; rfl
  obtain ⟨M, n, rfl, hM2, hM, hn, q⟩ := h
  refine ⟨_, (pss_cons (ps_set (i := 2) sc_L_deep.nd rfl (Or.inl rfl) pe_non)
    (pss_cons (ps_for PassesOwn.never rfl (pi_range1 rfl T.m_range (pa_cons (pv 1) pa_nil)) (pg_name (i := 3) sc_L_deep.nd rfl (Or.inl rfl)) (pss_one (ps_set (i := 2) sc_L_deep.nd rfl (Or.inl rfl) (pe_callTy call_tuple_of rfl T.m_tuple bt_tuple (pa_cons (pe_op oAddN (pe_lst (pa_cons (pv 2) pa_nil)) (pe_lc (compSc_of (N := ["j"]) (cap := [none]) (by kernel_rfl)) rfl (pi_range1 rfl T.m_range (pa_cons (pe_op op_sub (pv 0) pe_int) pa_nil)) ⟨fun _ => (pg_name (i := 0) (show List.Nodup (["j"] : List Str) by decide +kernel) rfl (Or.inl rfl)), fun _ => pf_nil, fun _ => pe_non⟩)) pa_nil)))))
    (pss_one (ps_ret (pv 2))))), ?_⟩
  refine ⟨_, rfl, _, rfl, by omega, by omega, ?_⟩
  refine for_range (fun i σ H' => ∃ v τ r3, σ = [some (.int (M : Int)), some (.int (n : Int)), some v, r3] ∧ Same H H' ∧ ShAt K H' v τ) ⟨.non, .non, none, rfl, Same.refl H, .non⟩ ?_ ?_
  · rintro i _ H1 hi ⟨v, τ, r3, rfl, s1, hv⟩
    refine ⟨_, rfl, by rw [sizeLine_eq]; show 1 ≤ _; decide, fun p hp => ?_⟩
    have e1 : upd H1 p (.lst [v]) p = some (.lst [v]) := upd_same
    have s2 := new_same (o := .lst [v]) hp s1
    have hv2 := hv.same (same_new (o := .lst [v]) hp)
    generalize upd H1 p (.lst [v]) = H2 at e1 s2 hv2 ⊢
    refine ⟨_, rfl, _, _, rfl, rfl, _, rfl, by omega, by omega, fun D hD c => ?_⟩
    refine lc_vals walk_range (fun _ v => v = .non) (fun _ => trivial) (by unfold upto; rw [List.length_map, List.length_range, sizeLine_eq]; omega) (fun i x ys C hx hC => hC _ rfl) (fun ys hl hv' => ?_)
    have hyl : ys.length ≤ 6 := by rw [hl]; unfold upto; rw [List.length_map, List.length_range]; omega
    refine .inr (.inr (.inl ⟨p, D, _, _, rfl, rfl, new_at hD e1, upd_same, by rw [sizeLine_eq]; show 1 + _ ≤ _; omega, fun p3 hp3 => ?_⟩))
    refine ⟨p3, _, rfl, .inl ⟨.inl (.inl upd_same), fun tp htp => ?_⟩⟩
    refine ⟨.ref tp, .tup (τ :: ys.map fun _ => .non), _, rfl, new_same htp (new_same hp3 (new_same hD s2)), .tup upd_same (by show _ + 1 = _; simp) fun j u b hu hb => ?_⟩
    cases j with
    | zero =>
      cases hu
      cases hb
      exact hv2.same ((same_new hD _).trans ((same_new hp3 _).trans (same_new htp _)))
    | succ j =>
      have hu : ys[j]? = some u := hu
      have hb : (ys.map fun _ => Sh.non)[j]? = some b := hb
      rw [List.getElem?_map, hu] at hb
      cases hb
      cases hv' j u hu
      exact .non
  · rintro _ H1 ⟨v, τ, r3, rfl, s1, hv⟩
    exact ⟨_, rfl, q H1 v τ s1 hv⟩
def spLRf (K : PySem.W.Frag) : L2.Sp := fun vs H Q _ => ∃ (f : Addr) (L : List Nat) (d : Nat) (x : V) (b : Bool), vs = [.ref f, x, .bl b] ∧ SqT K H f [vt L, .int d] ∧ L.length ≤ 6 ∧ d ≤ 6 ∧
  ((b = true ∧ ∃ τ, ShAt K H x τ ∧ isTr L.length d τ = false) ∨ (b = false ∧ (NTx K H x ∨ ∃ l : List Nat, x = vt l ∧ l.length ≤ 1000000 ∧ ∀ τ, isTr L.length d τ = true → l ≠ wr τ))) ∧ ∀ H', Same H H' → Q (.bl true) H'
theorem ok_L_refused (T : Txt K mg t) : FnOk P w K mg base (CX1 P w) 11 t.a_L_refused t.fd_L_refused ["frame", "thing", "shown"] (spLRf K) := by
  refine T.F_L_refused.okn (k := 10) sc_L_refused (fun vs H Q E h => ?_) (fun cdv A outer s H vs Q E hr h => ?_)
  · obtain ⟨f, L, d, x, b, rfl, _⟩ := h; rfl
  obtain ⟨f, L, d, x, b, rfl, hf, hL, hd, hh, q⟩ := h
  have G_show_tree := ok_show_tree (P := P) (w := w) (base := base) T
  have G_read_tree := (ok_read_tree (P := P) (w := w) (base := base) T).mono (show 9 ≤ 10 by decide)
  refine ⟨_, (pss_cons (ps_set (i := 3) sc_L_refused.nd rfl (Or.inl rfl) pe_bl)
    (pss_cons (ps_tryU (i := 4) rfl rfl rfl rfl sc_L_refused.nd rfl rfl rfl T.m_PressError T.x_PressError (by decide) (fun pins xe Φ hx => (pss_one (ps_if (pt_val (pv 2)) (pss_one (ps_expr (pe_callX G_show_tree hr rfl T.m_show_tree T.F_show_tree.kp T.b_show_tree .nil hx (PAs.h (pas_cons (pv 0) (pas_cons (pv 1) pas_nil)))))) (pss_one (ps_expr (pe_callX G_read_tree hr rfl T.m_read_tree T.F_read_tree.kp T.b_read_tree .nil hx (PAs.h (pas_cons (pv 0) (pas_cons (pv 1) pas_nil))))))))) (fun pins e => (pss_cons (ps_set (i := 3) sc_L_refused.nd rfl (Or.inl rfl) (pe_and (pe_callB isiAny rfl T.m_isinstance bt_isinstance (PAs.h (pas_cons (pv 4) (pas_cons (pe_glob (v := .ref t.c_NoTree) rfl T.m_NoTree rfl) pas_nil)))) (pe_one (pe_callB isiAny rfl T.m_isinstance bt_isinstance (PAs.h (pas_cons (pv 4) (pas_cons (pe_bltn (v := .ty "ValueError") rfl T.m_ValueError bt_ValueError rfl) pas_nil)))))))
    (pss_cons (ps_if (pt_val (pe_callB isiAny rfl T.m_isinstance bt_isinstance (PAs.h (pas_cons (pv 4) (pas_cons (pe_tup (PAs.h (pas_cons (pe_glob (v := .ref t.c_NoBits) rfl T.m_NoBits rfl) (pas_cons (pe_glob (v := .ref t.c_NoFraction) rfl T.m_NoFraction rfl) (pas_cons (pe_glob (v := .ref t.c_NoFrame) rfl T.m_NoFrame rfl) (pas_cons (pe_glob (v := .ref t.c_NoKnot) rfl T.m_NoKnot rfl) (pas_cons (pe_glob (v := .ref t.c_NoName) rfl T.m_NoName rfl) (pas_cons (pe_glob (v := .ref t.c_NoNumber) rfl T.m_NoNumber rfl) (pas_cons (pe_glob (v := .ref t.c_NoPacket) rfl T.m_NoPacket rfl) (pas_cons (pe_glob (v := .ref t.c_NoPlace) rfl T.m_NoPlace rfl) pas_nil)))))))))) pas_nil))))) (pss_one (ps_set (i := 3) sc_L_refused.nd rfl (Or.inl rfl) pe_bl)) pss_nil)
    (pss_one (ps_if (pt_val (pe_callB isiAny rfl T.m_isinstance bt_isinstance (PAs.h (pas_cons (pv 4) (pas_cons (pe_tup (PAs.h (pas_cons (pe_glob (v := .ref t.c_NoPress) rfl T.m_NoPress rfl) (pas_cons (pe_glob (v := .ref t.c_NoRow) rfl T.m_NoRow rfl) (pas_cons (pe_glob (v := .ref t.c_NoSign) rfl T.m_NoSign rfl) (pas_cons (pe_glob (v := .ref t.c_NoText) rfl T.m_NoText rfl) (pas_cons (pe_glob (v := .ref t.c_NothingTaken) rfl T.m_NothingTaken rfl) pas_nil))))))) pas_nil))))) (pss_one (ps_set (i := 3) sc_L_refused.nd rfl (Or.inl rfl) pe_bl)) pss_nil))))))
    (pss_one (ps_ret (pv 3))))), ?_⟩
  refine fun pins0 xe0 => ?_
  have fin : ∀ (r4 : Option V) (H1 : Hp), Same H H1 → ∀ (y : Addr), H1 y = none → ∀ H2, Same H H2 → H2 y = some (excO y t.c_NoTree) → H2 y = some (excO y t.c_NoTree) := fun _ _ _ _ _ _ _ h => h
  rcases hh with ⟨rfl, τ, hx, ht⟩ | ⟨rfl, hh⟩
  · refine ⟨_, rfl, true, rfl, iteT ⟨_, rfl, _, rfl, f, L, d, x, τ, rfl, hf, hL, hd, hx, fun z => (by rw [ht] at z; cases z), fun _ H1 s1 => ?_⟩⟩
    refine ⟨_, rfl, T.u_NoTree_PressError, fun y hy pins1 ev1 => ?_⟩
    have e0 : upd H1 y (excO y t.c_NoTree) y = some (excO y t.c_NoTree) := upd_same
    have sx : Same H (upd H1 y (excO y t.c_NoTree)) := new_same hy s1
    generalize upd H1 y (excO y t.c_NoTree) = H2 at e0 sx ⊢
    refine ⟨_, rfl, .inr ⟨y, _, _, true, rfl, e0, T.z_NoTree, .inl ⟨_, rfl, T.i_NoTree_NoTree⟩, true, rfl, iteT ?_⟩⟩
    refine ⟨_, rfl, .inr ⟨y, _, _, true, rfl, e0, T.z_NoTree, .inr (.inl ⟨_, rfl, T.i_NoTree_ValueError⟩), ?_⟩⟩
    refine ⟨_, rfl, by rw [sizeLine_eq]; show 8 ≤ _; decide, fun p0 hp0 => ?_⟩
    refine .inr ⟨y, _, _, false, rfl, new_at hp0 e0, T.z_NoTree, .inr (.inr ⟨p0, [t.c_NoBits, t.c_NoFraction, t.c_NoFrame, t.c_NoKnot, t.c_NoName, t.c_NoNumber, t.c_NoPacket, t.c_NoPlace], rfl, upd_same, T.it_L_refused_NoTree_0⟩), false, rfl, iteF ?_⟩
    refine ⟨_, rfl, by rw [sizeLine_eq]; show 5 ≤ _; decide, fun p1 hp1 => ?_⟩
    refine .inr ⟨y, _, _, false, rfl, new_at hp1 (new_at hp0 e0), T.z_NoTree, .inr (.inr ⟨p1, [t.c_NoPress, t.c_NoRow, t.c_NoSign, t.c_NoText, t.c_NothingTaken], rfl, upd_same, T.it_L_refused_NoTree_1⟩), false, rfl, iteF ?_⟩
    exact ⟨_, rfl, q _ (new_same hp1 (new_same hp0 sx))⟩
  · refine ⟨_, rfl, false, rfl, iteF ⟨_, rfl, _, rfl, f, L, d, x, rfl, hf, hL, hd, ?_⟩⟩
    have mk : ∀ (Qz : V → Hp → Prop) (Ez : Hp → Prop), (∀ H', Same H H' → Ez H') → ((NTx K H x ∧ ∀ H', Same H H' → Ez H') ∨ ∃ l : List Nat, x = vt l ∧ l.length ≤ 1000000 ∧ (∀ τ, isTr L.length d τ = true → l = wr τ → ∀ H' v, Same H H' → ShAt K H' v τ → Qz v H') ∧ ((∀ τ, isTr L.length d τ = true → l ≠ wr τ) → ∀ H', Same H H' → Ez H')) := fun Qz Ez go => by
      rcases hh with hN | ⟨l, rfl, hl, hno⟩
      · exact .inl ⟨hN, go⟩
      · exact .inr ⟨l, rfl, hl, fun τ ht e => absurd e (hno τ ht), fun _ => go⟩
    refine mk _ _ fun H1 s1 => ?_
    refine ⟨_, rfl, T.u_NoTree_PressError, fun y hy pins1 ev1 => ?_⟩
    have e0 : upd H1 y (excO y t.c_NoTree) y = some (excO y t.c_NoTree) := upd_same
    have sx : Same H (upd H1 y (excO y t.c_NoTree)) := new_same hy s1
    generalize upd H1 y (excO y t.c_NoTree) = H2 at e0 sx ⊢
    refine ⟨_, rfl, .inr ⟨y, _, _, true, rfl, e0, T.z_NoTree, .inl ⟨_, rfl, T.i_NoTree_NoTree⟩, true, rfl, iteT ?_⟩⟩
    refine ⟨_, rfl, .inr ⟨y, _, _, true, rfl, e0, T.z_NoTree, .inr (.inl ⟨_, rfl, T.i_NoTree_ValueError⟩), ?_⟩⟩
    refine ⟨_, rfl, by rw [sizeLine_eq]; show 8 ≤ _; decide, fun p0 hp0 => ?_⟩
    refine .inr ⟨y, _, _, false, rfl, new_at hp0 e0, T.z_NoTree, .inr (.inr ⟨p0, [t.c_NoBits, t.c_NoFraction, t.c_NoFrame, t.c_NoKnot, t.c_NoName, t.c_NoNumber, t.c_NoPacket, t.c_NoPlace], rfl, upd_same, T.it_L_refused_NoTree_0⟩), false, rfl, iteF ?_⟩
    refine ⟨_, rfl, by rw [sizeLine_eq]; show 5 ≤ _; decide, fun p1 hp1 => ?_⟩
    refine .inr ⟨y, _, _, false, rfl, new_at hp1 (new_at hp0 e0), T.z_NoTree, .inr (.inr ⟨p1, [t.c_NoPress, t.c_NoRow, t.c_NoSign, t.c_NoText, t.c_NothingTaken], rfl, upd_same, T.it_L_refused_NoTree_1⟩), false, rfl, iteF ?_⟩
    exact ⟨_, rfl, q _ (new_same hp1 (new_same hp0 sx))⟩
def spLRs (K : PySem.W.Frag) : L2.Sp := fun vs H Q _ => ∃ (f : Addr) (L : List Nat) (d : Nat) (l : List Nat), vs = [.ref f, vt l] ∧ SqT K H f [vt L, .int d] ∧ L.length ≤ 6 ∧ d ≤ 6 ∧ l.length ≤ 1000000 ∧ ∀ H', Same H H' → Q (.bl true) H'
theorem ok_L_read_so (T : Txt K mg t) : FnOk P w K mg base (CX1 P w) 12 t.a_L_read_so t.fd_L_read_so ["frame", "text"] (spLRs K) := by
  refine T.F_L_read_so.okn (k := 11) sc_L_read_so (fun vs H Q E h => ?_) (fun cdv A outer s H vs Q E hr h => ?_)
  · obtain ⟨f, L, d, l, rfl, _⟩ := h; rfl
  obtain ⟨f, L, d, l, rfl, hf, hL, hd, hl, q⟩ := h
  have G_L_read := (ok_L_read (P := P) (w := w) (base := base) T).mono (show 2 ≤ 11 by decide)
  have G_L_refused := ok_L_refused (P := P) (w := w) (base := base) T
  have G_L_alike := (ok_L_alike (P := P) (w := w) (base := base) T).mono (show 1 ≤ 11 by decide)
  have G_read_tree := (ok_read_tree (P := P) (w := w) (base := base) T).mono (show 9 ≤ 11 by decide)
  have zL : L.length ≤ sizeLine := by rw [sizeLine_eq]; omega
  refine ⟨_, (pss_cons (ps_set (i := 2) sc_L_read_so.nd rfl (Or.inl rfl) (pe_call G_L_read hr rfl T.m_L_read T.F_L_read.kp T.b_L_read .nil pass1 (PAs.h (pas_cons (pv 1) (pas_cons (pe_callB call_len rfl T.m_len bt_len (pa_cons (pe_ix ixAny (pv 0) pe_int (fun _ _ => rfl)) pa_nil)) (pas_cons (pe_ix ixAny (pv 0) pe_int (fun _ _ => rfl)) pas_nil))))))
    (pss_cons (ps_if (pt_cmpR (oEqW (hr.units0)) (pv 2) (pe_lst pa_nil) (nomark _)) (pss_one (ps_ret (pe_call G_L_refused hr rfl T.m_L_refused T.F_L_refused.kp T.b_L_refused .nil pass1 (PAs.h (pas_cons (pv 0) (pas_cons (pv 1) (pas_cons pe_bl pas_nil))))))) pss_nil)
    (pss_one (ps_ret (pe_call G_L_alike hr rfl T.m_L_alike T.F_L_alike.kp T.b_L_alike .nil pass1 (PAs.h (pas_cons (pe_call G_read_tree hr rfl T.m_read_tree T.F_read_tree.kp T.b_read_tree .nil pass1 (PAs.h (pas_cons (pv 0) (pas_cons (pv 1) pas_nil)))) (pas_cons (pe_ix ixAny (pv 2) pe_int (fun _ _ => rfl)) pas_nil)))))))), ?_⟩
  refine ⟨_, rfl, _, rfl, ixT hf rfl ⟨_, _, rfl, lenvS zL, _, rfl, ixT hf rfl ?_⟩⟩
  refine ⟨l, L.length, d, rfl, hL, hd, hl, fun τ H1 p v ht e s1 ep hv => ?_, fun hno H1 p s1 ep => ?_⟩
  · refine ⟨_, rfl, by rw [sizeLine_eq]; show 0 ≤ _; decide, fun b hb => ?_⟩
    refine .inr (.inl ⟨p, b, [v], rfl, rfl, .inl (.inl (new_at hb ep)), .inl (.inl upd_same), _, rfl, iteF ?_⟩)
    have s2 := new_same (o := .lst []) hb s1
    have ep2 := new_at (o := .lst []) hb ep
    have hv2 := hv.same (same_new (o := .lst []) hb)
    generalize upd H1 b (.lst []) = H2 at s2 ep2 hv2 ⊢
    refine ⟨_, rfl, _, rfl, f, L, d, vt l, rfl, same_tup s2 hf, hL, hd, .inr ⟨l, rfl, hl, fun τ' ht' e' H3 u s3 hu => ?_, fun hno => absurd e (hno τ ht)⟩⟩
    have : τ' = τ := wr_one ht' ht (e'.symm.trans e)
    subst this
    refine ⟨_, rfl, ixL (.inl (.inl (s3 _ _ ep2))) rfl ⟨u, v, τ', L.length, d, rfl, hL, hd, hu, hv2.same s3, ht, fun H4 s4 => q H4 (s2.trans (s3.trans s4))⟩⟩
  · refine ⟨_, rfl, by rw [sizeLine_eq]; show 0 ≤ _; decide, fun b hb => ?_⟩
    refine .inr (.inl ⟨p, b, [], rfl, rfl, .inl (.inl (new_at hb ep)), .inl (.inl upd_same), _, rfl, iteT ?_⟩)
    have s2 := new_same (o := .lst []) hb s1
    exact ⟨_, rfl, _, rfl, f, L, d, vt l, false, rfl, same_tup s2 hf, hL, hd, .inr ⟨rfl, .inr ⟨l, rfl, hl, hno⟩⟩, fun H3 s3 => q H3 (s2.trans s3)⟩
def spLSs (K : PySem.W.Frag) : L2.Sp := fun vs H Q _ => ∃ (f : Addr) (L : List Nat) (d : Nat) (x : V) (τ : Sh), vs = [.ref f, x] ∧ SqT K H f [vt L, .int d] ∧ L.length ≤ 6 ∧ d ≤ 6 ∧ ShAt K H x τ ∧ ∀ H', Same H H' → Q (.bl true) H'
theorem ok_L_shown_so (T : Txt K mg t) : FnOk P w K mg base (CX1 P w) 12 t.a_L_shown_so t.fd_L_shown_so ["frame", "thing"] (spLSs K) := by
  refine T.F_L_shown_so.okn (k := 11) sc_L_shown_so (fun vs H Q E h => ?_) (fun cdv A outer s H vs Q E hr h => ?_)
  · obtain ⟨f, L, d, x, τ, rfl, _⟩ := h; rfl
  obtain ⟨f, L, d, x, τ, rfl, hf, hL, hd, hx, q⟩ := h
  have G_L_is := (ok_L_is (P := P) (w := w) (base := base) T).mono (show 1 ≤ 11 by decide)
  have G_L_refused := ok_L_refused (P := P) (w := w) (base := base) T
  have G_L_written := (ok_L_written (P := P) (w := w) (base := base) T).mono (show 1 ≤ 11 by decide)
  have G_show_tree := (ok_show_tree (P := P) (w := w) (base := base) T).mono (show 10 ≤ 11 by decide)
  have zL : L.length ≤ sizeLine := by rw [sizeLine_eq]; omega
  refine ⟨_, (pss_cons (ps_if (pt_not (pt_val (pe_call G_L_is hr rfl T.m_L_is T.F_L_is.kp T.b_L_is .nil pass1 (PAs.h (pas_cons (pv 1) (pas_cons (pe_callB call_len rfl T.m_len bt_len (pa_cons (pe_ix ixAny (pv 0) pe_int (fun _ _ => rfl)) pa_nil)) (pas_cons (pe_ix ixAny (pv 0) pe_int (fun _ _ => rfl)) pas_nil))))))) (pss_one (ps_ret (pe_call G_L_refused hr rfl T.m_L_refused T.F_L_refused.kp T.b_L_refused .nil pass1 (PAs.h (pas_cons (pv 0) (pas_cons (pv 1) (pas_cons pe_bl pas_nil))))))) pss_nil)
    (pss_cons (ps_set (i := 2) sc_L_shown_so.nd rfl (Or.inl rfl) (pe_call G_show_tree hr rfl T.m_show_tree T.F_show_tree.kp T.b_show_tree .nil pass1 (PAs.h (pas_cons (pv 0) (pas_cons (pv 1) pas_nil)))))
    (pss_one (ps_ret (pe_and (pe_callB isiAny rfl T.m_isinstance bt_isinstance (PAs.h (pas_cons (pv 2) (pas_cons (pe_bltn (v := .ty "str") rfl T.m_str bt_str rfl) pas_nil)))) (pe_one (pe_cmpR (oEqA (hr.units0)) (pv 2) (pe_call G_L_written hr rfl T.m_L_written T.F_L_written.kp T.b_L_written .nil pass1 (pa_cons (pv 1) pa_nil)) (nomark _)))))))), ?_⟩
  refine ⟨_, rfl, _, rfl, ixT hf rfl ⟨_, _, rfl, lenvS zL, _, rfl, ixT hf rfl ?_⟩⟩
  refine ⟨x, τ, L.length, d, rfl, hL, hd, hx, fun H1 s1 => ⟨_, rfl, ?_⟩⟩
  cases ht : isTr L.length d τ with
  | false =>
    exact iteT ⟨_, rfl, _, rfl, f, L, d, x, true, rfl, same_tup s1 hf, hL, hd, .inl ⟨rfl, τ, hx.same s1, ht⟩, fun H2 s2 => q H2 (s1.trans s2)⟩
  | true =>
    refine iteF ?_
    refine ⟨_, rfl, _, rfl, f, L, d, x, τ, rfl, same_tup s1 hf, hL, hd, hx.same s1, fun _ H2 s2 => ?_, fun z => (by rw [ht] at z; cases z)⟩
    refine ⟨_, rfl, .inl ⟨_, _, _, true, rfl, .str _, kit_same K _, true, rfl, iteT ?_⟩⟩
    refine ⟨_, rfl, _, rfl, x, τ, L.length, d, rfl, hL, hd, hx.same (s1.trans s2), ht, fun H3 s3 => .inl ⟨rfl, ?_⟩⟩
    rw [decide_eq_true rfl]
    exact q H3 (s1.trans (s2.trans s3))
theorem wr_pos {M n : Nat} {τ : Sh} (h : isTr M n τ = true) : 0 < (wr τ).length := by
  cases τ with
  | non => rw [wr_non]; decide
  | oth => rw [isTr_oth] at h; cases h
  | tup bs => rw [wr_tup]; exact Nat.succ_pos _
theorem kitsS (K : PySem.W.Frag) : PySem.W.kitOne K (.type "NoneType") (.type "str") = some false ∧ PySem.W.kitOne K (.type "bool") (.type "str") = some false ∧ PySem.W.kitOne K (.type "int") (.type "str") = some false ∧
    PySem.W.kitOne K (.type "list") (.type "str") = some false ∧ PySem.W.kitOne K (.type "dict") (.type "str") = some false ∧ PySem.W.kitOne K (.type "tuple") (.type "str") = some false := by
  unfold PySem.W.kitOne PySem.W.kitCls PySem.W.subIn
  refine ⟨?_, ?_, ?_, ?_, ?_, ?_⟩ <;> kernel_rfl
theorem ShAt.noText {M n : Nat} {H : Hp} {v : V} {τ : Sh} (h : ShAt K H v τ) (ht : isTr M n τ = true) : NTx K H v := by
  obtain ⟨k0, _, _, _, _, k5⟩ := kitsS K
  cases h with
  | non => exact ⟨_, .non, k0⟩
  | oth _ => rw [isTr_oth] at ht; cases ht
  | tup e _ _ => exact ⟨_, .tup e, k5⟩
def spLaw (K : PySem.W.Frag) : L2.Sp := fun vs H Q _ => ∃ (a : Addr) (ns : List Int), vs = [.ref a] ∧ SqL K H a (ns.map V.int) ∧ ns.length ≤ 63 ∧ (∀ n ∈ ns, Small n) ∧ ∀ H', Q (.bl true) H'
theorem ok_law (T : Txt K mg t) : FnOk P w K mg base (CX1 P w) 13 t.a_law t.fd_law ["script"] (spLaw K) := by
  refine T.F_law.okn (k := 12) sc_law (fun vs H Q E h => ?_) (fun cdv A outer s H vs Q E hr h => ?_)
  · obtain ⟨a, ns, rfl, _⟩ := h; rfl
  obtain ⟨a, ns, rfl, ha, hl, hs, q⟩ := h
  have G_L_cell_at := (ok_L_cell_at (P := P) (w := w) (base := base) T).mono (show 1 ≤ 12 by decide)
  have G_L_frame := (ok_L_frame (P := P) (w := w) (base := base) T).mono (show 2 ≤ 12 by decide)
  have G_L_cells := (ok_L_cells (P := P) (w := w) (base := base) T).mono (show 2 ≤ 12 by decide)
  have G_L_tree := (ok_L_tree (P := P) (w := w) (base := base) T).mono (show 2 ≤ 12 by decide)
  have G_L_written := (ok_L_written (P := P) (w := w) (base := base) T).mono (show 1 ≤ 12 by decide)
  have G_L_spoilt := (ok_L_spoilt (P := P) (w := w) (base := base) T).mono (show 3 ≤ 12 by decide)
  have G_L_read_so := ok_L_read_so (P := P) (w := w) (base := base) T
  have G_L_refused := (ok_L_refused (P := P) (w := w) (base := base) T).mono (show 11 ≤ 12 by decide)
  have G_L_deep := (ok_L_deep (P := P) (w := w) (base := base) T).mono (show 1 ≤ 12 by decide)
  have G_L_shown_so := ok_L_shown_so (P := P) (w := w) (base := base) T
  refine ⟨_, (pss_cons (ps_set (i := 1) sc_law.nd rfl (Or.inl rfl) (pe_call G_L_frame hr rfl T.m_L_frame T.F_L_frame.kp T.b_L_frame .nil pass1 (pa_cons (pe_call G_L_cell_at hr rfl T.m_L_cell_at T.F_L_cell_at.kp T.b_L_cell_at .nil pass1 (PAs.h (pas_cons (pv 0) (pas_cons pe_int pas_nil)))) pa_nil)))
    (pss_cons (ps_set (i := 2) sc_law.nd rfl (Or.inl rfl) (pe_call G_L_frame hr rfl T.m_L_frame T.F_L_frame.kp T.b_L_frame .nil pass1 (pa_cons (pe_call G_L_cell_at hr rfl T.m_L_cell_at T.F_L_cell_at.kp T.b_L_cell_at .nil pass1 (PAs.h (pas_cons (pv 0) (pas_cons pe_int pas_nil)))) pa_nil)))
    (pss_cons (ps_if (pt_cmpR op_gt (pe_op op_mod (pe_call G_L_cell_at hr rfl T.m_L_cell_at T.F_L_cell_at.kp T.b_L_cell_at .nil pass1 (PAs.h (pas_cons (pv 0) (pas_cons pe_int pas_nil)))) pe_int) pe_int (nomark _)) (pss_one (ps_set (i := 2) sc_law.nd rfl (Or.inl rfl) (pe_tup (PAs.h (pas_cons (pe_ix ixAny (pv 1) pe_int (fun _ _ => rfl)) (pas_cons (pe_ix ixAny (pv 2) pe_int (fun _ _ => rfl)) pas_nil)))))) pss_nil)
    (pss_cons (ps_set (i := 3) sc_law.nd rfl (Or.inl rfl) (pe_callB call_len rfl T.m_len bt_len (pa_cons (pe_ix ixAny (pv 1) pe_int (fun _ _ => rfl)) pa_nil)))
    (pss_cons (ps_set (i := 4) sc_law.nd rfl (Or.inl rfl) (pe_call G_L_cells hr rfl T.m_L_cells T.F_L_cells.kp T.b_L_cells .nil pass1 (PAs.h (pas_cons (pv 0) (pas_cons (pv 3) pas_nil)))))
    (pss_cons (ps_set (i := 5) sc_law.nd rfl (Or.inl rfl) (pe_call G_L_cell_at hr rfl T.m_L_cell_at T.F_L_cell_at.kp T.b_L_cell_at .nil pass1 (PAs.h (pas_cons (pv 0) (pas_cons pe_int pas_nil)))))
    (pss_cons (ps_set (i := 6) sc_law.nd rfl (Or.inl rfl) (pe_call G_L_tree hr rfl T.m_L_tree T.F_L_tree.kp T.b_L_tree .nil pass1 (PAs.h (pas_cons (pv 4) (pas_cons (pv 3) (pas_cons (pe_ix ixAny (pv 1) pe_int (fun _ _ => rfl)) (pas_cons (pe_un un_neg pe_int) (pas_cons pe_int pas_nil))))))))
    (pss_cons (ps_set (i := 7) sc_law.nd rfl (Or.inl rfl) (pe_call G_L_tree hr rfl T.m_L_tree T.F_L_tree.kp T.b_L_tree .nil pass1 (PAs.h (pas_cons (pv 4) (pas_cons (pv 3) (pas_cons (pe_ix ixAny (pv 1) pe_int (fun _ _ => rfl)) (pas_cons (pe_op op_mod (pe_op op_fdivL (pv 5) pe_int) (pe_ix ixAny (pe_lst (PAs.h (pas_cons pe_int (pas_cons pe_int pas_nil)))) (pe_op op_mod (pe_op op_fdivL (pv 5) pe_int) pe_int) (fun _ _ => rfl))) (pas_cons (pe_op op_mod (pv 5) pe_int) pas_nil))))))))
    (pss_cons (ps_set (i := 8) sc_law.nd rfl (Or.inl rfl) (pe_call G_L_written hr rfl T.m_L_written T.F_L_written.kp T.b_L_written .nil pass1 (pa_cons (pv 6) pa_nil)))
    (pss_cons (ps_set (i := 9) sc_law.nd rfl (Or.inl rfl) (pe_call G_L_spoilt hr rfl T.m_L_spoilt T.F_L_spoilt.kp T.b_L_spoilt .nil pass1 (PAs.h (pas_cons (pv 8) (pas_cons (pv 3) (pas_cons (pe_op op_fdivL (pe_call G_L_cell_at hr rfl T.m_L_cell_at T.F_L_cell_at.kp T.b_L_cell_at .nil pass1 (PAs.h (pas_cons (pv 0) (pas_cons pe_int pas_nil)))) pe_int) (pas_cons (pe_slice slAny (pv 0) (po_some pe_int) (po_some pe_int)) pas_nil)))))))
    (pss_cons (ps_for PassesOwn.never rfl (piAny (pe_lst (PAs.h (pas_cons (pv 8) (pas_cons (pv 9) (pas_cons (pe_call G_L_spoilt hr rfl T.m_L_spoilt T.F_L_spoilt.kp T.b_L_spoilt .nil pass1 (PAs.h (pas_cons (pv 8) (pas_cons (pv 3) (pas_cons (pv 5) (pas_cons (pe_slice slAny (pv 0) (po_some pe_int) (po_some pe_int)) pas_nil)))))) (pas_cons (pv 8) pas_nil))))))) (pg_name (i := 10) sc_law.nd rfl (Or.inl rfl)) (pss_one (ps_if (PW.pt (pw_or (pt_not (pt_val (pe_call G_L_read_so hr rfl T.m_L_read_so T.F_L_read_so.kp T.b_L_read_so .nil pass1 (PAs.h (pas_cons (pv 1) (pas_cons (pv 10) pas_nil)))))) (pw_or1 (pt_not (pt_val (pe_call G_L_read_so hr rfl T.m_L_read_so T.F_L_read_so.kp T.b_L_read_so .nil pass1 (PAs.h (pas_cons (pv 2) (pas_cons (pv 10) pas_nil))))))))) (pss_one (ps_ret pe_bl)) pss_nil)))
    (pss_cons (ps_for PassesOwn.never rfl (piAny (pe_lst (PAs.h (pas_cons pe_non (pas_cons pe_int (pas_cons pe_bl (pas_cons (pe_lst (pa_cons (pv 8) pa_nil)) (pas_cons (pe_lst pa_nil) (pas_cons pe_dnewK (pas_cons (pe_un un_neg pe_int) (pas_cons (pv 6) (pas_cons (pe_tup (pa_cons (pv 8) pa_nil)) pas_nil)))))))))))) (pg_name (i := 11) sc_law.nd rfl (Or.inl rfl)) (pss_one (ps_if (pt_not (pt_val (pe_call G_L_refused hr rfl T.m_L_refused T.F_L_refused.kp T.b_L_refused .nil pass1 (PAs.h (pas_cons (pv 1) (pas_cons (pv 11) (pas_cons pe_bl pas_nil))))))) (pss_one (ps_ret pe_bl)) pss_nil)))
    (pss_cons (ps_set (i := 12) sc_law.nd rfl (Or.inl rfl) (pe_op op_mod (pe_op op_fdivL (pe_call G_L_cell_at hr rfl T.m_L_cell_at T.F_L_cell_at.kp T.b_L_cell_at .nil pass1 (PAs.h (pas_cons (pv 0) (pas_cons pe_int pas_nil)))) pe_int) (pe_op op_fdivL pe_int (pe_op oAddN (pv 3) pe_int))))
    (pss_cons (ps_set (i := 13) sc_law.nd rfl (Or.inl rfl) (pe_call G_L_deep hr rfl T.m_L_deep T.F_L_deep.kp T.b_L_deep .nil pass1 (PAs.h (pas_cons (pv 3) (pas_cons (pv 12) pas_nil)))))
    (pss_cons (ps_if (pt_not (pt_val (pe_call G_L_shown_so hr rfl T.m_L_shown_so T.F_L_shown_so.kp T.b_L_shown_so .nil pass1 (PAs.h (pas_cons (pv 1) (pas_cons (pv 13) pas_nil)))))) (pss_one (ps_ret pe_bl)) pss_nil)
    (pss_cons (ps_if (pt_not (pt_val (pe_call G_L_read_so hr rfl T.m_L_read_so T.F_L_read_so.kp T.b_L_read_so .nil pass1 (PAs.h (pas_cons (pv 1) (pas_cons (pe_op oAddN (pe_op oAddN (pe_op oMulN pe_str (pv 12)) pe_str) (pe_op oMulN (pe_op oAddN (pe_op oMulN pe_str (pe_op op_sub (pv 3) pe_int)) pe_str) (pv 12))) pas_nil)))))) (pss_one (ps_ret pe_bl)) pss_nil)
    (pss_one (ps_ret (pe_and (pe_call G_L_shown_so hr rfl T.m_L_shown_so T.F_L_shown_so.kp T.b_L_shown_so .nil pass1 (PAs.h (pas_cons (pv 1) (pas_cons (pv 6) pas_nil)))) (pe_and (pe_call G_L_shown_so hr rfl T.m_L_shown_so T.F_L_shown_so.kp T.b_L_shown_so .nil pass1 (PAs.h (pas_cons (pv 1) (pas_cons (pv 7) pas_nil)))) (pe_one (pe_call G_L_shown_so hr rfl T.m_L_shown_so T.F_L_shown_so.kp T.b_L_shown_so .nil pass1 (PAs.h (pas_cons (pv 1) (pas_cons (pe_lst (pa_cons (pv 6) pa_nil)) pas_nil))))))))))))))))))))))))), ?_⟩
  rw [dot_str, opn_str, cls_str]
  refine ⟨_, rfl, a, ns, 0, rfl, ha, by decide, ?_⟩
  refine ⟨_, rfl, cellN_small hs 0, fun L S d H1 f hL2 hL6 _ hd6 s1 _ ef => ?_⟩
  have hf : SqT K H1 f [vt L, .int d] := .inl (.inl ef)
  have zL : L.length ≤ sizeLine := by rw [sizeLine_eq]; omega
  refine ⟨_, rfl, a, ns, 2, rfl, same_lst s1 ha, by decide, ?_⟩
  refine ⟨_, rfl, cellN_small hs 2, fun L2 S2 d2 H2 g _ hM6 _ hd2 s2 _ eg => ?_⟩
  have hg : SqT K H2 g [vt L2, .int d2] := .inl (.inl eg)
  dsimp (config := { eta := false, zeta := false, iota := false }) only [gName]
  show tSeq _ _ _ [some (.ref a), some (.ref f), some (.ref g), none, none, none, none, none, none, none, none, none, none, none] H2
  refine meet (fun σ H' => ∃ (g : Addr) (Lx : List Nat) (dx : Nat), σ = [some (.ref a), some (.ref f), some (.ref g), none, none, none, none, none, none, none, none, none, none, none] ∧ Same H2 H' ∧ SqT K H' g [vt Lx, .int dx] ∧ Lx.length ≤ 6 ∧ dx ≤ 6) (fun N hN => ?_) ?_
  · refine ⟨_, rfl, a, ns, 2, rfl, same_lst (s1.trans s2) ha, by decide, _, _, rfl, rfl, (by show (0 : Int) < 3; decide), _, _, rfl, rfl, _, rfl, if2 (fun _ => ?_) (fun _ => ?_)⟩
    · refine ⟨_, rfl, ixT (same_tup s2 hf) rfl ⟨_, rfl, ixT hg rfl ⟨by rw [sizeLine_eq]; show 2 ≤ _; decide, fun p hp => ?_⟩⟩⟩
      exact hN _ _ ⟨p, L, d2, rfl, same_new hp _, .inl (.inl upd_same), hL6, hd2⟩
    · exact hN _ _ ⟨g, L2, d2, rfl, Same.refl _, hg, hM6, hd2⟩
  rintro _ H3 ⟨g, Lx, dx, rfl, s3, hg, hLx, hdx⟩
  have s13 := s2.trans s3
  have hf3 := same_tup s13 hf
  have s03 := s1.trans s13
  clear hf ef eg s2 s3 s1
  refine ⟨_, rfl, ixT hf3 rfl ⟨_, _, rfl, lenvS zL, ?_⟩⟩
  refine ⟨_, rfl, _, rfl, a, ns, L.length, rfl, same_lst s03 ha, hL2, hL6, fun H4 c cs s4 hc hcl => ?_⟩
  have s04 := s03.trans s4
  refine ⟨_, rfl, a, ns, 2, rfl, same_lst s04 ha, by decide, ?_⟩
  generalize cellN ns 2 = cell
  refine ⟨_, rfl, _, rfl, _, rfl, ixT (same_tup s4 hf3) rfl ⟨1, rfl, c, cs, L.length, d, -1, 0, rfl, hc, hcl, hL2, hL6, hd6, by decide, fun H5 v τ s5 hv hgood => ?_⟩⟩
  have ht : isTr L.length d τ = true := hgood rfl
  have hwl := wr_le hL6 hd6 ht
  have hwp := wr_pos ht
  have hf5 := same_tup (s4.trans s5) hf3
  have m1 := Int.emod_nonneg (cell.fdiv 16) (show (2 : Int) ≠ 0 by decide)
  have m2 := Int.emod_lt_of_pos (cell.fdiv 16) (show (0 : Int) < 2 by decide)
  obtain ⟨big, hbig, ebig⟩ : ∃ big : Int, 0 < big ∧ atI [V.int 7, V.int 1000] (cell.fdiv 16 % 2) = some (.int big) := by
    generalize cell.fdiv 16 % 2 = n at m1 m2
    obtain ⟨k, rfl⟩ : ∃ k : Nat, n = k := ⟨n.toNat, (Int.toNat_of_nonneg m1).symm⟩
    match k, (show k < 2 by omega) with
    | 0, _ => exact ⟨7, by decide, rfl⟩
    | 1, _ => exact ⟨1000, by decide, rfl⟩
  refine ⟨_, rfl, _, rfl, _, rfl, ixT hf5 rfl ⟨_, rfl, _, _, rfl, rfl, cdivK (by decide) (by decide), by rw [sizeLine_eq]; show 2 ≤ _; decide, fun pb hpb => ?_⟩⟩
  refine ⟨_, rfl, _, _, rfl, rfl, cdivK (by decide) (by decide), _, _, rfl, rfl, (by show (0 : Int) < 2; decide), ixL (.inl (.inl upd_same)) ebig ⟨_, _, rfl, rfl, hbig, ?_⟩⟩
  have s6 : Same H5 (upd H5 pb (.lst [V.int 7, V.int 1000])) := same_new hpb _
  try dsimp (config := { proj := false, eta := false, zeta := false, iota := false }) only [tNil, tC]
  generalize upd H5 pb (.lst [V.int 7, V.int 1000]) = H6 at s6 ⊢
  have k1 := Int.emod_nonneg cell (show (16 : Int) ≠ 0 by decide)
  have k2 := Int.emod_lt_of_pos cell (show (0 : Int) < 16 by decide)
  obtain ⟨kd, hkd⟩ : ∃ k : Nat, cell % 16 = (k : Int) := ⟨_, (Int.toNat_of_nonneg k1).symm⟩
  refine ⟨_, rfl, _, _, rfl, rfl, (by show (0 : Int) < 16; decide), ?_⟩
  try dsimp (config := { proj := false, eta := false, zeta := false, iota := false }) only [tNil, tC]
  rw [hkd]
  generalize cell.fdiv 32 % big = place
  refine ⟨c, cs, L.length, d, place, kd, rfl, same_lst (s5.trans s6) hc, hcl, hL2, hL6, hd6, by omega, fun H7 wv τw s7 hwv _ => ?_⟩
  have s57 := s6.trans s7
  have hv7 := hv.same s57
  refine ⟨_, rfl, v, τ, L.length, d, rfl, hL6, hd6, hv7, ht, fun H8 s8 => ?_⟩
  have s08 := s04.trans (s5.trans (s57.trans s8))
  have hf8 := same_tup (s57.trans s8) hf5
  have hg8 := same_tup (s4.trans (s5.trans (s57.trans s8))) hg
  have hv8 := hv7.same s8
  have hw8 := hwv.same s8
  clear hf5 hf3 hg hv hv7 hwv
  generalize hwt : wr τ = l at hwl hwp ⊢
  have cut60 : ∀ ns : List Int, ns.length ≤ 63 → (cutN ns (some 3) (some 63)).length ≤ 63 := fun ns h => by
    unfold cutN
    rw [List.length_take, List.length_drop]; omega
  refine ⟨_, rfl, _, rfl, _, rfl, a, ns, 1, rfl, same_lst s08 ha, by decide, _, _, rfl, rfl, cdivK (by decide) (by decide), _, rfl, _, rfl, _, rfl, .inl ⟨a, _, rfl, same_lst s08 ha, fun p1 hp1 => ?_⟩⟩
  rw [cut_ints]
  refine ⟨l, L.length, _, p1, cutN ns (some 3) (some 63), rfl, hwp, by omega, hL6, .inl (.inl upd_same), cut60 ns hl, fun sp H9 hsp s9 => ?_⟩
  have s89 : Same H8 H9 := (same_new hp1 _).trans s9
  have s09 := s08.trans s89
  refine ⟨_, rfl, _, rfl, _, rfl, _, rfl, _, rfl, _, rfl, _, rfl, _, rfl, .inl ⟨a, _, rfl, same_lst s09 ha, fun p2 hp2 => ?_⟩⟩
  rw [cut_ints]
  refine ⟨l, L.length, cell, p2, cutN ns (some 3) (some 63), rfl, hwp, by omega, hL6, .inl (.inl upd_same), cut60 ns hl, fun sp2 H10 hsp2 s10 => ?_⟩
  have s810 : Same H8 H10 := s89.trans ((same_new hp2 _).trans s10)
  refine ⟨_, rfl, by rw [sizeLine_eq]; show 4 ≤ _; decide, fun p3 hp3 => ?_⟩
  have e3 : SqL K (upd H10 p3 (.lst [vt l, vt sp, vt sp2, vt l])) p3 ([l, sp, sp2, l].map vt) := .inl (.inl upd_same)
  have s811 := new_same (o := .lst [vt l, vt sp, vt sp2, vt l]) hp3 s810
  try dsimp (config := { proj := false, eta := false, zeta := false, iota := false }) only [tNil, tC]
  generalize upd H10 p3 (.lst [vt l, vt sp, vt sp2, vt l]) = H11 at e3 s811 ⊢
  refine .inl ⟨_, _, rfl, e3, ?_⟩
  refine for_walk (walk_list (xs := [l, sp, sp2, l].map vt)) (fun n σ H' => ∃ r10, σ = [some (.ref a), some (.ref f), some (.ref g), some (.int ((L.length : Nat) : Int)), some (.ref c), some (.int cell), some v, some wv, some (vt l), some (vt sp), r10, none, none, none] ∧ Same H11 H') ⟨_, rfl, Same.refl _⟩ (fun n σ H' _ ⟨_, _, g⟩ => same_lst g e3) ?_ ?_
  · rintro n x _ H' hx ⟨r10, rfl, sn⟩
    rw [List.getElem?_map] at hx
    obtain ⟨l0, hl0, rfl⟩ := Option.map_eq_some_iff.mp hx
    have hl0 : l0.length ≤ 1000000 := by
      have := List.mem_of_getElem? hl0
      simp only [List.mem_cons, List.not_mem_nil, or_false] at this
      rcases this with rfl | rfl | rfl | rfl <;> omega
    refine ⟨_, rfl, _, rfl, f, L, d, l0, rfl, same_tup (s811.trans sn) hf8, hL6, hd6, hl0, fun H12 s12 => ⟨true, rfl, iteF ?_⟩⟩
    exact ⟨_, rfl, _, rfl, g, Lx, dx, l0, rfl, same_tup (s811.trans (sn.trans s12)) hg8, hLx, hdx, hl0, fun H13 s13 => ⟨true, rfl, iteF ⟨_, rfl, sn.trans (s12.trans s13)⟩⟩⟩
  rintro _ H12 ⟨r10, rfl, s12⟩
  have s812 := s811.trans s12
  have hf12 := same_tup s812 hf8
  have hv12 := hv8.same s812
  have hw12 := hw8.same s812
  have s012 := s08.trans s812
  clear hf8 hv8 hw8 hg8 s89 s09 s810 s811 e3
  refine ⟨_, rfl, by rw [sizeLine_eq]; show 1 ≤ _; decide, fun q1 hq1 => ⟨by rw [sizeLine_eq]; show 0 ≤ _; decide, fun q2 hq2 => fun q3 hq3 => ?_⟩⟩
  refine ⟨1, rfl, _, rfl, _, rfl, by rw [sizeLine_eq]; show 1 ≤ _; decide, fun q4 hq4 => ⟨by rw [sizeLine_eq]; show 9 ≤ _; decide, fun q5 hq5 => ?_⟩⟩
  try dsimp (config := { proj := false, eta := false, zeta := false, iota := false }) only [tNil, tC]
  have sA := new_same (o := .lst [vt l]) hq1 (Same.refl H12)
  have z1 : upd H12 q1 (.lst [vt l]) q1 = some (.lst [vt l]) := upd_same
  generalize upd H12 q1 (.lst [vt l]) = HA at sA z1 hq2 hq3 hq4 hq5 ⊢
  have sB := new_same (o := .lst []) hq2 sA
  have z2 : upd HA q2 (.lst []) q2 = some (.lst []) := upd_same
  have z1 := new_at (o := .lst []) hq2 z1
  generalize upd HA q2 (.lst []) = HB at sB z1 z2 hq3 hq4 hq5 ⊢
  have sC := new_same (o := .dK []) hq3 sB
  have z3 : upd HB q3 (.dK []) q3 = some (.dK []) := upd_same
  have z1 := new_at (o := .dK []) hq3 z1
  have z2 := new_at (o := .dK []) hq3 z2
  generalize upd HB q3 (.dK []) = HC at sC z1 z2 z3 hq4 hq5 ⊢
  have sD := new_same (o := .tup [vt l]) hq4 sC
  have z4 : upd HC q4 (.tup [vt l]) q4 = some (.tup [vt l]) := upd_same
  have z1 := new_at (o := .tup [vt l]) hq4 z1
  have z2 := new_at (o := .tup [vt l]) hq4 z2
  have z3 := new_at (o := .tup [vt l]) hq4 z3
  generalize upd HC q4 (.tup [vt l]) = HD at sD z1 z2 z3 z4 hq5 ⊢
  have sE := new_same (o := .lst [V.non, .int 0, .bl true, .ref q1, .ref q2, .ref q3, .int (-1), v, .ref q4]) hq5 sD
  have s5' := same_new (o := .lst [V.non, .int 0, .bl true, .ref q1, .ref q2, .ref q3, .int (-1), v, .ref q4]) hq5
  have e5 : SqL K (upd HD q5 (.lst [V.non, .int 0, .bl true, .ref q1, .ref q2, .ref q3, .int (-1), v, .ref q4])) q5 [V.non, .int 0, .bl true, .ref q1, .ref q2, .ref q3, .int (-1), v, .ref q4] := .inl (.inl upd_same)
  generalize upd HD q5 (.lst [V.non, .int 0, .bl true, .ref q1, .ref q2, .ref q3, .int (-1), v, .ref q4]) = HE at sE s5' e5 ⊢
  obtain ⟨kn, kb, ki, kl, kdc, kt⟩ := kitsS K
  have nt : ∀ x ∈ [V.non, .int 0, .bl true, .ref q1, .ref q2, .ref q3, .int (-1), v, .ref q4], ∀ H', Same HE H' → NTx K H' x := fun x hx H' sH => by
    simp only [List.mem_cons, List.not_mem_nil, or_false] at hx
    rcases hx with rfl | rfl | rfl | rfl | rfl | rfl | rfl | rfl | rfl
    · exact ⟨_, .non, kn⟩
    · exact ⟨_, .int _, ki⟩
    · exact ⟨_, .bl _, kb⟩
    · exact ⟨_, .lst (sH _ _ (s5' _ _ z1)), kl⟩
    · exact ⟨_, .lst (sH _ _ (s5' _ _ z2)), kl⟩
    · exact ⟨_, .dK (sH _ _ (s5' _ _ z3)), kdc⟩
    · exact ⟨_, .int _, ki⟩
    · exact (hv12.same (sE.trans sH)).noText ht
    · exact ⟨_, .tup (sH _ _ (s5' _ _ z4)), kt⟩
  refine .inl ⟨_, _, rfl, e5, ?_⟩
  refine for_walk (walk_list (xs := [V.non, .int 0, .bl true, .ref q1, .ref q2, .ref q3, .int (-1), v, .ref q4])) (fun n σ H' => ∃ r11, σ = [some (.ref a), some (.ref f), some (.ref g), some (.int ((L.length : Nat) : Int)), some (.ref c), some (.int cell), some v, some wv, some (vt l), some (vt sp), r10, r11, none, none] ∧ Same HE H') ⟨_, rfl, Same.refl _⟩ (fun n σ H' _ ⟨_, _, g⟩ => same_lst g e5) ?_ ?_
  · rintro n x _ H' hx ⟨r11, rfl, sn⟩
    have hnx := nt x (List.mem_of_getElem? hx) H' sn
    exact ⟨_, rfl, _, rfl, f, L, d, x, false, rfl, same_tup (sE.trans sn) hf12, hL6, hd6, .inr ⟨rfl, .inl hnx⟩, fun H13 s13 => ⟨true, rfl, iteF ⟨_, rfl, sn.trans s13⟩⟩⟩
  rintro _ H13 ⟨r11, rfl, s13⟩
  have s1213 := sE.trans s13
  have hf13 := same_tup s1213 hf12
  have hv13 := hv12.same s1213
  have hw13 := hw12.same s1213
  have s013 := s012.trans s1213
  clear nt e5 sE s5' z1 z2 z3 z4 sA sB sC sD
  have hdv : (0 : Int) < ((L.length : Nat) : Int) + 1 := by omega
  have hmod : 0 < (3900 : Int).fdiv (((L.length : Nat) : Int) + 1) ∧ (3900 : Int).fdiv (((L.length : Nat) : Int) + 1) ≤ 1300 := by
    match L.length, hL2, hL6 with
    | 2, _, _ => decide
    | 3, _, _ => decide
    | 4, _, _ => decide
    | 5, _, _ => decide
    | 6, _, _ => decide
  refine ⟨_, rfl, a, ns, 1, rfl, same_lst s013 ha, by decide, _, _, rfl, rfl, cdivK (by decide) (by decide), _, rfl, .inl ⟨_, _, rfl, rfl, _, _, rfl, rfl, cdiv' hdv (by omega), _, _, rfl, rfl, hmod.1, ?_⟩⟩
  try dsimp (config := { proj := false, eta := false, zeta := false, iota := false }) only [tNil, tC]
  have n1 := Int.emod_nonneg ((cellN ns 1).fdiv 16) (show (3900 : Int).fdiv (((L.length : Nat) : Int) + 1) ≠ 0 by omega)
  have n2 := Int.emod_lt_of_pos ((cellN ns 1).fdiv 16) hmod.1
  obtain ⟨sz, hsz⟩ : ∃ k : Nat, (cellN ns 1).fdiv 16 % (3900 : Int).fdiv (((L.length : Nat) : Int) + 1) = (k : Int) := ⟨_, (Int.toNat_of_nonneg n1).symm⟩
  rw [hsz]
  have hsz2 : sz ≤ 1300 := by omega
  refine ⟨_, rfl, _, rfl, L.length, sz, rfl, hL2, hL6, by omega, fun H14 dv τd s14 hdv' => ?_⟩
  refine ⟨_, rfl, _, rfl, f, L, d, dv, τd, rfl, same_tup s14 hf13, hL6, hd6, hdv', fun H15 s15 => ⟨true, rfl, iteF ?_⟩⟩
  have hf15 := same_tup (s14.trans s15) hf13
  refine ⟨_, rfl, _, rfl, .inr (.inl ⟨[40], _, rfl, rfl, ⟨by omega, by omega, by decide⟩, ?_⟩)⟩
  have r1 : (List.replicate (sz : Int).toNat [40]).flatten.length = sz := by rw [Int.toNat_natCast]; simp
  generalize (List.replicate (sz : Int).toNat [40]).flatten = R1 at r1 ⊢
  refine .inr (.inl (catX (by rw [sizeLine_eq, r1]; show _ + 1 ≤ _; omega) ?_))
  refine ⟨_, rfl, _, _, rfl, rfl, .inr (.inl ⟨[46], _, rfl, rfl, ⟨by omega, by omega, by decide⟩, ?_⟩)⟩
  have r2 : (List.replicate (((L.length : Nat) : Int) - 1).toNat [46]).flatten.length ≤ 6 := by
    have : (List.replicate (((L.length : Nat) : Int) - 1).toNat [46]).flatten.length = (((L.length : Nat) : Int) - 1).toNat := by simp
    rw [this]; omega
  generalize (List.replicate (((L.length : Nat) : Int) - 1).toNat [46]).flatten = R2 at r2 ⊢
  refine .inr (.inl (catX (by rw [sizeLine_eq]; show _ + 1 ≤ _; omega) ?_))
  refine ⟨_, rfl, .inr (.inl ⟨R2 ++ [41], _, rfl, rfl, ⟨by omega, by omega, by rw [List.length_append]; show _ + 1 ≤ _; omega⟩, ?_⟩)⟩
  have r3 : (List.replicate (sz : Int).toNat (R2 ++ [41])).flatten.length ≤ 1300 * 7 := by
    rw [Int.toNat_natCast, List.length_flatten, List.map_replicate, List.sum_replicate_nat, List.length_append]
    exact Nat.mul_le_mul hsz2 (by show _ + 1 ≤ 7; omega)
  generalize (List.replicate (sz : Int).toNat (R2 ++ [41])).flatten = R3 at r3 ⊢
  refine .inr (.inl (catX (by rw [sizeLine_eq, List.length_append, r1]; show _ + 1 + _ ≤ _; omega) ?_))
  refine ⟨f, L, d, _, rfl, hf15, hL6, hd6, by rw [List.length_append, List.length_append, r1]; show _ + 1 + _ ≤ _; omega, fun H16 s16 => ⟨true, rfl, iteF ?_⟩⟩
  have s1316 := s14.trans (s15.trans s16)
  refine ⟨_, rfl, _, rfl, f, L, d, v, τ, rfl, same_tup s1316 hf13, hL6, hd6, hv13.same s1316, fun H17 s17 => ⟨true, rfl, iteT ?_⟩⟩
  have s1317 := s1316.trans s17
  refine ⟨_, rfl, _, rfl, f, L, d, wv, τw, rfl, same_tup s1317 hf13, hL6, hd6, hw13.same s1317, fun H18 s18 => ⟨true, rfl, iteT ?_⟩⟩
  have s1318 := s1317.trans s18
  refine ⟨_, rfl, _, rfl, by rw [sizeLine_eq]; show 1 ≤ _; decide, fun q6 hq6 => ?_⟩
  exact ⟨f, L, d, _, .oth, rfl, new_tup hq6 (same_tup s1318 hf13), hL6, hd6, .oth (.lst upd_same), fun H19 _ => q H19⟩
end
theorem fin {P : Program} {w : World} {K : PySem.W.Frag} {mg : Str → Option Value} {fa : Addr} (hmg : mg "law" = some (.ref fa)) (h : ∃ t, Txt K mg t) :
    ∃ fd : FuncData, (∀ (s : Shared) (v : Value), BindsTo s fd ⟨[v], []⟩ [("script", v)]) ∧ ∀ base : Heap, K.In base → base.Ns mainGlobals mg → FnOk P w K mg base (CX1 P w) 13 fa fd ["script"] (spLaw K) := by
  obtain ⟨t, T⟩ := h
  have e := hmg.symm.trans T.m_law
  cases e
  exact ⟨_, T.bl, fun base _ _ => ok_law T⟩
theorem walk {l : PySem.W.OpenLaw} {q : Program} {loose : List Str} {XP : (Str → Option Value) → Heap → Prop} {YP : World → Heap → Prop} {d : DefRec} {K : Params → PySem.W.Frag} (hn : l.most = some 63) (hdf : d.params.defaults = [])
    (hY : ∀ (w : World) (h : Heap), YP w h → (K w.params).In h)
    (F : ∀ (w : World) (mg : Str → Option Value) (fa : Addr) (h : Heap), (K w.params).In h → h.Ns mainGlobals mg → mg d.name = some (.ref fa) →
      ∃ fd : FuncData, (∀ (s : Shared) (u : Value), BindsTo s fd ⟨[u], []⟩ [("script", u)]) ∧ ∀ base : Heap, (K w.params).In base → base.Ns mainGlobals mg → FnOk l.prog w (K w.params) mg base (CX1 l.prog w) 13 fa fd ["script"] (spLaw (K w.params))) :
    PySem.W.WalkO q loose XP YP l.row.toRowW d [] (fun f vs => PySem.call f vs) :=
  L2.walk_b (n := 63) (k := 13) (x := "script") (CX := fun w => CX1 l.prog w) (sp := fun w => spLaw (K w.params)) hn (by decide) hdf ⟨rfl, by decide, by decide⟩ hY F (fun _ _ a ns hl hb _ hS => ⟨a, ns, rfl, hS, hl, hb, fun _ => rfl⟩) fun _ _ _ _ _ z => cx1_none z
end Bp
theorem PySem.W.Fast.tw8155396995919692263 : True := .intro
theorem PySem.W.Fast.tw5319069136464416496 : True := .intro
theorem PySem.W.Fast.tw9357200909751127940 : True := .intro
theorem PySem.W.Fast.tw9423136784037977825 : True := .intro
theorem PySem.W.Fast.tw7120356610811918741 : True := .intro
theorem PySem.W.Fast.tw11142045009301133991 : True := .intro
theorem PySem.W.Fast.tw11511681491311879460 : True := .intro
theorem PySem.W.Fast.tw15315800801561195213 : True := .intro
theorem PySem.W.Fast.tw6190234542241157327 : True := .intro
theorem PySem.W.Fast.tw2686884889137328548 : True := .intro
theorem PySem.W.Fast.tw1038773555568618882 : True := .intro
theorem PySem.W.Fast.tw520503063044871776 : True := .intro
theorem PySem.W.Fast.tw6897512777598037153 : True := .intro
theorem PySem.W.Fast.tw4324502347618842058 : True := .intro
theorem PySem.W.Fast.tw10581679963600802187 : True := .intro
theorem PySem.W.Fast.tw2155839634563728794 : True := .intro
theorem PySem.W.Fast.tw13422810285313606926 : True := .intro
theorem PySem.W.Fast.tw11940366359608638225 : True := .intro
theorem PySem.W.Fast.tw4607939867692437182 : True := .intro
theorem PySem.W.Fast.tw9874638752777235995 : True := .intro
theorem PySem.W.Fast.tw9981358714274677836 : True := .intro
theorem PySem.W.Fast.tw14417940649343924604 : True := .intro
theorem PySem.W.Fast.tw13673497167208640990 : True := .intro
theorem PySem.W.Fast.tw10235049685029002017 : True := .intro
theorem PySem.W.Fast.tw2559690434131628481 : True := .intro
theorem PySem.W.Fast.tw8608313833559453668 : True := .intro
theorem PySem.W.Fast.tw12389961100142400200 : True := .intro
theorem PySem.W.Fast.tw4735444902644328568 : True := .intro
theorem PySem.W.Fast.tw1999665052849020585 : True := .intro
theorem PySem.W.Fast.tw2386141163014125286 : True := .intro
theorem PySem.W.Fast.tw3770133674095137506 : True := .intro
theorem PySem.W.Fast.tw9045549627012875644 : True := .intro
theorem PySem.W.Fast.tw12634533417000659259 : True := .intro
theorem PySem.W.Fast.tw5287795557145126035 : True := .intro
theorem PySem.W.Fast.tw6020594414569626148 : True := .intro
theorem PySem.W.Fast.tw8731395048031561422 : True := .intro
theorem PySem.W.Fast.tw7280834761021597158 : True := .intro
theorem PySem.W.Fast.tw8062092418364659874 : True := .intro
theorem PySem.W.Fast.tw14217299800330982692 : True := .intro
theorem PySem.W.Fast.tw3536376636295150128 : True := .intro
theorem PySem.W.Fast.tw13019087389989034216 : True := .intro
theorem PySem.W.Fast.tw4906831273233609102 : True := .intro
local macro_rules | `(tactic| sizeOf_list_dec) => `(tactic| first | (refine' Bp.fx ?n ?l ?c ?k; (case n => k_is); (case l => k_is); (case c => k_is); (case k => k_is)) | (refine' Bp.mx ?n ?i ?l ?c ?k; (case n => k_is); (case i => k_is); (case l => k_is); (case c => k_is); (case k => k_is)))
open PySem PySem.W PyProof.Rows
set_option maxRecDepth 100000 in
set_option maxHeartbeats 0 in
theorem PySem.Challenge.cw_boughpress_k35_trees_written_holds : PySem.Challenge.rw_boughpress_k35_trees_written.Holds := by
  w_on; o_law; k_head; (case hw => w_witness2)
  k_fill
  refine Bp.walk (l := PySem.Challenge.rw_boughpress_k35_trees_written) rfl rfl (fun w h Y => PySem.W.kIn_of Y) ?F
  case F =>
    intro w mg fa h KX G hmg
    refine Bp.fin hmg ?_
    refine' Bp.txt_mk KX G ?f_is_tree_of ?f_is_tree ?f_checked_tree ?f_written ?f_show_tree ?f_sign_at ?f_read_branch ?f_read_tree ?f_L_cell_at ?f_L_signs ?f_L_frame ?f_L_sign ?f_L_cells ?f_L_thing ?f_L_tree ?f_L_is ?f_L_alike ?f_L_written ?f_L_read ?f_L_free ?f_L_exchanged ?f_L_put ?f_L_spoilt ?f_L_deep ?f_L_refused ?f_L_read_so ?f_L_shown_so ?f_law ?n_ValueError ?n_all ?n_isinstance ?n_len ?n_list ?n_range ?n_reversed ?n_str ?n_tuple ?n_zip ?n_PressError ?n_NoFraction ?n_NoFrame ?n_NoText ?n_NoPlace ?n_NoKnot ?n_NoTree ?n_NoSign ?n_NothingTaken ?n_NoBits ?n_NoPress ?n_NoPacket ?n_NoRow ?n_NoName ?n_NoNumber ?x_NoTree ?zga_NoTree ?zgt_NoTree ?zcl_NoTree ?zob_NoTree ?zbe_NoTree ?x_PressError ?zga_PressError ?zgt_PressError ?zcl_PressError ?zob_PressError ?zbe_PressError ?i_NoTree_NoTree ?i_NoTree_ValueError ?it_L_refused_NoTree_0 ?it_L_refused_NoTree_1 ?u_NoTree_PressError
    (case f_is_tree_of => sizeOf_list_dec)
    (case f_is_tree => sizeOf_list_dec)
    (case f_checked_tree => sizeOf_list_dec)
    (case f_written => sizeOf_list_dec)
    (case f_show_tree => sizeOf_list_dec)
    (case f_sign_at => sizeOf_list_dec)
    (case f_read_branch => sizeOf_list_dec)
    (case f_read_tree => sizeOf_list_dec)
    (case f_L_cell_at => sizeOf_list_dec)
    (case f_L_signs => sizeOf_list_dec)
    (case f_L_frame => sizeOf_list_dec)
    (case f_L_sign => sizeOf_list_dec)
    (case f_L_cells => sizeOf_list_dec)
    (case f_L_thing => sizeOf_list_dec)
    (case f_L_tree => sizeOf_list_dec)
    (case f_L_is => sizeOf_list_dec)
    (case f_L_alike => sizeOf_list_dec)
    (case f_L_written => sizeOf_list_dec)
    (case f_L_read => sizeOf_list_dec)
    (case f_L_free => sizeOf_list_dec)
    (case f_L_exchanged => sizeOf_list_dec)
    (case f_L_put => sizeOf_list_dec)
    (case f_L_spoilt => sizeOf_list_dec)
    (case f_L_deep => sizeOf_list_dec)
    (case f_L_refused => sizeOf_list_dec)
    (case f_L_read_so => sizeOf_list_dec)
    (case f_L_shown_so => sizeOf_list_dec)
    (case f_law => sizeOf_list_dec)
    (case n_ValueError => k_is)
    (case n_all => k_is)
    (case n_isinstance => k_is)
    (case n_len => k_is)
    (case n_list => k_is)
    (case n_range => k_is)
    (case n_reversed => k_is)
    (case n_str => k_is)
    (case n_tuple => k_is)
    (case n_zip => k_is)
    (case n_PressError => k_is)
    (case n_NoFraction => k_is)
    (case n_NoFrame => k_is)
    (case n_NoText => k_is)
    (case n_NoPlace => k_is)
    (case n_NoKnot => k_is)
    (case n_NoTree => k_is)
    (case n_NoSign => k_is)
    (case n_NothingTaken => k_is)
    (case n_NoBits => k_is)
    (case n_NoPress => k_is)
    (case n_NoPacket => k_is)
    (case n_NoRow => k_is)
    (case n_NoName => k_is)
    (case n_NoNumber => k_is)
    (case x_NoTree => k_exc)
    (case zga_NoTree => k_is)
    (case zgt_NoTree => k_is)
    (case zcl_NoTree => k_is)
    (case zob_NoTree => k_is)
    (case zbe_NoTree => k_is)
    (case x_PressError => k_exc)
    (case zga_PressError => k_is)
    (case zgt_PressError => k_is)
    (case zcl_PressError => k_is)
    (case zob_PressError => k_is)
    (case zbe_PressError => k_is)
    (case i_NoTree_NoTree => kit_is)
    (case i_NoTree_ValueError => kit_is)
    (case it_L_refused_NoTree_0 => kit_is)
    (case it_L_refused_NoTree_1 => kit_is)
    (case u_NoTree_PressError => k_is)
#print axioms PySem.Challenge.cw_boughpress_k35_trees_written_holds
