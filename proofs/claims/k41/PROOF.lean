import PyProof.Rows.All
import Wide.All
import OpenK.AllK
import Wide.FinOn
import Lean
import PyProof.EqAt
import PyProof.EqKinds
import PyProof.TupleCall
import KE.KDictLaws
import KE.KDictList
import KE.KIntText
import KE.KLam
import KE.KRevIter
import PyProof.Draws
import PyProof.EnumMake
import PyProof.JoinWalk
import PyProof.MinMaxWalk
import PyProof.NeKinds
import PyProof.Rows.CallKw2
import PyProof.Rows.SortWalk
import PyProof.Rows.StrPadFill
import PyProof.Rows.StrRev
import PyProof.SeqI3
import PyProof.SumAny
import PyProof.WalkInts
import PyProof.ZipIter
import PySem.Challenge.RW_boughpress_k41_weigh_paper_walked
set_option Elab.async false
set_option linter.all false
set_option maxRecDepth 100000
namespace L2
open PySem PySem.Spec PyProof.Rows
abbrev Key:=Sum Int Str
def keyIs : Key -> Value -> Bool
 | .inl k,v=>Value.isInt k v
 | .inr x,v=>Value.isStrOf x v
def keyH (w : World) : Key -> Int
 | .inl k=>hashInt k
 | .inr x=>hashStr w x
theorem keyIs_shape : ∀ {k : Key} {v : Value},keyIs k v = true -> (∃ i t,k = Sum.inl i /\ v = Value.int i t) \/ (∃ x t,k = Sum.inr x /\ v = Value.str x t)
 | .inl i,v,h=>by
   obtain ⟨t,e⟩:=Value.isInt_shape (k:=i) (v:=v) h
   exact .inl ⟨i,t,rfl,e⟩
 | .inr x,v,h=>by
   obtain ⟨t,e⟩:=Value.isStrOf_shape (x:=x) (v:=v) h
   exact .inr ⟨x,t,rfl,e⟩
theorem keyIs_int (i : Int) (t : Tok) : keyIs (.inl i) (.int i t) = true:=by simp [keyIs,Value.isInt]
theorem keyIs_str (x : Str) (t : Tok) : keyIs (.inr x) (.str x t) = true:=by simp [keyIs,Value.isStrOf]
theorem key_ll (a b : Int) : decide ((Sum.inl a : Key) = Sum.inl b) = (a == b):=by
 by_cases e : a = b
 ·subst e; simp
 ·have h : ¬ (Sum.inl a : Key) = Sum.inl b:=λ q=>e (Sum.inl.inj q)
  rw [decide_eq_false h]
  exact (beq_eq_false_iff_ne.mpr e).symm
theorem key_rr (a b : Str) : decide ((Sum.inr a : Key) = Sum.inr b) = decide (a = b):=by
 by_cases e : a = b
 ·subst e; simp
 ·have h : ¬ (Sum.inr a : Key) = Sum.inr b:=λ q=>e (Sum.inr.inj q)
  rw [decide_eq_false h,decide_eq_false e]
theorem key_lr (a : Int) (b : Str) : decide ((Sum.inl a : Key) = Sum.inr b) = false:=decide_eq_false (λ q=>nomatch q)
theorem key_rl (a : Str) (b : Int) : decide ((Sum.inr a : Key) = Sum.inl b) = false:=decide_eq_false (λ q=>nomatch q)
def mixKind (prog : Program) (w : World) : PySem.KeyKind prog w Key where
 is:=keyIs
 hash:=keyH w
 inj:=λ v a b ha hb=>by
  rcases keyIs_shape ha with ⟨i,t,rfl,rfl⟩ | ⟨x,t,rfl,rfl⟩
  ·rcases keyIs_shape hb with ⟨j,u,rfl,e⟩ | ⟨y,u,rfl,e⟩
   ·injection e with e1 _; rw [e1]
   ·exact nomatch e
  ·rcases keyIs_shape hb with ⟨j,u,rfl,e⟩ | ⟨y,u,rfl,e⟩
   ·exact nomatch e
   ·injection e with e1 _; rw [e1]
 byValue:=λ k v h=>by
  rcases keyIs_shape h with ⟨i,t,rfl,rfl⟩ | ⟨x,t,rfl,rfl⟩ <;> rfl
 pyHash:=λ hv h=>by
  rcases keyIs_shape hv with ⟨i,t,rfl,rfl⟩ | ⟨x,t,rfl,rfl⟩
  ·exact wpAny_pyHash_int h
  ·exact wpAny_pyHash_str h
 eqBool:=λ hu hv h=>by
  rcases keyIs_shape hu with ⟨i,t,rfl,rfl⟩ | ⟨x,t,rfl,rfl⟩
  ·rcases keyIs_shape hv with ⟨j,u,rfl,rfl⟩ | ⟨y,u,rfl,rfl⟩
   ·rw [key_ll] at h; exact wpAny_eqBool_int h
   ·rw [key_lr] at h; exact SeqAt.EqAt.int_str i t y u _ _ _ _ h
  ·rcases keyIs_shape hv with ⟨j,u,rfl,rfl⟩ | ⟨y,u,rfl,rfl⟩
   ·rw [key_rl] at h; exact SeqAt.EqAt.str_int x t j u _ _ _ _ h
   ·rw [key_rr] at h; exact wpAny_eqBool_str h
 «strs»:=λ k x t v h=>by
  rcases keyIs_shape h with ⟨i,u,rfl,e⟩ | ⟨y,u,rfl,e⟩
  ·exact nomatch e
  ·injection e with e1 _
   subst e1
   cases v <;> rfl
theorem mixKind_int (prog : Program) (w : World) (i : Int) (t : Tok) : (mixKind prog w).is (.inl i) (.int i t) = true:=keyIs_int i t
theorem mixKind_str (prog : Program) (w : World) (x : Str) (t : Tok) : (mixKind prog w).is (.inr x) (.str x t) = true:=keyIs_str x t
end L2
namespace L2
open PySem PySem.Spec PyProof.Rows
inductive V where
 | non | bl (b : Bool) | int (i : Int) | str (x : Str) | byt (b : Array UInt8) | flt (b : UInt64) | ref (a : Addr) | ty (n : String)
 deriving DecidableEq
def RelV : V -> Value -> Prop
 | .non,u=>u = Value.none
 | .bl b,u=>u = Value.bool b
 | .int i,u=>∃ t,u = Value.int i t
 | .str x,u=>∃ t,u = Value.str x t
 | .byt b,u=>∃ t,u = Value.bytes b t
 | .flt b,u=>∃ t,u = Value.float b t
 | .ref a,u=>u = Value.ref a
 | .ty n,u=>u = Value.type n
abbrev Vals : List V -> List Value -> Prop:=Paired RelV
theorem Vals.length {xs : List V} {us : List Value} (r : Vals xs us) : xs.length = us.length:=Paired.length r
theorem Vals.get : ∀ {xs : List V} {us : List Value} {i : Nat} {x : V},Vals xs us -> xs[i]? = some x -> ∃ u,us[i]? = some u /\ RelV x u
 | _,_,_,_,.nil,e=>by simp at e
 | _,_,0,_,.cons r _,e=>by simp at e; subst e; exact ⟨_,rfl,r⟩
 | _,_,i + 1,x,.cons _ t,e=>by
   obtain ⟨u,h1,h2⟩:=Vals.get (i:=i) (x:=x) t (by simpa using e)
   exact ⟨u,by simpa using h1,h2⟩
theorem Vals.set {x : V} {u : Value} (r : RelV x u) : ∀ {xs : List V} {us : List Value} (i : Nat),Vals xs us -> Vals (xs.set i x) (us.set i u)
 | _,_,_,.nil=>.nil
 | _,_,0,.cons _ t=>.cons r t
 | _,_,i + 1,.cons q t=>.cons q (Vals.set r i t)
theorem Vals.append : ∀ {xs ys : List V} {us ws : List Value},Vals xs us -> Vals ys ws -> Vals (xs ++ ys) (us ++ ws)
 | _,_,_,_,.nil,s=>s
 | _,_,_,_,.cons r t,s=>.cons r (Vals.append t s)
theorem Vals.take : ∀ {xs : List V} {us : List Value} (n : Nat),Vals xs us -> Vals (xs.take n) (us.take n)
 | _,_,0,_=>.nil
 | _,_,_ + 1,.nil=>.nil
 | _,_,n + 1,.cons r t=>.cons r (Vals.take n t)
theorem Vals.drop : ∀ {xs : List V} {us : List Value} (n : Nat),Vals xs us -> Vals (xs.drop n) (us.drop n)
 | _,_,0,r=>r
 | _,_,_ + 1,.nil=>.nil
 | _,_,n + 1,.cons _ t=>Vals.drop n t
theorem Vals.none_of : ∀ {xs : List V} {us : List Value} {i : Nat},Vals xs us -> xs[i]? = none -> us[i]? = none:=λ {xs us i} r e=>by
 have h1:=r.length
 have h2 : xs.length <= i:=List.getElem?_eq_none_iff.mp e
 exact List.getElem?_eq_none_iff.mpr (by omega)
def RelO : Option V -> Option Value -> Prop
 | some v,some u=>RelV v u
 | none,none=>True
 | _,_=>False
def KV {κ : Type} : List (κ × V) -> List (κ × Value) -> Prop:=Paired λ (p : κ × V) (q : κ × Value)=>p.1 = q.1 /\ RelV p.2 q.2
def kV : Key -> V
 | .inl i=>.int i
 | .inr x=>.str x
inductive HO where
 | lst (xs : List V)
 | tup (xs : List V)
 | dK (kvs : List (Key × V)) | dT (kvs : List (List Key × V))
 | set (S : Int -> Bool) (n : Nat)
 | ins (C dx : Addr) (fs : List (Str × V))
 | own (x : Addr)
 | xd (fs : List (Str × V))
 | met (f x : Addr)
 | rng (lo hi : Int)
 | frz (o : Obj) (u : HO)
 | tbl (ps : Array Value)
 | ext (φ : Heap -> Prop)
abbrev Hp:=Addr -> Option HO
def upd (H : Hp) (a : Addr) (o : HO) : Hp:=λ b=>if b = a then some o else H b
theorem upd_same {H : Hp} {a : Addr} {o : HO} : upd H a o a = some o:=by unfold upd; rw [if_pos rfl]
theorem upd_ne {H : Hp} {a b : Addr} {o : HO} (h : b ≠ a) : upd H a o b = H b:=by unfold upd; rw [if_neg h]
theorem upd_upd {H : Hp} {a : Addr} {o u : HO} : upd (upd H a o) a u = upd H a u:=by
 funext b; unfold upd; split <;> rfl
theorem ne_of {H : Hp} {a b : Addr} {o u : HO} (h : H a = some o) (h' : H b = some u) (d : o ≠ u) : a ≠ b:=by
 intro e; subst e; rw [h] at h'; exact d (Option.some.inj h')
theorem ne_of_none {H : Hp} {a b : Addr} {o : HO} (h : H a = some o) (h' : H b = none) : a ≠ b:=by
 intro e; subst e; rw [h] at h'; cases h'
section
variable (P : Program) (w : World)
def ObjOk (H : Hp) (h : Heap) (a : Addr) : HO -> Prop
 | .lst xs=>xs.length <= sizeLine /\ ∃ (its : List Value) (n : Nat),Vals xs its /\ h.get? a = some { cls:=.type "list",data:=.seq its.toArray n }
 | .tup xs=>xs.length <= sizeLine /\ ∃ its : List Value,Vals xs its /\ IsTup h a its.toArray
 | .dK kvs=>kvs.length <= sizeLine /\ (a == sysModules) = false /\ ∃ vs,KV kvs vs /\ h.DictOf (mixKind P w) a vs
 | .dT kvs=>kvs.length <= sizeLine /\ (a == sysModules) = false /\ ∃ xs : List (List Key × Addr × Value),
  Paired (λ (p : List Key × V) (q : List Key × Addr × Value)=>p.1 = q.1 /\ H q.2.1 = some (.tup (p.1.map kV)) /\ RelV p.2 q.2.2) kvs xs /\
  ∃ o es ep,h.get? a = some o /\ o.ExactDict /\ o.data = .dict es ep /\ es.toList = xs.map (entryOfKey (tupleKind (mixKind P w))) /\ (xs.map (·.1)).Nodup
 | .set S n=>h.SetOf (intKind P w) a S n
 | .ins C dx fs=>H dx = some (.own a) /\ fs.length <= 1000 /\ dx ≠ a /\ h.get? a = some (PySem.W.instObj C dx) /\
  ∃ mA,h.Ns1 dx mA /\ (∀ f,RelO (fs.lookup f) (mA f)) /\ PySem.Within mA (fs.map (·.1))
 | .own _=>∃ o,h.get? a = some o
 | .xd fs=>∃ mA,h.Ns1 a mA /\ ∀ f,RelO (fs.lookup f) (mA f)
 | .rng lo hi=>∃ t u v,h.get? a = some { cls:=.type "range",data:=.fields #[.int lo t,.int hi u,.int 1 v] }
 | .frz o u=>h.get? a = some o /\ ObjOk H h a u
 | .tbl ps=>h.get? a = some { cls:=.none,data:=.fields ps }
 | .met f x=>h.get? a = some (PySem.W.methodObj (.ref f) (.ref x))
 | .ext φ=>φ h /\ (∃ o,h.get? a = some o) /\ ∀ h1 h2 : Heap,φ h1 -> (∀ o,h1.get? a = some o -> h2.get? a = some o) -> φ h2
def HOk (H : Hp) (h : Heap) : Prop:=∀ a o,H a = some o -> ObjOk P w H h a o
end
section
variable {P : Program} {w : World} {H H' : Hp} {h h' : Heap} {a : Addr} {o : HO}
theorem ObjOk.lt (x : ObjOk P w H h a o) : a < h.objs.size:=by
 cases o with
 | lst xs=>obtain ⟨_,_,_,_,e⟩:=x; exact Heap.lt_size e
 | tup xs=>obtain ⟨_,_,_,p⟩:=x; exact p.lt
 | dK kvs=>obtain ⟨_,_,_,_,o,_,_,e,_⟩:=x; exact Heap.lt_size e
 | dT kvs=>obtain ⟨_,_,_,_,o,_,_,e,_⟩:=x; exact Heap.lt_size e
 | set S n=>obtain ⟨o,_,_,_,e,_⟩:=x; exact Heap.lt_size e
 | ins C dx fs=>obtain ⟨_,_,_,e,_⟩:=x; exact Heap.lt_size e
 | own y=>obtain ⟨_,e⟩:=x; exact Heap.lt_size e
 | xd fs=>obtain ⟨_,⟨_,_,_,e,_⟩,_⟩:=x; exact Heap.lt_size e
 | rng lo hi=>obtain ⟨_,_,_,e⟩:=x; exact Heap.lt_size e
 | frz ob u=>obtain ⟨e,_⟩:=x; exact Heap.lt_size e
 | tbl ps=>exact Heap.lt_size (show h.get? a = some _ from x)
 | met f y=>exact Heap.lt_size (show h.get? a = some _ from x)
 | ext φ=>obtain ⟨_,⟨_,e⟩,_⟩:=x; exact Heap.lt_size e
theorem Paired.mapP {α β : Type} {F G : α -> β -> Prop} : ∀ {l₁ : List α} {l₂ : List β},Paired F l₁ l₂ -> (∀ a b,F a b -> G a b) -> Paired G l₁ l₂
 | _,_,.nil,_=>.nil
 | _,_,.cons r t,f=>.cons (f _ _ r) (Paired.mapP t f)
theorem ObjOk.stay (x : ObjOk P w H h a o) (k : ∀ b u,(b = a \/ H b = some (.own a)) -> h.get? b = some u -> h'.get? b = some u)
 (ho : ∀ b,H b = some (.own a) -> H' b = some (.own a)) (ht : ∀ b xs,H b = some (.tup xs) -> H' b = some (.tup xs)) : ObjOk P w H' h' a o:=by
 induction o with
 | lst xs=>obtain ⟨z,its,n,r,e⟩:=x; exact ⟨z,its,n,r,k _ _ (.inl rfl) e⟩
 | tup xs=>obtain ⟨z,its,r,ob,e,c⟩:=x; exact ⟨z,its,r,ob,k _ _ (.inl rfl) e,c⟩
 | dK kvs=>obtain ⟨z,y,vs,r,ob,es,ep,e,c⟩:=x; exact ⟨z,y,vs,r,ob,es,ep,k _ _ (.inl rfl) e,c⟩
 | dT kvs =>
   obtain ⟨z,y,xs,r,ob,es,ep,e,c⟩:=x
   exact ⟨z,y,xs,Paired.mapP r λ p q z=>⟨z.1,ht _ _ z.2.1,z.2.2⟩,ob,es,ep,k _ _ (.inl rfl) e,c⟩
 | set S n=>obtain ⟨ob,es,ep,t,e,c⟩:=x; exact ⟨ob,es,ep,t,k _ _ (.inl rfl) e,c⟩
 | ins C dx fs =>
   obtain ⟨d,z,ne,e,mA,⟨od,es,ep,e2,c⟩,r⟩:=x
   exact ⟨ho _ d,z,ne,k _ _ (.inl rfl) e,mA,⟨od,es,ep,k _ _ (.inr d) e2,c⟩,r⟩
 | own y=>obtain ⟨ob,e⟩:=x; exact ⟨ob,k _ _ (.inl rfl) e⟩
 | xd fs=>obtain ⟨mA,⟨od,es,ep,e,c⟩,r⟩:=x; exact ⟨mA,⟨od,es,ep,k _ _ (.inl rfl) e,c⟩,r⟩
 | rng lo hi=>obtain ⟨t,u,v,e⟩:=x; exact ⟨t,u,v,k _ _ (.inl rfl) e⟩
 | frz ob u ih=>obtain ⟨e,q⟩:=x; exact ⟨k _ _ (.inl rfl) e,ih q⟩
 | tbl ps =>
   have e : h.get? a = some { cls:=.none,data:=.fields ps }:=x
   show h'.get? a = some { cls:=.none,data:=.fields ps }
   exact k a _ (.inl rfl) e
 | met f y =>
   have e : h.get? a = some (PySem.W.methodObj (.ref f) (.ref y)):=x
   show h'.get? a = some (PySem.W.methodObj (.ref f) (.ref y))
   exact k a _ (.inl rfl) e
 | ext φ=>obtain ⟨p,⟨o,e⟩,st⟩:=x; exact ⟨st _ _ p λ o q=>k _ _ (.inl rfl) q,⟨o,k _ _ (.inl rfl) e⟩,st⟩
theorem HOk.lt (x : HOk P w H h) (e : H a = some o) : a < h.objs.size:=(x a o e).lt
theorem HOk.fresh (x : HOk P w H h) (e : h.objs.size <= a) : H a = none:=by
 cases q : H a with
 | none=>rfl
 | some u=>exact absurd (Nat.lt_of_lt_of_le (x.lt q) e) (Nat.lt_irrefl _)
theorem HOk.kept (x : HOk P w H h) (k : ∀ b u,h.get? b = some u -> h'.get? b = some u) : HOk P w H h':=λ a o e =>
 (x a o e).stay (λ b u _ q=>k b u q) (λ _ q=>q) λ _ _ q=>q
theorem HOk.laid (x : HOk P w H h) (k : ∀ b u,h.get? b = some u -> h'.get? b = some u) (hp : h.objs.size <= a) (new : ObjOk P w (upd H a o) h' a o) : HOk P w (upd H a o) h':=λ b u e=>by
 have hn:=x.fresh hp
 by_cases hb : b = a
 ·subst hb; rw [upd_same] at e; cases e; exact new
 ·rw [upd_ne hb] at e
  exact (x b u e).stay (λ c v _ q=>k c v q) (λ c q=>by rw [upd_ne (ne_of_none q hn)]; exact q) λ c xs q=>by rw [upd_ne (ne_of_none q hn)]; exact q
end
def Rd (H : Hp) (a : Addr) (u : HO) : Prop:=H a = some u \/ ∃ o,H a = some (.frz o u)
theorem Rd.of {H : Hp} {a : Addr} {u : HO} (h : H a = some u) : Rd H a u:=.inl h
theorem Rd.ok {P : Program} {w : World} {H : Hp} {h : Heap} {a : Addr} {u : HO} (r : Rd H a u) (x : HOk P w H h) : ObjOk P w H h a u:=by
 rcases r with r | ⟨o,r⟩
 ·exact x a u r
 ·obtain ⟨_,q⟩:=x a _ r
  exact q
def Mut : Option HO -> Prop
 | some (.lst _)=>True
 | some (.dK _)=>True
 | some (.dT _)=>True
 | some (.set _ _)=>True
 | some (.ins _ _ _)=>True
 | some (.ext _)=>True
 | _=>False
section
variable {P : Program} {w : World} {H : Hp} {h h' : Heap} {x e : Addr} {o' : HO}
theorem HOk.write (ok : HOk P w H h) (mu : Mut (H x)) (he : e = x \/ H e = some (.own x)) (k : ∀ b u,b ≠ e -> h.get? b = some u -> h'.get? b = some u) (heo : ∃ u,h'.get? e = some u)
 (new : ObjOk P w (upd H x o') h' x o') : HOk P w (upd H x o') h':=λ b u q=>by
 have nown : ∀ c y,H c = some (.own y) -> c ≠ x:=λ c y r z=>by subst z; rw [r] at mu; exact mu
 have ntup : ∀ c xs,H c = some (.tup xs) -> c ≠ x:=λ c xs r z=>by subst z; rw [r] at mu; exact mu
 by_cases hb : b = x
 ·subst hb; rw [upd_same] at q; cases q; exact new
 ·rw [upd_ne hb] at q
  by_cases hbe : b = e
  ·have q' : H b = some (.own x):=by
    rcases he with z | z
    ·exact absurd (hbe.trans z) hb
    ·rw [hbe]; exact z
   rw [q] at q'; cases q'
   obtain ⟨v,hv⟩:=heo
   exact ⟨v,by rw [hbe]; exact hv⟩
  ·refine (ok b u q).stay (λ c v hc r=>k c v ?_ r) (λ c r=>by rw [upd_ne (nown c b r)]; exact r) λ c xs r=>by rw [upd_ne (ntup c xs r)]; exact r
   rcases hc with rfl | hc
   ·exact hbe
   ·rintro rfl
    rcases he with z | z
    ·exact nown c b hc z
    ·rw [hc] at z; cases z; exact hb rfl
end
structure Un (fs ex : List Addr) (H H' : Hp) (h h' : Heap) : Prop where
 keep : ∀ b o,h.get? b = some o -> H b = none -> b ∉ fs -> b ∉ ex -> h'.get? b = some o
 slot : ∀ b o,h.get? b = some o -> H b = none -> b ∈ fs -> b ∉ ex -> ∃ sl,h'.get? b = some { o with slots:=sl }
 free : ∀ b o,h.get? b = some o -> H b = none -> b ∉ ex -> H' b = none
 there : ∀ b o,h.get? b = some o -> b ∉ ex -> ∃ o',h'.get? b = some o'
 tups : ∀ b xs,H b = some (.tup xs) -> H' b = some (.tup xs)
 frzs : ∀ b o u,H b = some (.frz o u) -> H' b = some (.frz o u)
 tbls : ∀ b ps,H b = some (.tbl ps) -> ∃ more,H' b = some (.tbl (ps ++ more))
section
variable {fs fs' ex ex' : List Addr} {H H1 H2 : Hp} {h h1 h2 h' : Heap} {a x e : Addr} {o : HO}
theorem Un.any (u : Un fs ex H H1 h h1) {b : Addr} {ob : Obj} (q : h.get? b = some ob) (n : H b = none) (hx : b ∉ ex) : ∃ sl,h1.get? b = some { ob with slots:=sl }:=by
 by_cases hb : b ∈ fs
 ·exact u.slot b ob q n hb hx
 ·exact ⟨ob.slots,u.keep b ob q n hb hx⟩
theorem Un.trans (a : Un fs ex H H1 h h1) (b : Un fs ex H1 H2 h1 h2) : Un fs ex H H2 h h2 where
 keep:=λ c ob q n hc hx=>b.keep c ob (a.keep c ob q n hc hx) (a.free c ob q n hx) hc hx
 slot:=λ c ob q n hc hx=>by
  obtain ⟨sl,e1⟩:=a.slot c ob q n hc hx
  obtain ⟨sl',e2⟩:=b.slot c _ e1 (a.free c ob q n hx) hc hx
  exact ⟨sl',e2⟩
 free:=λ c ob q n hx=>by
  obtain ⟨o',e1⟩:=a.there c ob q hx
  exact b.free c o' e1 (a.free c ob q n hx) hx
 there:=λ c ob q hx=>by
  obtain ⟨o',e1⟩:=a.there c ob q hx
  exact b.there c o' e1 hx
 tups:=λ c xs q=>b.tups c xs (a.tups c xs q)
 frzs:=λ c ob xs q=>b.frzs c ob xs (a.frzs c ob xs q)
 tbls:=λ c ps q=>by
  obtain ⟨m1,e1⟩:=a.tbls c ps q
  obtain ⟨m2,e2⟩:=b.tbls c _ e1
  exact ⟨m1 ++ m2,by rw [e2,Array.append_assoc]⟩
theorem Un.kept (k : ∀ b u,h.get? b = some u -> h'.get? b = some u) : Un fs ex H H h h' :=
 ⟨λ b ob q _ _ _=>k b ob q,λ b ob q _ _ _=>⟨ob.slots,k b ob q⟩,λ _ _ _ n _=>n,λ b ob q _=>⟨ob,k b ob q⟩,λ _ _ q=>q,λ _ _ _ q=>q,λ _ ps q=>⟨#[],by rw [q]; simp⟩⟩
theorem Un.refl : Un fs ex H H h h:=Un.kept λ _ _ q=>q
theorem Un.laid (k : ∀ b u,h.get? b = some u -> h'.get? b = some u) (hp : h.objs.size <= a) (hn : H a = none) : Un fs ex H (upd H a o) h h' where
 keep:=λ b u q _ _ _=>k b u q
 slot:=λ b u q _ _ _=>⟨u.slots,k b u q⟩
 free:=λ b u q n _=>by rw [upd_ne (Nat.ne_of_lt (Nat.lt_of_lt_of_le (Heap.lt_size q) hp))]; exact n
 there:=λ b u q _=>⟨u,k b u q⟩
 tups:=λ b xs q=>by rw [upd_ne (ne_of_none q hn)]; exact q
 frzs:=λ b u xs q=>by rw [upd_ne (ne_of_none q hn)]; exact q
 tbls:=λ b ps q=>⟨#[],by rw [upd_ne (ne_of_none q hn),q]; simp⟩
theorem Un.write (mu : Mut (H x)) (he : e = x \/ H e = some (.own x)) (k : ∀ b u,b ≠ e -> h.get? b = some u -> h'.get? b = some u) (heo : ∃ u,h'.get? e = some u) : Un fs ex H (upd H x o) h h':=by
 have hx : ∀ b,H b = none -> b ≠ x:=λ b n z=>by subst z; rw [n] at mu; exact mu
 have hb : ∀ b,H b = none -> b ≠ e:=λ b n z=>by
  subst z
  rcases he with r | r
  ·exact hx b n r
  ·rw [n] at r; cases r
 have hm : ∀ b u,H b = some u -> ¬ Mut (some u) -> b ≠ x:=λ b u q nm z=>by subst z; rw [q] at mu; exact nm mu
 refine ⟨λ b u q n _ _=>k b u (hb b n) q,λ b u q n _ _=>⟨u.slots,k b u (hb b n) q⟩,λ b u q n _=>by rw [upd_ne (hx b n)]; exact n,λ b u q _=>?_,
  λ b xs q=>by rw [upd_ne (hm b _ q λ z=>z)]; exact q,λ b u xs q=>by rw [upd_ne (hm b _ q λ z=>z)]; exact q,λ b ps q=>⟨#[],by rw [upd_ne (hm b _ q λ z=>z),q]; simp⟩⟩
 by_cases hbe : b = e
 ·subst hbe; exact heo
 ·exact ⟨u,k b u hbe q⟩
theorem Un.mono (u : Un fs ex H H1 h h1) (hs : ∀ b ∈ fs,b ∈ fs') (hx : ∀ b ∈ ex,b ∈ ex') : Un fs' ex' H H1 h h1 :=
 ⟨λ b ob q n hb he=>u.keep b ob q n (λ z=>hb (hs b z)) λ z=>he (hx b z),λ _ _ q n _ he=>u.any q n λ z=>he (hx _ z),λ b ob q n he=>u.free b ob q n λ z=>he (hx b z),λ b ob q he=>u.there b ob q λ z=>he (hx b z),u.tups,u.frzs,u.tbls⟩
end
def trk (h : Heap) (H : Hp) : List Addr:=(List.range h.objs.size).filter λ a=>(H a).isSome
def hidT (h : Heap) (H : Hp) : Heap:=PySem.W.hideAll h (trk h H)
theorem hidT_size (h : Heap) (H : Hp) : (hidT h H).objs.size = h.objs.size:=PySem.W.hideAll_size _ _
theorem hidT_get {h : Heap} {H : Hp} {b : Addr} {o : Obj} (e : h.get? b = some o) (n : H b = none) : (hidT h H).get? b = some o :=
 PySem.W.hideAll_get _ e λ hm=>by
  have q : (H b).isSome = true:=(List.mem_filter.mp hm).2
  rw [n] at q; simp at q
theorem of_hidT {h : Heap} {H : Hp} {b : Addr} {o : Obj} (e : (hidT h H).get? b = some o) : h.get? b = some o /\ H b = none:=by
 have e' : h.get? b = some o:=PySem.W.of_hideAll (trk h H) e
 refine ⟨e',?_⟩
 cases q : H b with
 | none=>rfl
 | some x =>
   have hm : b ∈ trk h H:=List.mem_filter.mpr ⟨List.mem_range.mpr (Heap.lt_size e'),by simp [q]⟩
   have z : (hidT h H).get? b = none:=PySem.W.hideAll_none (trk h H) hm
   rw [z] at e; cases e
def allNews (g h : Heap) (L : Addr) : List (Addr × Obj):=(List.range h.objs.size).filterMap λ a=>if a = L \/ (g.get? a).isSome = true then none else (h.get? a).map λ o=>(a,o)
def rest (g h : Heap) (L d : Addr) : List (Addr × Obj):=(allNews g h L).filter λ p=>decide (p.1 ≠ d)
end L2
namespace L2
open PySem PySem.Spec PyProof.Rows
structure Mod (K : PySem.W.Frag) (mg : Str -> Option Value) (base : Heap) : Prop where
 kin : K.In base
 glob : base.Ns mainGlobals mg
 blt : ∃ mb,base.Ns builtinsNs mb /\ ∀ x : Str,x ≠ "__name__" -> mb x = bootBuiltins x
 nolimit : base.NoLimit
structure Cx where
 prog : Program
 w : World
 K : PySem.W.Frag
 mg : Str -> Option Value
 base : Heap
 A : Around
 N : List Str
 s₀ : Shared
 H₀ : Hp
 env : Env
 outer : List Env
 stack : List Env
 ex : List Addr
 fn : Str -> Bool
 calm : Bool
 pn : List (Addr × Obj)
 xe : Value -> Shared -> Prop
def frs (l : List Env) : List Addr:=l.filterMap (·.frame)
abbrev Cx.fs (X : Cx) : List Addr:=frs X.outer
def Vis (sc : Scope) (x : Str) : Prop:=sc.names.lookup x = some .local \/ sc.names.lookup x = some .cell \/ sc.names.lookup x = some .free
def Loc (sc : Scope) (x : Str) : Prop:=sc.names.lookup x = some .local \/ sc.names.lookup x = some .cell
def Look (env : Env) (h : Heap) (m : Str -> Option Value) (x : Str) (u : Value) : Prop :=
 (env.kindOf x = some .local /\ m x = some u) \/ ((env.kindOf x = some .cell \/ env.kindOf x = some .free) /\ ∃ c,env.cells.lookup x = some c /\ h.IsCell c (some u))
structure Cx.Ok (X : Cx) : Prop where
 mod : Mod X.K X.mg X.base
 kind : X.env.scope.kind = .function
 glob : X.env.globals = mainGlobals
 blt : X.env.builtins = builtinsNs
 above : X.s₀.heap.objs.size <= X.env.locals
 inj : ∀ x y c,X.env.cells.lookup x = some c -> X.env.cells.lookup y = some c -> x = y
 has : ∀ x,(X.env.kindOf x = some .cell \/ X.env.kindOf x = some .free) -> ∃ c,X.env.cells.lookup x = some c
 cab : ∀ x c,X.fn x = true -> X.env.cells.lookup x = some c -> X.s₀.heap.objs.size <= c
 hd : X.calm = true -> X.A.handled = none
 frames : X.A.frames = some X.stack
 stk : X.stack = X.outer \/ (X.stack = X.env :: X.outer /\ X.env.frame = some X.env.locals)
 exf : ∀ b ∈ X.ex,b ≠ X.env.locals /\ ∀ x c,X.env.cells.lookup x = some c -> c ≠ b
 bs : ∀ b o,X.base.get? b = some o -> X.s₀.heap.get? b = some o /\ X.H₀ b = none
 bsz : X.base.objs.size <= X.s₀.heap.objs.size
 noex : ∀ b o,X.base.get? b = some o -> b ∉ X.ex
 exfs : ∀ b ∈ X.ex,b ∉ X.fs
 funs : X.s₀.heap.FunFrames X.base X.outer
 frf : ∀ b ∈ X.fs,X.H₀ b = none
structure Inv (X : Cx) (pins : List (Addr × Obj)) (σ : List (Option V)) (H : Hp) (s : Shared) : Prop where
 ok : X.Ok
 os : s.os = X.s₀.os
 bare : AllBare s.gens
 base : Un X.fs X.ex X.H₀ H X.s₀.heap s.heap
 loc : ∃ m,s.heap.Ns X.env.locals m /\ ∀ (i : Nat) (x : Str) (v : V),X.N[i]? = some x -> σ[i]? = some (some v) -> Vis X.env.scope x -> ∃ u,RelV v u /\ Look X.env s.heap m x u
 cell : ∀ x c,X.env.cells.lookup x = some c -> ∃ v,s.heap.IsCell c v
 free : H X.env.locals = none
 freeC : ∀ x c,X.env.cells.lookup x = some c -> H c = none
 pin : ∀ p ∈ X.pn ++ pins,s.heap.get? p.1 = some p.2 /\ H p.1 = none /\ p.1 ≠ X.env.locals /\ p.1 ∉ X.fs /\ ∀ v,p.2.data ≠ .cell v
 hok : HOk X.prog X.w H s.heap
 len : σ.length = X.N.length
section
variable {X : Cx} {pins : List (Addr × Obj)} {σ : List (Option V)} {H H' : Hp} {s : Shared} {h' : Heap}
theorem Cx.Ok.nofr (ok : X.Ok) {b : Addr} {o : Obj} (e : X.base.get? b = some o) : b ∉ X.fs:=λ hb=>by
 have:=(ok.funs.mem hb).1
 rw [e] at this; cases this
theorem Inv.bs (I : Inv X pins σ H s) : ∀ b o,X.base.get? b = some o -> s.heap.get? b = some o /\ H b = none:=λ b o e =>
 ⟨I.base.keep b o (I.ok.bs b o e).1 (I.ok.bs b o e).2 (I.ok.nofr e) (I.ok.noex b o e),I.base.free b o (I.ok.bs b o e).1 (I.ok.bs b o e).2 (I.ok.noex b o e)⟩
theorem Inv.bk (I : Inv X pins σ H s) : ∀ b o,X.base.get? b = some o -> s.heap.get? b = some o:=λ b o e=>(I.bs b o e).1
theorem Inv.mod (I : Inv X pins σ H s) : Mod X.K X.mg X.base:=I.ok.mod
theorem Inv.kIn (I : Inv X pins σ H s) : X.K.In s.heap:=I.ok.mod.kin.keeps I.bk
theorem Inv.nolimit (I : Inv X pins σ H s) : s.heap.NoLimit:=I.ok.mod.nolimit.keeps I.bk
theorem Inv.fr (I : Inv X pins σ H s) : ∃ m,Fr X.base X.env.locals s.heap m :=
 let ⟨m,hn,_⟩:=I.loc
 ⟨m,hn,I.bk,Nat.le_trans I.ok.bsz I.ok.above⟩
theorem Inv.lt (I : Inv X pins σ H s) : X.env.locals < s.heap.objs.size:=let ⟨_,hn,_⟩:=I.loc; hn.lt
theorem Inv.sz (I : Inv X pins σ H s) : X.s₀.heap.objs.size <= s.heap.objs.size:=Nat.le_trans I.ok.above (Nat.le_of_lt I.lt)
theorem Inv.nofs (I : Inv X pins σ H s) {a : Addr} (h : s.heap.objs.size <= a) : a ∉ X.fs:=λ hb=>by
 obtain ⟨_,o,ho,_⟩:=I.ok.funs.mem hb
 exact absurd (Nat.lt_of_lt_of_le (Heap.lt_size ho) (Nat.le_trans I.sz h)) (Nat.lt_irrefl _)
theorem Inv.cne (I : Inv X pins σ H s) : ∀ x c,X.env.cells.lookup x = some c -> c ≠ X.env.locals:=λ x c e z=>by
 obtain ⟨v,o,ho,hd⟩:=I.cell x c e
 obtain ⟨m,⟨o',es,ep,ho',hd',_⟩,_⟩:=I.loc
 rw [z,ho'] at ho; cases ho; rw [hd'] at hd; cases hd
theorem Inv.funs (I : Inv X pins σ H s) : s.heap.FunFrames X.base X.outer:=by
 have all : ∀ (l : List Env),(∀ b ∈ frs l,b ∈ X.fs) -> X.s₀.heap.FunFrames X.base l -> s.heap.FunFrames X.base l:=by
  intro l
  induction l with
  | nil=>intro _ _; trivial
  | cons env r ih =>
    intro hs hl
    obtain ⟨hk,⟨L,o,hf,hn,ho,hd⟩,hr⟩:=hl
    have hL : L ∈ X.fs:=hs L (by unfold frs; rw [List.filterMap_cons,hf]; exact List.mem_cons_self)
    obtain ⟨sl,e⟩:=I.base.slot L o ho (I.ok.frf L hL) hL λ z=>I.ok.exfs L z hL
    exact ⟨hk,⟨L,_,hf,hn,e,hd⟩,ih (λ b hb=>hs b (by unfold frs; rw [List.filterMap_cons,hf]; exact List.mem_cons_of_mem _ hb)) hr⟩
 exact all X.outer (λ _ hb=>hb) I.ok.funs
theorem Inv.stack (I : Inv X pins σ H s) : s.heap.FunFrames X.base X.stack:=by
 rcases I.ok.stk with e | ⟨e,hf⟩
 ·rw [e]; exact I.funs
 ·rw [e]
  obtain ⟨m,hn,_⟩:=I.loc
  refine .cons (by rw [I.ok.kind]; decide) hf hn ?_ I.funs
  exact Heap.get?_none_of_le (Nat.le_trans I.ok.bsz I.ok.above)
theorem Inv.stkSub (I : Inv X pins σ H s) : ∀ b ∈ frs X.stack,b ∈ X.env.locals :: X.fs:=λ b hb=>by
 rcases I.ok.stk with e | ⟨e,hf⟩
 ·rw [e] at hb; exact List.mem_cons_of_mem _ hb
 ·rw [e] at hb
  unfold frs at hb
  rw [List.filterMap_cons,hf] at hb
  exact hb
theorem Inv.stkFree (I : Inv X pins σ H s) : ∀ b ∈ frs X.stack,H b = none:=λ b hb=>by
 rcases List.mem_cons.mp (I.stkSub b hb) with e | hb
 ·rw [e]; exact I.free
 ·obtain ⟨_,o,ho,_⟩:=I.ok.funs.mem hb
  exact I.base.free b o ho (I.ok.frf b hb) λ z=>I.ok.exfs b z hb
theorem Inv.step {g' : Array GenState} {t' : Nat} {d' : Drawn} {ch : List Addr} (I : Inv X pins σ H s)
 (hch : ∀ b ∈ ch,(b ∈ X.ex \/ X.s₀.heap.objs.size <= b) /\ b ≠ X.env.locals /\ (∀ x c,X.env.cells.lookup x = some c -> c ≠ b) /\ ∀ p ∈ X.pn ++ pins,p.1 ≠ b)
 (keep : ∀ b o,b ≠ X.env.locals -> b ∉ X.fs -> b ∉ ch -> s.heap.get? b = some o -> H b = none -> h'.get? b = some o)
 (slot : ∀ b o,b ≠ X.env.locals -> b ∈ X.fs -> b ∉ ch -> s.heap.get? b = some o -> H b = none -> ∃ sl,h'.get? b = some { o with slots:=sl }) (free : ∀ b o,b ∉ ch -> s.heap.get? b = some o -> H b = none -> H' b = none)
 (there : ∀ b o,b ∉ ch -> s.heap.get? b = some o -> ∃ o',h'.get? b = some o')
 (tups : ∀ b xs,H b = some (.tup xs) -> H' b = some (.tup xs)) (frzs : ∀ b o u,H b = some (.frz o u) -> H' b = some (.frz o u)) (tbls : ∀ b ps,H b = some (.tbl ps) -> ∃ more,H' b = some (.tbl (ps ++ more)))
 (ns : ∀ m,s.heap.Ns X.env.locals m -> h'.Ns X.env.locals m) (hok : HOk X.prog X.w H' h') (hg : AllBare g') :
 Inv X pins σ H' { s with heap:=h',gens:=g',drawn:=d',toks:=t' }:=by
 have neL : ∀ b o,X.s₀.heap.get? b = some o -> b ≠ X.env.locals:=λ b o e=>Nat.ne_of_lt (Nat.lt_of_lt_of_le (Heap.lt_size e) I.ok.above)
 have neC : ∀ b o,X.s₀.heap.get? b = some o -> b ∉ X.ex -> b ∉ ch:=λ b o e hx hb=>by
  rcases (hch b hb).1 with z | z
  ·exact hx z
  ·exact absurd (Nat.lt_of_lt_of_le (Heap.lt_size e) z) (Nat.lt_irrefl _)
 have cellK : ∀ x c,X.env.cells.lookup x = some c -> ∀ v,s.heap.IsCell c v -> h'.IsCell c v:=λ x c e v ⟨o,ho,hd⟩=>by
  have nch : c ∉ ch:=λ z=>(hch c z).2.2.1 x c e rfl
  by_cases hc : c ∈ X.fs
  ·obtain ⟨sl,q⟩:=slot c o (I.cne x c e) hc nch ho (I.freeC x c e)
   exact ⟨_,q,hd⟩
  ·exact ⟨o,keep c o (I.cne x c e) hc nch ho (I.freeC x c e),hd⟩
 refine ⟨I.ok,I.os,hg,⟨λ b o e n hb hx=>?_,λ b o e n hb hx=>?_,λ b o e n hx=>?_,λ b o e hx=>?_,λ b xs e=>tups b xs (I.base.tups b xs e),λ b o xs e=>frzs b o xs (I.base.frzs b o xs e),λ b ps e=>?_⟩,?_,λ x c e=>?_,?_,λ x c e=>?_,λ p hp=>?_,hok,I.len⟩
 ·exact keep b o (neL b o e) hb (neC b o e hx) (I.base.keep b o e n hb hx) (I.base.free b o e n hx)
 ·obtain ⟨sl,e1⟩:=I.base.slot b o e n hb hx
  obtain ⟨sl',e2⟩:=slot b _ (neL b o e) hb (neC b o e hx) e1 (I.base.free b o e n hx)
  exact ⟨sl',e2⟩
 ·obtain ⟨o',e1⟩:=I.base.there b o e hx
  exact free b o' (neC b o e hx) e1 (I.base.free b o e n hx)
 ·obtain ⟨o',e1⟩:=I.base.there b o e hx
  exact there b o' (neC b o e hx) e1
 ·obtain ⟨m1,e1⟩:=I.base.tbls b ps e
  obtain ⟨m2,e2⟩:=tbls b _ e1
  exact ⟨m1 ++ m2,by rw [e2,Array.append_assoc]⟩
 ·obtain ⟨m,hn,hl⟩:=I.loc
  refine ⟨m,ns m hn,λ i x v e1 e2 e3=>?_⟩
  obtain ⟨u,r,l⟩:=hl i x v e1 e2 e3
  refine ⟨u,r,?_⟩
  rcases l with l | ⟨k,c,e,z⟩
  ·exact .inl l
  ·exact .inr ⟨k,c,e,cellK x c e _ z⟩
 ·obtain ⟨v,z⟩:=I.cell x c e
  exact ⟨v,cellK x c e v z⟩
 ·obtain ⟨m,⟨o,_,_,ho,_⟩,_⟩:=I.loc
  exact free _ o (λ z=>(hch _ z).2.1 rfl) ho I.free
 ·obtain ⟨v,o,ho,hd⟩:=I.cell x c e
  exact free c o (λ z=>(hch c z).2.2.1 x c e rfl) ho (I.freeC x c e)
 ·obtain ⟨e,n,ne,nf,d⟩:=I.pin p hp
  have nch : p.1 ∉ ch:=λ z=>(hch p.1 z).2.2.2 p hp rfl
  exact ⟨keep p.1 p.2 ne nf nch e n,free p.1 p.2 nch e n,ne,nf,d⟩
theorem Inv.un {t' : Nat} (I : Inv X pins σ H s) (u : Un X.fs [] H H' s.heap h') (hok : HOk X.prog X.w H' h') : Inv X pins σ H' { s with heap:=h',toks:=t' }:=by
 obtain ⟨m,⟨o,es,ep,ho,r⟩,_⟩:=id I.loc
 obtain ⟨sl,hL⟩:=u.any ho I.free (by simp)
 exact I.step (g':=s.gens) (d':=s.drawn) (ch:=[]) (λ _ z=>nomatch z) (λ b o _ hb _ e n=>u.keep b o e n hb (by simp)) (λ b o _ hb _ e n=>u.slot b o e n hb (by simp)) (λ b o _ e n=>u.free b o e n (by simp)) (λ b o _ e=>u.there b o e (by simp)) u.tups u.frzs u.tbls (λ m' hm=>by
  obtain ⟨o',es',ep',ho',r'⟩:=hm
  rw [ho] at ho'; cases ho'
  exact ⟨_,es',ep',hL,r'⟩) hok I.bare
theorem Inv.call {g' : Array GenState} {t' : Nat} {d' : Drawn} {ch : List Addr} (I : Inv X pins σ H s) (u : Un (frs X.stack) ch H H' s.heap h') (hok : HOk X.prog X.w H' h') (hg : AllBare g')
 (hch : ∀ b ∈ ch,(b ∈ X.ex \/ X.s₀.heap.objs.size <= b) /\ b ≠ X.env.locals /\ (∀ x c,X.env.cells.lookup x = some c -> c ≠ b) /\ ∀ p ∈ X.pn ++ pins,p.1 ≠ b) :
 Inv X pins σ H' { s with heap:=h',gens:=g',drawn:=d',toks:=t' }:=by
 obtain ⟨m,⟨o,es,ep,ho,r⟩,_⟩:=id I.loc
 obtain ⟨sl,hL⟩:=u.any ho I.free λ z=>(hch _ z).2.1 rfl
 exact I.step (ch:=ch) hch (λ b o hL hb hc e n=>u.keep b o e n (λ z=>(List.mem_cons.mp (I.stkSub b z)).elim hL hb) hc) (λ b o _ _ hc e n=>u.any e n hc) (λ b o hc e n=>u.free b o e n hc) (λ b o hc e=>u.there b o e hc) u.tups u.frzs u.tbls (λ m' hm=>by
  obtain ⟨o',es',ep',ho',r'⟩:=hm
  rw [ho] at ho'; cases ho'
  exact ⟨_,es',ep',hL,r'⟩) hok hg
theorem Inv.turned {t' : Nat} {it : Addr} (I : Inv X pins σ H s) (k : ∀ b o,b ≠ it -> s.heap.get? b = some o -> h'.get? b = some o) (hn : H it = none) (hL : it ≠ X.env.locals)
 (h1 : it ∈ X.ex \/ X.s₀.heap.objs.size <= it) (h2 : ∀ x c,X.env.cells.lookup x = some c -> c ≠ it) (h3 : ∀ p ∈ X.pn ++ pins,p.1 ≠ it) : Inv X pins σ H { s with heap:=h',toks:=t' }:=by
 have nit : ∀ b u,H b = some u -> b ≠ it:=λ b u e z=>by rw [z,hn] at e; cases e
 refine I.step (g':=s.gens) (d':=s.drawn) (ch:=[it]) (λ b hb=>?_) (λ b o _ _ hc e _=>k b o (λ z=>hc (by simp [z])) e) (λ b o _ _ hc e _=>⟨o.slots,k b o (λ z=>hc (by simp [z])) e⟩) (λ _ _ _ _ n=>n)
  (λ b o hc e=>⟨o,k b o (λ z=>hc (by simp [z])) e⟩) (λ _ _ e=>e) (λ _ _ _ e=>e) (λ b ps e=>⟨#[],by rw [e]; simp⟩) (λ m hm=>?_) (λ b u e=>?_) I.bare
 ·have e : b = it:=by simpa using hb
  subst e
  exact ⟨h1,hL,h2,h3⟩
 ·obtain ⟨o,es,ep,ho,r⟩:=hm
  exact ⟨o,es,ep,k _ o (Ne.symm hL) ho,r⟩
 ·refine (I.hok b u e).stay (λ c v hc q=>k c v ?_ q) (λ _ q=>q) λ _ _ q=>q
  rcases hc with z | z
  ·rw [z]; exact nit b u e
  ·exact nit c _ z
theorem Inv.tok (I : Inv X pins σ H s) (t : Nat) : Inv X pins σ H { s with toks:=t }:=I.un (h':=s.heap) (t':=t) Un.refl I.hok
theorem Inv.kept {t' : Nat} (I : Inv X pins σ H s) (k : ∀ b u,s.heap.get? b = some u -> h'.get? b = some u) : Inv X pins σ H { s with heap:=h',toks:=t' }:=I.un (Un.kept k) (I.hok.kept k)
theorem Inv.laid {a : Addr} {o : HO} {t' : Nat} (I : Inv X pins σ H s) (k : ∀ b u,s.heap.get? b = some u -> h'.get? b = some u) (hp : s.heap.objs.size <= a) (new : ObjOk X.prog X.w (upd H a o) h' a o) :
 Inv X pins σ (upd H a o) { s with heap:=h',toks:=t' }:=I.un (Un.laid k hp (I.hok.fresh hp)) (I.hok.laid k hp new)
theorem Inv.write {x e : Addr} {o : HO} {t' : Nat} (I : Inv X pins σ H s) (mu : Mut (H x)) (he : e = x \/ H e = some (.own x)) (k : ∀ b u,b ≠ e -> s.heap.get? b = some u -> h'.get? b = some u) (heo : ∃ u,h'.get? e = some u)
 (new : ObjOk X.prog X.w (upd H x o) h' x o) : Inv X pins σ (upd H x o) { s with heap:=h',toks:=t' }:=I.un (Un.write mu he k heo) (I.hok.write mu he k heo new)
theorem Inv.pins_of {pins' : List (Addr × Obj)} (I : Inv X pins σ H s) (h : ∀ p ∈ pins',s.heap.get? p.1 = some p.2 /\ H p.1 = none /\ p.1 ≠ X.env.locals /\ p.1 ∉ X.fs /\ ∀ v,p.2.data ≠ .cell v) : Inv X pins' σ H s :=
 ⟨I.ok,I.os,I.bare,I.base,I.loc,I.cell,I.free,I.freeC,λ p hp=>(List.mem_append.mp hp).elim (λ z=>I.pin p (List.mem_append_left _ z)) (h p),I.hok,I.len⟩
theorem nodup_ix {N : List Str} (hN : N.Nodup) {i j : Nat} {x : Str} (a : N[i]? = some x) (b : N[j]? = some x) : i = j:=by
 obtain ⟨h1,e1⟩:=List.getElem?_eq_some_iff.mp a
 obtain ⟨h2,e2⟩:=List.getElem?_eq_some_iff.mp b
 exact (List.getElem_inj hN).mp (e1.trans e2.symm)
theorem store_ok2 {M : Model} {A : Around} {E : Value -> Shared -> Prop} {i : Nat} {x : Str} {v : V} {u : Value} {Q : Unit -> Shared -> Prop} (I : Inv X pins σ H s) (hN : X.N.Nodup) (hi : X.N[i]? = some x) (hx : Loc X.env.scope x) (r : RelV v u)
 (h : ∀ s',Inv X pins (σ.set i (some v)) H s' -> (∃ a,Heap.SameBut a s.heap s'.heap /\ (a = X.env.locals \/ X.env.cells.lookup x = some a)) -> Q () s') (hf : X.fn x = true \/ X.env.scope.names.lookup x = some .local:=by first | exact .inl rfl | exact .inr rfl | assumption) : wpAny M A (storeName X.env x u) Q E s:=by
 obtain ⟨m,hn,hl⟩:=id I.loc
 have hcls : (X.env.scope.kind == .class || (X.env.scope.kind == .module && X.env.locals != X.env.globals)) = false:=by rw [I.ok.kind]; rfl
 have hiσ : i < σ.length:=by rw [I.len]; exact (List.getElem?_eq_some_iff.mp hi).1
 have cne:=I.cne
 have tracked : ∀ {a : Addr} {h' : Heap},(∃ o,s.heap.get? a = some o /\ H a = none) -> Heap.SameBut a s.heap h' -> HOk X.prog X.w H h':=λ {a h'} ha hs b ob e=>by
  obtain ⟨_,_,hfree⟩:=ha
  refine (I.hok b ob e).stay (λ c w' hc q=>(hs.2 c ?_).trans q) (λ _ q=>q) λ _ _ q=>q
  rintro rfl
  rcases hc with rfl | hc
  ·rw [hfree] at e; cases e
  ·rw [hfree] at hc; cases hc
 rcases hx with hk | hk
 ·refine wpAny_storeName_local hk hn (λ h' hn' hs=>?_) hcls
  obtain ⟨oL,_,_,hoL,_⟩:=id hn
  refine h _ ⟨I.ok,I.os,I.bare,⟨λ b o e n hb hx=>?_,λ b o e n hb hx=>?_,I.base.free,λ b o e hx=>?_,I.base.tups,I.base.frzs,I.base.tbls⟩,⟨_,hn',λ j y v' e1 e2 e3=>?_⟩,λ y c e=>?_,I.free,I.freeC,λ p hp=>?_,tracked ⟨oL,hoL,I.free⟩ hs,by simpa using I.len⟩ ⟨_,hs,.inl rfl⟩
  ·exact (hs.2 b (Nat.ne_of_lt (Nat.lt_of_lt_of_le (Heap.lt_size e) I.ok.above))).trans (I.base.keep b o e n hb hx)
  ·obtain ⟨sl,e1⟩:=I.base.slot b o e n hb hx
   exact ⟨sl,(hs.2 b (Nat.ne_of_lt (Nat.lt_of_lt_of_le (Heap.lt_size e) I.ok.above))).trans e1⟩
  ·obtain ⟨o',e1⟩:=I.base.there b o e hx
   exact ⟨o',(hs.2 b (Nat.ne_of_lt (Nat.lt_of_lt_of_le (Heap.lt_size e) I.ok.above))).trans e1⟩
  ·by_cases hj : j = i
   ·subst hj
    rw [hi] at e1; cases e1
    rw [List.getElem?_set_self hiσ] at e2
    cases e2
    exact ⟨u,r,.inl ⟨hk,by simp⟩⟩
   ·rw [List.getElem?_set_ne (Ne.symm hj)] at e2
    obtain ⟨u',r',q⟩:=hl j y v' e1 e2 e3
    refine ⟨u',r',?_⟩
    rcases q with ⟨k,e⟩ | ⟨k,c,e,z⟩
    ·refine .inl ⟨k,?_⟩
     have : y ≠ x:=λ e=>hj (nodup_ix hN e1 (e ▸ hi))
     simp [this,e]
    ·exact .inr ⟨k,c,e,z.sameBut hs (cne y c e)⟩
  ·obtain ⟨w',z⟩:=I.cell y c e
   exact ⟨w',z.sameBut hs (cne y c e)⟩
  ·obtain ⟨e,n,ne,nf,d⟩:=I.pin p hp
   exact ⟨(hs.2 p.1 ne).trans e,n,ne,nf,d⟩
 ·have hfn : X.fn x = true:=by
   rcases hf with z | z
   ·exact z
   ·rw [z] at hk; cases hk
  obtain ⟨c,hc⟩:=I.ok.has x (.inl hk)
  obtain ⟨w',z⟩:=I.cell x c hc
  refine wpAny_storeName_cell I.ok.kind hk hc z (λ h' hc' hs=>?_)
  obtain ⟨oc,hoc,hocd⟩:=id z
  refine h { s with heap:=h' } ⟨I.ok,I.os,I.bare,⟨λ b o e n hb hx=>?_,λ b o e n hb hx=>?_,I.base.free,λ b o e hx=>?_,I.base.tups,I.base.frzs,I.base.tbls⟩,⟨m,hn.sameBut hs (Ne.symm (cne x c hc)),λ j y v' e1 e2 e3=>?_⟩,λ y c' e=>?_,I.free,I.freeC,λ p hp=>?_,tracked ⟨oc,hoc,I.freeC x c hc⟩ hs,by simpa using I.len⟩ ⟨c,hs,.inr hc⟩
  ·exact (hs.2 b (Nat.ne_of_lt (Nat.lt_of_lt_of_le (Heap.lt_size e) (I.ok.cab x c hfn hc)))).trans (I.base.keep b o e n hb hx)
  ·obtain ⟨sl,e1⟩:=I.base.slot b o e n hb hx
   exact ⟨sl,(hs.2 b (Nat.ne_of_lt (Nat.lt_of_lt_of_le (Heap.lt_size e) (I.ok.cab x c hfn hc)))).trans e1⟩
  ·obtain ⟨o',e1⟩:=I.base.there b o e hx
   exact ⟨o',(hs.2 b (Nat.ne_of_lt (Nat.lt_of_lt_of_le (Heap.lt_size e) (I.ok.cab x c hfn hc)))).trans e1⟩
  ·by_cases hj : j = i
   ·subst hj
    rw [hi] at e1; cases e1
    rw [List.getElem?_set_self hiσ] at e2
    cases e2
    exact ⟨u,r,.inr ⟨.inl hk,c,hc,hc'⟩⟩
   ·rw [List.getElem?_set_ne (Ne.symm hj)] at e2
    obtain ⟨u',r',q⟩:=hl j y v' e1 e2 e3
    refine ⟨u',r',?_⟩
    rcases q with q | ⟨k,c',e,z'⟩
    ·exact .inl q
    ·refine .inr ⟨k,c',e,z'.sameBut hs ?_⟩
     rintro rfl
     exact hj (nodup_ix hN e1 (I.ok.inj _ _ _ e hc ▸ hi))
  ·by_cases hcc : c' = c
   ·subst hcc; exact ⟨_,hc'⟩
   ·obtain ⟨w2,z2⟩:=I.cell y c' e
    exact ⟨w2,z2.sameBut hs hcc⟩
  ·obtain ⟨e,n,ne,nf,d⟩:=I.pin p hp
   refine ⟨(hs.2 p.1 ?_).trans e,n,ne,nf,d⟩
   intro q
   rw [q,hoc] at e
   have q' : oc = p.2:=Option.some.inj e
   exact d w' (by rw [← q']; exact hocd)
theorem store_ok {M : Model} {A : Around} {E : Value -> Shared -> Prop} {i : Nat} {x : Str} {v : V} {u : Value} {Q : Unit -> Shared -> Prop} (I : Inv X pins σ H s) (hN : X.N.Nodup) (hi : X.N[i]? = some x) (hx : Loc X.env.scope x) (r : RelV v u)
 (h : ∀ s',Inv X pins (σ.set i (some v)) H s' -> Q () s') (hf : X.fn x = true \/ X.env.scope.names.lookup x = some .local:=by first | exact .inl rfl | exact .inr rfl | assumption) : wpAny M A (storeName X.env x u) Q E s :=
 store_ok2 I hN hi hx r (λ s' I' _=>h s' I') hf
theorem Inv.call' {s' : Shared} {ch : List Addr} (I : Inv X pins σ H s) (ho : s'.os = s.os) (u : Un (frs X.stack) ch H H' s.heap s'.heap) (hok : HOk X.prog X.w H' s'.heap) (hg : AllBare s'.gens)
 (hch : ∀ b ∈ ch,(b ∈ X.ex \/ X.s₀.heap.objs.size <= b) /\ b ≠ X.env.locals /\ (∀ x c,X.env.cells.lookup x = some c -> c ≠ b) /\ ∀ p ∈ X.pn ++ pins,p.1 ≠ b) : Inv X pins σ H' s':=by
 obtain ⟨h',g',d',t',o'⟩:=s'
 have e : o' = s.os:=ho
 subst e
 exact I.call (g':=g') (t':=t') (d':=d') u hok hg hch
end
abbrev XK:=Value -> Option Addr -> Hp -> Prop
abbrev St:=List (Option V)
abbrev VK:=V -> Hp -> Prop
abbrev TE:=St -> Hp -> VK -> Prop
abbrev TT:=St -> Hp -> (Bool -> Hp -> Prop) -> Prop
abbrev TA:=St -> Hp -> (List V -> Hp -> Prop) -> Prop
structure Ends where
 nx : St -> Hp -> Prop
 rt : VK
 bk : St -> Hp -> Prop:=λ _ _=>False
 ct : St -> Hp -> Prop:=λ _ _=>False
abbrev TS:=Ends -> St -> Hp -> Prop
def EP (X : Cx) (pins : List (Addr × Obj)) (σ : St) (Q : VK) (u : Value) (s' : Shared) : Prop:=∃ v H',Inv X pins σ H' s' /\ RelV v u /\ Q v H'
def TP (X : Cx) (pins : List (Addr × Obj)) (σ : St) (Q : Bool -> Hp -> Prop) (b : Bool) (s' : Shared) : Prop:=∃ H',Inv X pins σ H' s' /\ Q b H'
def AP (X : Cx) (pins : List (Addr × Obj)) (σ : St) (Q : List V -> Hp -> Prop) (us : List Value) (s' : Shared) : Prop:=∃ vs H',Inv X pins σ H' s' /\ Vals vs us /\ Q vs H'
def SP (X : Cx) (pins : List (Addr × Obj)) (D : Ends) (f : Flow) (s' : Shared) : Prop :=
 match f with
 | .next=>∃ σ' H',Inv X pins σ' H' s' /\ D.nx σ' H'
 | .brk=>∃ σ' H',Inv X pins σ' H' s' /\ D.bk σ' H'
 | .cont=>∃ σ' H',Inv X pins σ' H' s' /\ D.ct σ' H'
 | .ret u=>∃ v σ' H',Inv X pins σ' H' s' /\ RelV v u /\ D.rt v H'
def PE (X : Cx) (e : Expr) (t : TE) : Prop :=
 ∀ (pins : List (Addr × Obj)) (s : Shared) (σ : St) (H : Hp) (Q : VK),Inv X pins σ H s -> t σ H Q -> wpAny (model X.prog X.w) X.A (eval e X.env) (EP X pins σ Q) X.xe s
def PT (X : Cx) (e : Expr) (t : TT) : Prop :=
 ∀ (pins : List (Addr × Obj)) (s : Shared) (σ : St) (H : Hp) (Q : Bool -> Hp -> Prop),Inv X pins σ H s -> t σ H Q -> wpAny (model X.prog X.w) X.A (isTrue e X.env (eval e X.env)) (TP X pins σ Q) X.xe s
def PW (X : Cx) (e : Expr) (t : TT) : Prop :=
 ∀ (whole : Sem Value) (pins : List (Addr × Obj)) (s : Shared) (σ : St) (H : Hp) (Q : Bool -> Hp -> Prop),Inv X pins σ H s -> t σ H Q -> wpAny (model X.prog X.w) X.A (isTrue e X.env whole) (TP X pins σ Q) X.xe s
theorem PW.pt {X : Cx} {e : Expr} {t : TT} (h : PW X e t) : PT X e t:=h _
def PA (X : Cx) (es : List Expr) (t : TA) : Prop :=
 ∀ (pos : Pos) (pins : List (Addr × Obj)) (s : Shared) (σ : St) (H : Hp) (Q : List V -> Hp -> Prop),Inv X pins σ H s -> t σ H Q -> wpAny (model X.prog X.w) X.A (spliced (backTo pos (starEach es X.env))) (AP X pins σ Q) X.xe s
def PS (X : Cx) (st : Stmt) (t : TS) : Prop :=
 ∀ (pins : List (Addr × Obj)) (s : Shared) (σ : St) (H : Hp) (D : Ends),Inv X pins σ H s -> t D σ H -> wpAny (model X.prog X.w) X.A (exec st X.env) (SP X pins D) X.xe s
def PSs (X : Cx) (st : List Stmt) (t : TS) : Prop :=
 ∀ (pins : List (Addr × Obj)) (s : Shared) (σ : St) (H : Hp) (D : Ends),Inv X pins σ H s -> t D σ H -> wpAny (model X.prog X.w) X.A (execs st X.env) (SP X pins D) X.xe s
theorem thn {α : Type} {t : Sem α} {Q Q' : α -> Shared -> Prop} {M : Model} {A : Around} {E : Value -> Shared -> Prop} {s : Shared} (h : wpAny M A t Q E s) (hQ : ∀ a s,Q a s -> Q' a s) : wpAny M A t Q' E s:=wpAny_mono h hQ λ _ _ x=>x
end L2
namespace L2
open PySem PySem.Spec PyProof.Rows
section
variable {X : Cx}
def tVar (i : Nat) : TE:=λ σ H Q=>∃ v,σ[i]? = some (some v) /\ Q v H
def tC (v : V) : TE:=λ _ H Q=>Q v H
theorem pe_var {i : Nat} {x : Str} {pos : Pos} (hN : X.N[i]? = some x) (hv : Vis X.env.scope x) (hd : (x == ("__debug__" : Str)) = false:=by decide) (hcd : (x == ("__classdict__" : Str)) = false:=by decide) : PE X (.Name x pos) (tVar i):=by
 intro pins s σ H Q I h
 obtain ⟨v,e,h⟩:=h
 obtain ⟨m,hn,hl⟩:=I.loc
 obtain ⟨u,r,l⟩:=hl i x v hN e hv
 have fin : EP X pins σ Q u s:=⟨v,H,I,r,h⟩
 rcases l with ⟨hk,hm⟩ | ⟨hk,c,hc,hcell⟩
 ·exact wpAny_Name (wpAny_loadName_local I.ok.kind hk hn hm fin) hd
 ·rcases hk with hk | hk
  ·exact wpAny_Name (wpAny_loadName_cell I.ok.kind hk hc hcell fin) hd
  ·exact wpAny_Name (wpAny_loadName_free I.ok.kind hk hc hcell fin hcd) hd
theorem pe_int {i j pos} : PE X (.Constant (.int i) j pos) (tC (.int i)):=λ _ _ _ H _ I h=>wpAny_Constant_int ⟨.int i,H,I.tok _,⟨_,rfl⟩,h⟩
theorem pe_bl {b j pos} : PE X (.Constant (.bool b) j pos) (tC (.bl b)):=λ _ _ _ H _ I h=>Constant_bool ⟨.bl b,H,I,rfl,h⟩
theorem pe_str {x j pos} : PE X (.Constant (.str x) j pos) (tC (.str x)):=λ _ _ _ H _ I h=>Calls.Constant_str ⟨.str x,H,I.tok _,⟨_,rfl⟩,h⟩
def Gl (X : Cx) (x : Str) : Prop:=X.env.kindOf x = some .globalImplicit
theorem ld_glob {E : Value -> Shared -> Prop} {pins : List (Addr × Obj)} {s : Shared} {σ : St} {H : Hp} {x : Str} {u : Value} {pos : Pos} {Q : Value -> Shared -> Prop} (I : Inv X pins σ H s) (hg : Gl X x) (hm : X.mg x = some u) (h : Q u s)
 (hd : (x == ("__debug__" : Str)) = false:=by decide) : wpAny (model X.prog X.w) X.A (eval (.Name x pos) X.env) Q E s :=
 Calls.Name_function_global I.ok.kind hg (Calls.loadGlobal_global (by rw [I.ok.glob]; exact I.mod.glob.keeps I.bk) hm h) hd
theorem ld_blt {E : Value -> Shared -> Prop} {pins : List (Addr × Obj)} {s : Shared} {σ : St} {H : Hp} {x : Str} {u : Value} {pos : Pos} {Q : Value -> Shared -> Prop} (I : Inv X pins σ H s) (hg : Gl X x) (hm : X.mg x = none) (hv : bootBuiltins x = some u) (h : Q u s)
 (hn : x ≠ "__name__":=by decide) (hd : (x == ("__debug__" : Str)) = false:=by decide) : wpAny (model X.prog X.w) X.A (eval (.Name x pos) X.env) Q E s:=by
 obtain ⟨mb,h1,h2⟩:=I.mod.blt
 exact Calls.Name_function_global I.ok.kind hg (Calls.loadGlobal_builtin (by rw [I.ok.glob]; exact I.mod.glob.keeps I.bk) hm (by rw [I.ok.blt]; exact h1.keeps I.bk) ((h2 x hn).trans hv) h) hd
theorem pe_glob {x : Str} {v : V} {u : Value} {pos : Pos} (hg : Gl X x) (hm : X.mg x = some u) (r : RelV v u) (hd : (x == ("__debug__" : Str)) = false:=by decide) : PE X (.Name x pos) (tC v) :=
 λ _ _ _ H _ I h=>ld_glob I hg hm ⟨v,H,I,r,h⟩ hd
theorem pe_bltn {x : Str} {v : V} {u : Value} {pos : Pos} (hg : Gl X x) (hm : X.mg x = none) (hv : bootBuiltins x = some u) (r : RelV v u) (hn : x ≠ "__name__":=by decide) (hd : (x == ("__debug__" : Str)) = false:=by decide) : PE X (.Name x pos) (tC v) :=
 λ _ _ _ H _ I h=>ld_blt I hg hm hv ⟨v,H,I,r,h⟩ hn hd
variable {a b : Expr} {ta tb : TE} {pos : Pos}
def tB (t : TE) : TT:=λ σ H Q=>t σ H λ x H1=>∃ c,x = .bl c /\ Q c H1
theorem pt_val {e : Expr} {t : TE} (h : PE X e t) (he : ∀ whole,isTrue e X.env whole = (do let v ← whole; standAt e.pos; holding [v] (truthy v)):=by intro _; rfl) : PT X e (tB t):=by
 intro pins s σ H Q I hw
 refine isTrue_plain (thn (h pins s σ H _ I hw) λ v s1 ⟨x,H1,I1,r1,q1⟩=>?_) (he _)
 obtain ⟨d,rfl,q⟩:=q1
 cases r1
 exact wpAny_truthy_bool ⟨H1,I1,q⟩
variable {tA tB' : TT} {rest : List Expr}
def tAnd (t u : TT) : TT:=λ σ H Q=>t σ H λ c H1=>if c = true then u σ H1 Q else Q false H1
def tOr (t u : TT) : TT:=λ σ H Q=>t σ H λ c H1=>if c = true then Q true H1 else u σ H1 Q
def tNot (t : TT) : TT:=λ σ H Q=>t σ H λ c H1=>Q (!c) H1
theorem pw_and1 (ha : PT X a tA) : PW X (.BoolOp .And [a] pos) tA:=by
 intro wh pins s σ H Q I h
 refine isTrue_and (thn (ha pins s σ H Q I h) λ c s1 e=>?_)
 cases c with
 | true=>exact isTrue_and_nil e
 | false=>exact e
theorem pw_or1 (ha : PT X a tA) : PW X (.BoolOp .Or [a] pos) tA:=by
 intro wh pins s σ H Q I h
 refine isTrue_or (thn (ha pins s σ H Q I h) λ c s1 e=>?_)
 cases c with
 | false=>exact isTrue_or_nil e
 | true=>exact e
theorem pw_and (ha : PT X a tA) (hb : PW X (.BoolOp .And (b :: rest) pos) tB') : PW X (.BoolOp .And (a :: b :: rest) pos) (tAnd tA tB'):=by
 intro wh pins s σ H Q I h
 refine isTrue_and (thn (ha pins s σ H _ I h) λ c s1 ⟨H1,I1,q1⟩=>?_)
 cases c with
 | true=>exact hb wh pins s1 σ H1 Q I1 q1
 | false=>exact ⟨H1,I1,q1⟩
theorem pw_or (ha : PT X a tA) (hb : PW X (.BoolOp .Or (b :: rest) pos) tB') : PW X (.BoolOp .Or (a :: b :: rest) pos) (tOr tA tB'):=by
 intro wh pins s σ H Q I h
 refine isTrue_or (thn (ha pins s σ H _ I h) λ c s1 ⟨H1,I1,q1⟩=>?_)
 cases c with
 | true=>exact ⟨H1,I1,q1⟩
 | false=>exact hb wh pins s1 σ H1 Q I1 q1
theorem pt_not (ha : PT X a tA) : PT X (.UnaryOp .Not a pos) (tNot tA):=by
 intro pins s σ H Q I h
 exact isTrue_not (ha pins s σ H (λ c H1=>Q (!c) H1) I h)
def tAndV (ta tb : TE) : TE:=λ σ H Q=>ta σ H λ x H1=>∃ c,x = .bl c /\ if c = true then tb σ H1 Q else Q (.bl false) H1
def tNotV (ta : TE) : TE:=λ σ H Q=>ta σ H λ x H1=>∃ c,x = .bl c /\ Q (.bl (!c)) H1
theorem pe_one {op} {t : TE} (h : PE X a t) : PE X (.BoolOp op [a] pos) t:=λ pins s σ H Q I hw=>BoolOp_one (h pins s σ H Q I hw)
theorem pe_and (ha : PE X a ta) (hb : PE X (.BoolOp .And (b :: rest) pos) tb) : PE X (.BoolOp .And (a :: b :: rest) pos) (tAndV ta tb):=by
 intro pins s σ H Q I h
 refine BoolOp_and (thn (ha pins s σ H _ I h) λ v s1 ⟨x,H1,I1,r1,q1⟩=>?_)
 obtain ⟨c,rfl,q1⟩:=q1
 cases r1
 refine wpAny_truthy_bool ?_
 cases c with
 | true=>exact hb pins s1 σ H1 Q I1 q1
 | false=>exact ⟨.bl false,H1,I1,rfl,q1⟩
theorem pe_not (ha : PE X a ta) : PE X (.UnaryOp .Not a pos) (tNotV ta):=by
 intro pins s σ H Q I h
 refine UnaryOp_ (thn (ha pins s σ H _ I h) λ v s1 ⟨x,H1,I1,r1,q1⟩=>?_)
 obtain ⟨c,rfl,q1⟩:=q1
 cases r1
 exact not_of (wpAny_truthy_bool ⟨.bl (!c),H1,I1,rfl,q1⟩)
end
end L2
namespace L2
open PySem PySem.Spec PyProof.Rows
def SqL (K : PySem.W.Frag) (H : Hp) (a : Addr) (xs : List V) : Prop :=
 Rd H a (.lst xs) \/
  ∃ (o : Obj) (its : Array Value) (n : Nat),K.lookup a = some o /\ o.cls = .type "list" /\ o.dict = none /\ o.data = .seq its n /\ its.size <= sizeLine /\ Vals xs its.toList
def SqT (K : PySem.W.Frag) (H : Hp) (a : Addr) (xs : List V) : Prop :=
 Rd H a (.tup xs) \/
  ∃ (o : Obj) (its : Array Value) (n : Nat),K.lookup a = some o /\ o.cls = .type "tuple" /\ o.data = .seq its n /\ its.size <= sizeLine /\ Vals xs its.toList
def absV : Value -> Option V
 | .none=>some .non
 | .bool b=>some (.bl b)
 | .int i _=>some (.int i)
 | .str x _=>some (.str x)
 | .bytes b _=>some (.byt b)
 | .float b _=>some (.flt b)
 | .ref a=>some (.ref a)
 | .type n=>some (.ty n)
 | _=>none
theorem RelV.abs {x : V} {u : Value} (r : RelV x u) : absV u = some x:=by
 cases x with
 | non=>cases r; rfl
 | bl _=>cases r; rfl
 | int _=>obtain ⟨t,rfl⟩:=r; rfl
 | str _=>obtain ⟨t,rfl⟩:=r; rfl
 | byt _=>obtain ⟨t,rfl⟩:=r; rfl
 | flt _=>obtain ⟨t,rfl⟩:=r; rfl
 | ref _=>cases r; rfl
 | ty _=>cases r; rfl
theorem RelV.inj {x y : V} {u : Value} (r : RelV x u) (q : RelV y u) : x = y:=Option.some.inj (r.abs.symm.trans q.abs)
theorem Vals.inj : ∀ {xs ys : List V} {us : List Value},Vals xs us -> Vals ys us -> xs = ys
 | _,_,_,.nil,.nil=>rfl
 | _,_,_,.cons r t,.cons r' t'=>by rw [r.inj r',Vals.inj t t']
section
variable {X : Cx} {pins : List (Addr × Obj)} {σ : St} {H : Hp} {s : Shared} {a : Addr} {xs ys : List V}
theorem SqL.of {K : PySem.W.Frag} (h : H a = some (.lst xs)) : SqL K H a xs:=.inl (.inl h)
theorem SqT.of {K : PySem.W.Frag} (h : H a = some (.tup xs)) : SqT K H a xs:=.inl (.inl h)
theorem Inv.list (I : Inv X pins σ H s) (h : SqL X.K H a xs) : ∃ its : List Value,Vals xs its /\ PlainL s.heap a its.toArray /\ xs.length <= sizeLine:=by
 rcases h with h | ⟨o,its,n,hk,hc,hd,hs,hz,r⟩
 ·obtain ⟨z,its,n,r,e⟩:=h.ok I.hok
  exact ⟨its,r,⟨_,n,e,rfl,rfl,rfl⟩,z⟩
 ·refine ⟨its.toList,r,⟨o,n,I.kIn a o hk,hc,hd,by simpa using hs⟩,?_⟩
  have e:=r.length
  simp only [Array.length_toList] at e
  omega
theorem Inv.tuple (I : Inv X pins σ H s) (h : SqT X.K H a xs) : ∃ its : List Value,Vals xs its /\ IsTup s.heap a its.toArray /\ xs.length <= sizeLine:=by
 rcases h with h | ⟨o,its,n,hk,hc,hs,hz,r⟩
 ·obtain ⟨z,its,r,p⟩:=h.ok I.hok
  exact ⟨its,r,p,z⟩
 ·refine ⟨its.toList,r,⟨o,I.kIn a o hk,hc,n,by simpa using hs⟩,?_⟩
  have e:=r.length
  simp only [Array.length_toList] at e
  omega
theorem Inv.list_inj (I : Inv X pins σ H s) (h : SqL X.K H a xs) (h' : SqL X.K H a ys) : xs = ys:=by
 obtain ⟨its,r,⟨o,n,e,_,_,d⟩,_⟩:=I.list h
 obtain ⟨its',r',⟨o',n',e',_,_,d'⟩,_⟩:=I.list h'
 rw [e] at e'; cases e'
 rw [d] at d'
 injection d' with d1 _
 have : its = its':=by simpa using congrArg Array.toList d1
 subst this
 exact r.inj r'
theorem Inv.tuple_inj (I : Inv X pins σ H s) (h : SqT X.K H a xs) (h' : SqT X.K H a ys) : xs = ys:=by
 obtain ⟨its,r,⟨o,e,_,n,d⟩,_⟩:=I.tuple h
 obtain ⟨its',r',⟨o',e',_,n',d'⟩,_⟩:=I.tuple h'
 rw [e] at e'; cases e'
 rw [d] at d'
 injection d' with d1 _
 have : its = its':=by simpa using congrArg Array.toList d1
 subst this
 exact r.inj r'
end
abbrev Cx.wish (X : Cx) (E : Value -> Shared -> Prop) : Cx:={ X with xe:=E }
abbrev Cx.nox (X : Cx) : Cx:=X.wish λ _ _=>False
theorem Cx.Ok.wish {X : Cx} (ok : X.Ok) (E : Value -> Shared -> Prop) : (X.wish E).Ok :=
 ⟨ok.mod,ok.kind,ok.glob,ok.blt,ok.above,ok.inj,ok.has,ok.cab,ok.hd,ok.frames,ok.stk,ok.exf,ok.bs,ok.bsz,ok.noex,ok.exfs,ok.funs,ok.frf⟩
theorem Cx.Ok.unwish {X : Cx} {E : Value -> Shared -> Prop} (ok : (X.wish E).Ok) : X.Ok :=
 ⟨ok.mod,ok.kind,ok.glob,ok.blt,ok.above,ok.inj,ok.has,ok.cab,ok.hd,ok.frames,ok.stk,ok.exf,ok.bs,ok.bsz,ok.noex,ok.exfs,ok.funs,ok.frf⟩
section
variable {X : Cx} {pins : List (Addr × Obj)} {σ : St} {H : Hp} {s : Shared} {E : Value -> Shared -> Prop}
theorem Inv.wish (I : Inv X pins σ H s) (E : Value -> Shared -> Prop) : Inv (X.wish E) pins σ H s:=⟨I.ok.wish E,I.os,I.bare,I.base,I.loc,I.cell,I.free,I.freeC,I.pin,I.hok,I.len⟩
theorem Inv.unwish (I : Inv (X.wish E) pins σ H s) : Inv X pins σ H s:=⟨I.ok.unwish,I.os,I.bare,I.base,I.loc,I.cell,I.free,I.freeC,I.pin,I.hok,I.len⟩
theorem SP.unwish {D : Ends} {f : Flow} {s' : Shared} (h : SP (X.wish E) pins D f s') : SP X pins D f s':=by
 cases f with
 | next=>obtain ⟨σ',H',I,q⟩:=h; exact ⟨σ',H',I.unwish,q⟩
 | brk=>obtain ⟨σ',H',I,q⟩:=h; exact ⟨σ',H',I.unwish,q⟩
 | cont=>obtain ⟨σ',H',I,q⟩:=h; exact ⟨σ',H',I.unwish,q⟩
 | ret u=>obtain ⟨v,σ',H',I,r,q⟩:=h; exact ⟨v,σ',H',I.unwish,r,q⟩
theorem PE.nox {e : Expr} {t : TE} (h : PE X.nox e t) : PE X e t:=λ pins s σ H Q I hw =>
 wpAny_mono (h pins s σ H Q (I.wish _) hw) (λ _ _ ⟨v,H',I',r,q⟩=>⟨v,H',I'.unwish,r,q⟩) λ _ _ z=>False.elim z
theorem PT.nox {e : Expr} {t : TT} (h : PT X.nox e t) : PT X e t:=λ pins s σ H Q I hw =>
 wpAny_mono (h pins s σ H Q (I.wish _) hw) (λ _ _ ⟨H',I',q⟩=>⟨H',I'.unwish,q⟩) λ _ _ z=>False.elim z
theorem PSs.nox {st : List Stmt} {t : TS} (h : PSs X.nox st t) : PSs X st t:=λ pins s σ H D I hw =>
 wpAny_mono (h pins s σ H D (I.wish _) hw) (λ _ _ q=>q.unwish) λ _ _ z=>False.elim z
end
section
variable {X : Cx} {st : Stmt} {rest : List Stmt} {t u : TS} {e : Expr} {te : TE} {pos : Pos}
def tNext : TS:=λ D σ H=>D.nx σ H
def tSeq (t u : TS) : TS:=λ D σ H=>t { D with nx:=u D } σ H
theorem pss_nil : PSs X [] tNext:=λ _ _ σ H _ I h=>wpAny_execs_nil ⟨σ,H,I,h⟩
theorem pss_cons (h1 : PS X st t) (h2 : PSs X rest u) : PSs X (st :: rest) (tSeq t u):=by
 intro pins s σ H D I h
 refine wpAny_execs_cons (thn (h1 pins s σ H { D with nx:=u D } I h) λ f s1 q=>?_)
 cases f with
 | next =>
   obtain ⟨σ',H',I',q⟩:=q
   exact h2 pins s1 σ' H' D I' q
 | ret v=>exact q
 | brk=>exact q
 | cont=>exact q
theorem pss_one (h1 : PS X st t) : PSs X [st] t:=by
 intro pins s σ H D I h
 refine wpAny_execs_cons (thn (h1 pins s σ H D I h) λ f s1 q=>?_)
 cases f with
 | next=>exact wpAny_execs_nil q
 | ret v=>exact q
 | brk=>exact q
 | cont=>exact q
theorem Inv.quiet {pins : List (Addr × Obj)} {σ : St} {H : Hp} {s : Shared} (I : Inv X pins σ H s) : interactive X.env = false:=by simp [interactive,I.ok.kind]
def tDrop (te : TE) : TS:=λ D σ H=>te σ H λ _ H1=>D.nx σ H1
theorem ps_expr (he : PE X e te) (hs : swapsWith e none pos.line X.env = pure false:=by rfl) : PS X (.Expr e pos) (tDrop te):=by
 intro pins s σ H D I h
 exact wpAny_Expr_any (thn (he pins s σ H _ I h) λ v s1 ⟨x,H1,I1,r1,q1⟩=>⟨σ,H1,I1,q1⟩) I.quiet hs
def tRet (te : TE) : TS:=λ D σ H=>te σ H D.rt
theorem ps_ret (he : PE X e te) : PS X (.Return (some e) pos) (tRet te):=by
 intro pins s σ H D I h
 exact wpAny_Return_some (thn (he pins s σ H _ I h) λ v s1 ⟨x,H1,I1,r1,q1⟩=>⟨x,σ,H1,I1,r1,q1⟩)
def tIfS (c : TT) (t u : TS) : TS:=λ D σ H=>c σ H λ b H1=>if b = true then t D σ H1 else u D σ H1
theorem ps_if {c : Expr} {a b : List Stmt} {tc : TT} (hc : PT X c tc) (ha : PSs X a t) (hb : PSs X b u) : PS X (.If c a b pos) (tIfS tc t u):=by
 intro pins s σ H D I h
 refine wpAny_If (thn (hc pins s σ H _ I h) λ d s1 ⟨H1,I1,q1⟩=>?_)
 cases d with
 | true=>exact ha pins s1 σ H1 D I1 q1
 | false=>exact hb pins s1 σ H1 D I1 q1
end
abbrev TG:=V -> St -> Hp -> (St -> Hp -> Prop) -> Prop
abbrev TGs:=List V -> St -> Hp -> (St -> Hp -> Prop) -> Prop
def PG (X : Cx) (target : Expr) (t : TG) : Prop :=
 ∀ (pins : List (Addr × Obj)) (s : Shared) (σ : St) (H : Hp) (v : V) (u : Value) (Q : St -> Hp -> Prop),Inv X pins σ H s -> RelV v u -> t v σ H Q ->
   wpAny (model X.prog X.w) X.A (assign target X.env u) (λ _ s'=>∃ σ' H',Inv X pins σ' H' s' /\ Q σ' H') X.xe s
def PGs (X : Cx) (ts : List Expr) (t : TGs) : Prop :=
 ∀ (pins : List (Addr × Obj)) (s : Shared) (σ : St) (H : Hp) (vs : List V) (us : List Value) (Q : St -> Hp -> Prop),Inv X pins σ H s -> Vals vs us -> t vs σ H Q ->
   wpAny (model X.prog X.w) X.A (assignInOrder ((assignEach ts X.env).map (·.2)) us) (λ _ s'=>∃ σ' H',Inv X pins σ' H' s' /\ Q σ' H') X.xe s
abbrev TSet:=V -> V -> V -> Hp -> (Hp -> Prop) -> Prop
def PSet (X : Cx) (t : TSet) : Prop :=
 ∀ (pins : List (Addr × Obj)) (s : Shared) (σ : St) (H : Hp) (o i v : V) (ov iv u : Value) (Q : Hp -> Prop),Inv X pins σ H s -> RelV o ov -> RelV i iv -> RelV v u -> t o i v H Q ->
   wpAny (model X.prog X.w) X.A (setItem ov iv u) (λ _ s'=>∃ H',Inv X pins σ H' s' /\ Q H') X.xe s
abbrev TIp:=V -> V -> Hp -> VK -> Prop
def PIp (X : Cx) (op : Operator) (t : TIp) : Prop :=
 ∀ (pins : List (Addr × Obj)) (s : Shared) (σ : St) (H : Hp) (x y : V) (v u : Value) (Q : VK),Inv X pins σ H s -> RelV x v -> RelV y u -> t x y H Q ->
   wpAny (model X.prog X.w) X.A (inplaceOp op v u) (EP X pins σ Q) X.xe s
section
variable {X : Cx} {pos : Pos}
def gName (i : Nat) : TG:=λ v σ H Q=>Q (σ.set i (some v)) H
theorem pg_name {i : Nat} {x : Str} (hN : X.N.Nodup) (hi : X.N[i]? = some x) (hx : Loc X.env.scope x) (hf : X.fn x = true \/ X.env.scope.names.lookup x = some .local:=by first | exact .inl rfl | exact .inr rfl | assumption) : PG X (.Name x pos) (gName i):=by
 intro pins s σ H v u Q I r h
 exact wpAny_assign_Name (store_ok I hN hi hx r (λ s' I'=>⟨_,H,I',h⟩) hf)
def gNil : TGs:=λ vs σ H Q=>vs = [] /\ Q σ H
def gCons (t : TG) (u : TGs) : TGs:=λ vs σ H Q=>∃ v r,vs = v :: r /\ t v σ H λ σ' H'=>u r σ' H' Q
theorem pgs_nil : PGs X [] gNil:=by
 intro pins s σ H vs us Q I r h
 obtain ⟨e,h⟩:=h
 subst e
 cases r
 exact assignInOrder_nil ⟨σ,H,I,h⟩
theorem pgs_cons {e : Expr} {es : List Expr} {t : TG} {u : TGs} (h1 : PG X e t) (h2 : PGs X es u)
 (hs : (assignEach (e :: es) X.env).map (·.2) = assign e X.env :: (assignEach es X.env).map (·.2):=by rfl) : PGs X (e :: es) (gCons t u):=by
 intro pins s σ H vs us Q I r h
 obtain ⟨v,vr,e1,h⟩:=h
 subst e1
 cases r with
 | cons r rr =>
   rw [hs]
   refine assignInOrder_cons (thn (h1 pins s σ H _ _ _ I r h) λ _ s1 ⟨σ1,H1,I1,q1⟩=>?_)
   exact h2 pins s1 σ1 H1 _ _ Q I1 rr q1
def gTup (K : PySem.W.Frag) (n : Nat) (t : TGs) : TG:=λ v σ H Q=>∃ a xs,v = .ref a /\ SqT K H a xs /\ xs.length = n /\ t xs σ H Q
theorem pg_tup {es : List Expr} {k : Nat} {t : TGs} {n : Nat} (hc : X.calm = true) (h : PGs X es t)
 (hn : (assignEach es X.env).length = n:=by rfl) (hst : (assignEach es X.env).findIdx? (·.1) = none:=by rfl) : PG X (.Tuple es k pos) (gTup X.K n t):=by
 intro pins s σ H v u Q I r hw
 obtain ⟨a,xs,e1,hq,hl,hw⟩:=hw
 subst e1
 cases r
 obtain ⟨its,rv,ht,hz⟩:=I.tuple hq
 refine assign_Tuple_tuple (I.ok.hd hc) ht (by simp [hn,← hl,rv.length]) hst λ h' hx=>?_
 have I1 : Inv X pins σ H { s with heap:=h' }:=I.kept (t':=s.toks) λ b o e=>hx b o (Nat.ne_of_lt (Heap.lt_size e)) e
 exact h pins _ σ H xs _ Q I1 (by simpa using rv) hw
def tAsg (te : TE) (g : TG) : TS:=λ D σ H=>te σ H λ x H1=>g x σ H1 D.nx
theorem ps_set {i : Nat} {x : Str} {e : Expr} {te : TE} {pos' : Pos} (hN : X.N.Nodup) (hi : X.N[i]? = some x) (hx : Loc X.env.scope x) (he : PE X e te) (hs : swapsWith e (some (.Name x pos')) pos.line X.env = pure false:=by rfl) (hf : X.fn x = true \/ X.env.scope.names.lookup x = some .local:=by first | exact .inl rfl | exact .inr rfl | assumption) :
 PS X (.Assign [.Name x pos'] e pos) (tAsg te (gName i)):=by
 intro pins s σ H D I h
 refine wpAny_Assign_Name (thn (he pins s σ H _ I h) λ v s1 ⟨y,H1,I1,r1,q1⟩=>?_) hs
 exact store_ok I1 hN hi hx r1 (λ s2 I2=>⟨_,H1,I2,q1⟩) hf
def tPar (i j : Nat) (ta : TA) : TS:=λ D σ H=>ta σ H λ vs H1=>∃ v w,vs = [v,w] /\ D.nx ((σ.set i (some v)).set j (some w)) H1
theorem ps_par {i j : Nat} {x y : Str} {a b : Expr} {ta : TA} {px py pt : Pos} {kt k2 pt2} (hc : X.calm = true) (hN : X.N.Nodup) (hi : X.N[i]? = some x) (hj : X.N[j]? = some y) (hij : i ≠ j)
 (hx : X.env.scope.names.lookup x = some .local) (hy : X.env.scope.names.lookup y = some .local) (ha : PA X [a,b] ta)
 (hw : swappedStores [.Tuple [.Name x px,.Name y py] kt pt] (.Tuple [a,b] k2 pt2) X.env = pure (some [x,y]))
 (hs : swapsWithSole [.Tuple [.Name x px,.Name y py] kt pt] (.Tuple [a,b] k2 pt2) pos.line X.env = pure false:=by rfl) :
 PS X (.Assign [.Tuple [.Name x px,.Name y py] kt pt] (.Tuple [a,b] k2 pt2) pos) (tPar i j ta):=by
 intro pins s σ H D I h
 rw [exec_Assign_arm]
 refine wpAny_bind (wpAny_standAt ?_)
 rw [hs]
 refine wpAny_bind (wpAny_pure ?_)
 rw [if_neg (by decide)]
 refine wpAny_bind (Tuple_ (thn (ha _ pins s σ H _ I h) λ us s1 ⟨vs,H1,I1,r1,q1⟩=>?_))
 obtain ⟨v,w,e1,q1⟩:=q1
 subst e1
 obtain ⟨u1,u2,rfl,rv,rw'⟩ : ∃ u1 u2,us = [u1,u2] /\ RelV v u1 /\ RelV w u2:=by
  cases r1 with
  | cons p q =>
    cases q with
    | cons p' q' =>
      cases q'
      exact ⟨_,_,rfl,p,p'⟩
 refine wpAny_newObj_type ?_ (by show 2 <= sizeLine; decide)
 have I2 : Inv X pins σ H1 { s1 with heap:=s1.heap.push { cls:=.type "tuple",data:=.seq [u1,u2].toArray } }:=I1.kept (t':=s1.toks) λ b o e=>Heap.get?_push_of_some _ e
 rw [hw]
 refine wpAny_bind (wpAny_pure ?_)
 show wpAny (model X.prog X.w) X.A (do rule "assign.swapped-stores"; let items ← unpackItems (.ref s1.heap.objs.size) 2 none; assignInOrder [λ v=>bindName X.env y v,λ v=>bindName X.env x v] items.reverse; pure Flow.next) _ _ _
 refine wpAny_bind (wpAny_rule (wpAny_bind (unpackItems_tuple (items:=#[u1,u2]) (I.ok.hd hc) (IsTup.new s1.heap _) λ h' hx'=>?_)))
 have I3:=I2.kept (h':=h') (t':=s1.toks) λ b o e=>hx' b o (Nat.ne_of_lt (Heap.lt_size e)) e
 show wpAny _ _ (assignInOrder [λ v=>bindName X.env y v,λ v=>bindName X.env x v] [u2,u1] >>= λ _=>pure Flow.next) _ _ _
 refine wpAny_bind (assignInOrder_cons (wpAny_bindName (store_ok I3 hN hj (.inl hy) rw' (λ s2 I4=>?_) (.inr hy))))
 refine assignInOrder_cons (wpAny_bindName (store_ok I4 hN hi (.inl hx) rv (λ s3 I5=>assignInOrder_nil (wpAny_pure ?_)) (.inr hx)))
 rw [List.set_comm _ _ (Ne.symm hij)] at I5
 exact ⟨_,H1,I5,q1⟩
def tAugS (to ti te : TE) (tget : V -> V -> Hp -> VK -> Prop) (tip : TIp) (tset : TSet) : TS:=λ D σ H=>to σ H λ o H1=>ti σ H1 λ i H2=>tget o i H2 λ x H3=>te σ H3 λ y H4=>tip x y H4 λ z H5=>tset o i z H5 λ H6=>D.nx σ H6
def PGet (X : Cx) (t : V -> V -> Hp -> VK -> Prop) : Prop :=
 ∀ (pins : List (Addr × Obj)) (s : Shared) (σ : St) (H : Hp) (o i : V) (ov iv : Value) (Q : VK),Inv X pins σ H s -> RelV o ov -> RelV i iv -> t o i H Q ->
   wpAny (model X.prog X.w) X.A (getItem ov iv) (EP X pins σ Q) X.xe s
theorem ps_augS {o i e : Expr} {to ti te : TE} {tget : V -> V -> Hp -> VK -> Prop} {tip : TIp} {tset : TSet} {op : Operator} {tpos : Pos} (ho : PE X o to) (hi : PE X i ti) (hg : PGet X tget) (he : PE X e te) (hp : PIp X op tip) (hs : PSet X tset)
 (ha : ∀ ov iv new,augStore i ov iv new = (do holding [new,ov,iv] (setItem ov iv new); release [new,ov,iv] []; pure .next):=by intros; rfl) : PS X (.AugAssign (.Subscript o i tpos) op e pos) (tAugS to ti te tget tip tset):=by
 intro pins s σ H D I h
 refine wpAny_AugAssign_SubscriptAny (thn (ho pins s σ H _ I h) λ ov s1 ⟨x1,H1,I1,r1,q1⟩=>?_) ha
 refine thn (hi pins s1 σ H1 _ I1 q1) λ iv s2 ⟨x2,H2,I2,r2,q2⟩=>?_
 refine thn (hg pins s2 σ H2 x1 x2 ov iv _ I2 r1 r2 q2) λ old s3 ⟨x3,H3,I3,r3,q3⟩=>?_
 refine thn (he pins s3 σ H3 _ I3 q3) λ v s4 ⟨x4,H4,I4,r4,q4⟩=>?_
 refine thn (hp pins s4 σ H4 x3 x4 old v _ I4 r3 r4 q4) λ new s5 ⟨x5,H5,I5,r5,q5⟩=>?_
 exact thn (hs pins s5 σ H5 x1 x2 x5 ov iv new _ I5 r1 r2 r5 q5) λ _ s6 ⟨H6,I6,q6⟩=>⟨σ,H6,I6,q6⟩
end
section
variable {X : Cx} {pos : Pos}
def tWhile (c : TT) (tb : TS) : TS:=λ D σ H=>∃ W : Nat -> St -> Hp -> Prop,(∃ m,W m σ H) /\ ∀ m σ H,W m σ H ->
 c σ H λ b H1=>if b = true then ∃ N : St -> Hp -> Prop,(∀ σ' H',N σ' H' -> ∃ m',m' < m /\ W m' σ' H') /\ tb { D with nx:=N,ct:=N,bk:=D.nx } σ H1 else D.nx σ H1
theorem ps_while {c : Expr} {body : List Stmt} {tc : TT} {tb : TS} (hp : PassesOwn (model X.prog X.w) X.A X.env X.xe) (hc : PT X c tc) (hb : PSs X body tb) : PS X (.While c body [] pos) (tWhile tc tb):=by
 intro pins s σ H D I h
 obtain ⟨W,⟨m0,w0⟩,turn⟩:=h
 refine wpAny_While (codeAny_whileLoop (λ n s'=>∃ σ' H',Inv X pins σ' H' s' /\ W n σ' H') ?_ m0 ⟨σ,H,I,w0⟩)
 rintro n s1 ⟨σ1,H1,I1,w1⟩
 refine wpAny_passesOwn hp (thn (hc pins s1 σ1 H1 _ I1 (turn n σ1 H1 w1)) λ b s2 ⟨H2,I2,q2⟩=>?_)
 cases b with
 | true =>
   obtain ⟨N,hN,q2⟩:=q2
   rw [if_pos rfl]
   refine wpAny_passesOwn hp (thn (hb pins s2 σ1 H2 _ I2 q2) λ f s3 q3=>?_)
   cases f with
   | next =>
     obtain ⟨σ3,H3,I3,n3⟩:=q3
     obtain ⟨m',hm,w3⟩:=hN σ3 H3 n3
     exact ⟨m',hm,σ3,H3,I3,w3⟩
   | cont =>
     obtain ⟨σ3,H3,I3,n3⟩:=q3
     obtain ⟨m',hm,w3⟩:=hN σ3 H3 n3
     exact ⟨m',hm,σ3,H3,I3,w3⟩
   | brk=>exact q3
   | ret v=>exact q3
 | false =>
   rw [if_neg Bool.false_ne_true]
   exact wpAny_execs_nil ⟨σ1,H2,I2,q2⟩
end
structure It where
 go : Nat -> Hp -> Prop
 yld : Nat -> Hp -> V -> Hp -> Prop
 stop : Nat -> Hp -> Prop
def FpOk (X : Cx) (pins : List (Addr × Obj)) (H : Hp) (b : Addr) : Prop :=
 H b = none /\ b ≠ X.env.locals /\ b ∉ X.fs /\ (b ∈ X.ex \/ X.s₀.heap.objs.size <= b) /\ (∀ x c,X.env.cells.lookup x = some c -> c ≠ b) /\ ∀ p ∈ X.pn ++ pins,p.1 ≠ b
theorem Inv.fpOk {X : Cx} {pins : List (Addr × Obj)} {σ : St} {H H' : Hp} {s : Shared} {b : Addr} (I : Inv X pins σ H s) (hb : s.heap.objs.size <= b) (hn : H' b = none) : FpOk X pins H' b:=by
 refine ⟨hn,Nat.ne_of_gt (Nat.lt_of_lt_of_le I.lt hb),I.nofs hb,.inr (Nat.le_trans I.sz hb),λ x c e z=>?_,λ p hp z=>?_⟩
 ·obtain ⟨v,q⟩:=I.cell x c e
  exact absurd (Nat.lt_of_lt_of_le q.lt (by rw [z]; exact hb)) (Nat.lt_irrefl _)
 ·exact absurd (Nat.lt_of_lt_of_le (Heap.lt_size (I.pin p hp).1) (by rw [z]; exact hb)) (Nat.lt_irrefl _)
structure Turn (P : Program) (w : World) (K : PySem.W.Frag) (tg : Expr) (J : It) (fp : List Addr) (it : Addr) (tn : Nat -> Heap -> Prop) : Prop where
 mem : it ∈ fp
 obj : ∀ i h,tn i h -> ∀ b ∈ fp,∃ o,h.get? b = some o /\ ∀ v,o.data ≠ .cell v
 keep : ∀ i h h',tn i h -> (∀ b ∈ fp,∀ o,h.get? b = some o -> h'.get? b = some o) -> tn i h'
 item : ∀ (X : Cx),X.prog = P -> X.w = w -> X.K = K -> X.calm = true -> ∀ (i : Nat) (pins : List (Addr × Obj)) (s : Shared) (σ : St) (H : Hp) (E : Value -> Shared -> Prop),Inv X pins σ H s -> (∀ b ∈ fp,FpOk X pins H b) -> tn i s.heap -> J.go i H ->
  wpAny (model P w) X.A (pyNext (.ref it)) (λ r s1=>∃ u,r = some u /\
   wpAny (model P w) X.A (letOwnedTupleGo tg (.ref it) u) (λ _ s2=>∃ x H',Inv X pins σ H' s2 /\ RelV x u /\ J.yld i H x H' /\ tn (i + 1) s2.heap /\ ∀ b ∈ fp,H' b = none) E s1) E s
 done : ∀ (X : Cx),X.prog = P -> X.w = w -> X.K = K -> X.calm = true -> ∀ (i : Nat) (pins : List (Addr × Obj)) (s : Shared) (σ : St) (H : Hp) (E : Value -> Shared -> Prop),Inv X pins σ H s -> (∀ b ∈ fp,FpOk X pins H b) -> tn i s.heap -> J.stop i H ->
  wpAny (model P w) X.A (pyNext (.ref it)) (λ r s1=>r = none /\ Inv X pins σ H s1) E s
 self : ∀ (A : Around) (i : Nat) (s : Shared) (Q : Value -> Shared -> Prop) (E : Value -> Shared -> Prop),tn i s.heap -> Q (.ref it) s -> wpAny (model P w) A (pyIter (.ref it)) Q E s
abbrev TI:=St -> Hp -> (It -> Hp -> Prop) -> Prop
def PIE (X : Cx) (pins : List (Addr × Obj)) (σ : St) (tg : Expr) (R : It -> Hp -> Prop) (itv : Value) (s2 : Shared) : Prop :=
 ∃ (it : Addr) (fp : List Addr) (tn : Nat -> Heap -> Prop) (J : It) (H' : Hp),itv = .ref it /\ Inv X pins σ H' s2 /\ Turn X.prog X.w X.K tg J fp it tn /\ tn 0 s2.heap /\ (∀ b ∈ fp,FpOk X pins H' b) /\ R J H'
def PI (X : Cx) (tg iter : Expr) (wi : TI) : Prop :=
 ∀ (pins : List (Addr × Obj)) (s : Shared) (σ : St) (H : Hp) (R : It -> Hp -> Prop),Inv X pins σ H s -> wi σ H R ->
   wpAny (model X.prog X.w) X.A (eval iter X.env) (λ v s1=>wpAny (model X.prog X.w) X.A (pyIter v) (PIE X pins σ tg R) X.xe s1) X.xe s
theorem go_of {M : Model} {A : Around} {E : Value -> Shared -> Prop} {s : Shared} {tg : Expr} {it : Addr} {u : Value} {o : Obj} {n : String} {vs : Array Value} {Q : Unit -> Shared -> Prop} (ho : s.heap.get? it = some o) (hc : o.cls = .type n) (hd : o.data = .fields vs)
 (hn : ["enumerate", "zip", "dict_itemiterator", "dict_reverseitemiterator", "odict_iterator", "itertools.zip_longest", "itertools.pairwise"].contains n = false) (hQ : Q () s) : wpAny M A (letOwnedTupleGo tg (.ref it) u) Q E s:=by
 unfold letOwnedTupleGo
 cases tg <;> first
  | exact wpAny_pure hQ
  | (cases u <;> first
   | exact wpAny_pure hQ
   | (refine wpAny_bind (wpAny_load ho ?_)
      rw [hc,hd]
      show wpAny M A (if (["enumerate", "zip", "dict_itemiterator", "dict_reverseitemiterator", "odict_iterator", "itertools.zip_longest", "itertools.pairwise"].contains n && vs[0]? == some (rawInt _)) = true then _ else _) Q E s
      rw [if_neg (by intro h; rw [hn,Bool.false_and] at h; cases h)]
      exact wpAny_pure hQ))
def Itl (K : PySem.W.Frag) (a : Addr) : It :=
 ⟨λ i H=>∃ xs x,SqL K H a xs /\ xs[i]? = some x,λ i H x H'=>H' = H /\ ∀ xs,SqL K H a xs -> xs[i]? = some x,λ i H=>∃ xs,SqL K H a xs /\ xs.length <= i⟩
def Itt (K : PySem.W.Frag) (a : Addr) : It :=
 ⟨λ i H=>∃ xs x,SqT K H a xs /\ xs[i]? = some x,λ i H x H'=>H' = H /\ ∀ xs,SqT K H a xs -> xs[i]? = some x,λ i H=>∃ xs,SqT K H a xs /\ xs.length <= i⟩
def Itr (lo : Int) (n : Nat) : It:=⟨λ i _=>i < n,λ i H x H'=>H' = H /\ x = .int (lo + i),λ i _=>n <= i⟩
theorem turn_list {P : Program} {w : World} {K : PySem.W.Frag} {tg : Expr} (a it : Addr) : Turn P w K tg (Itl K a) [it] it (λ i h=>h.IsListIter it a i) where
 mem:=by simp
 obj:=λ i h st b hb=>by
  have e : b = it:=by simpa using hb
  subst e
  obtain ⟨o,e,c,d⟩:=st
  exact ⟨o,e,λ v z=>by rw [d] at z; cases z⟩
 keep:=λ i h h' st k=>st.at λ o e=>k it (by simp) o e
 item:=by
  intro X hP hw hK hc i pins s σ H E I hf st hg
  subst hP hw hK
  obtain ⟨xs,x,hq,hx⟩:=hg
  obtain ⟨its,rv,p,hz⟩:=I.list hq
  obtain ⟨u,hu,ru⟩:=rv.get hx
  obtain ⟨f0,f1,f2,f3,f4,f5⟩:=hf it (by simp)
  refine wpAny_pyNext_list_item st p.isList (x:=u) (by simpa using hu) λ h' st' sb=>?_
  have I1 : Inv X pins σ H { s with heap:=h' }:=I.turned (t':=s.toks) (λ b o hb e=>(sb.2 b hb).trans e) f0 f1 f3 f4 f5
  obtain ⟨o,e,c,d⟩:=id st'
  exact ⟨u,rfl,go_of (s:={ s with heap:=h' }) e c d (by decide) ⟨x,H,I1,ru,⟨rfl,λ ys hy=>by rw [I.list_inj hy hq]; exact hx⟩,st',λ b hb=>(hf b hb).1⟩⟩
 done:=by
  intro X hP hw hK hc i pins s σ H E I hf st hg
  subst hP hw hK
  obtain ⟨xs,hq,hx⟩:=hg
  obtain ⟨its,rv,p,hz⟩:=I.list hq
  obtain ⟨f0,f1,f2,f3,f4,f5⟩:=hf it (by simp)
  have hl:=rv.length
  exact wpAny_pyNext_list_end (I.ok.hd hc) st p.isList (by simp; omega) λ h' eb=>⟨rfl,I.turned (t':=s.toks) (λ b o hb e=>eb b o hb e) f0 f1 f3 f4 f5⟩
 self:=λ _ _ _ _ _ st h=>wpAny_pyIter_listiter st h
theorem turn_tuple {P : Program} {w : World} {K : PySem.W.Frag} {tg : Expr} (a it : Addr) : Turn P w K tg (Itt K a) [it] it (λ i h=>h.IsTupleIter it a i) where
 mem:=by simp
 obj:=λ i h st b hb=>by
  have e : b = it:=by simpa using hb
  subst e
  obtain ⟨o,e,c,d⟩:=st
  exact ⟨o,e,λ v z=>by rw [d] at z; cases z⟩
 keep:=λ i h h' st k=>st.at λ o e=>k it (by simp) o e
 item:=by
  intro X hP hw hK hc i pins s σ H E I hf st hg
  subst hP hw hK
  obtain ⟨xs,x,hq,hx⟩:=hg
  obtain ⟨its,rv,p,hz⟩:=I.tuple hq
  obtain ⟨u,hu,ru⟩:=rv.get hx
  obtain ⟨f0,f1,f2,f3,f4,f5⟩:=hf it (by simp)
  refine wpAny_pyNext_tuple_item st (show s.heap.IsTuple a its.toArray from p) (x:=u) (by simpa using hu) λ h' st' sb=>?_
  have I1 : Inv X pins σ H { s with heap:=h' }:=I.turned (t':=s.toks) (λ b o hb e=>(sb.2 b hb).trans e) f0 f1 f3 f4 f5
  obtain ⟨o,e,c,d⟩:=id st'
  exact ⟨u,rfl,go_of (s:={ s with heap:=h' }) e c d (by decide) ⟨x,H,I1,ru,⟨rfl,λ ys hy=>by rw [I.tuple_inj hy hq]; exact hx⟩,st',λ b hb=>(hf b hb).1⟩⟩
 done:=by
  intro X hP hw hK hc i pins s σ H E I hf st hg
  subst hP hw hK
  obtain ⟨xs,hq,hx⟩:=hg
  obtain ⟨its,rv,p,hz⟩:=I.tuple hq
  obtain ⟨f0,f1,f2,f3,f4,f5⟩:=hf it (by simp)
  have hl:=rv.length
  exact wpAny_pyNext_tuple_end (I.ok.hd hc) st (show s.heap.IsTuple a its.toArray from p) (by simp; omega) λ h' eb=>⟨rfl,I.turned (t':=s.toks) (λ b o hb e=>eb b o hb e) f0 f1 f3 f4 f5⟩
 self:=λ _ _ _ _ _ st h=>wpAny_pyIter_tupleiter st h
theorem turn_range {P : Program} {w : World} {K : PySem.W.Frag} {tg : Expr} (it : Addr) (lo : Int) (n : Nat) : Turn P w K tg (Itr lo n) [it] it (λ i h=>IsRangeIter h it (lo + (i : Nat) * 1) ((n : Int) - (i : Nat)) 1) where
 mem:=by simp
 obj:=λ i h st b hb=>by
  have e : b = it:=by simpa using hb
  subst e
  exact ⟨_,st,λ v z=>by
   have z' : Data.fields _ = Data.cell v:=z
   cases z'⟩
 keep:=λ i h h' st k=>k it (by simp) _ st
 item:=by
  intro X hP hw hK hc i pins s σ H E I hf st hg
  subst hP hw hK
  obtain ⟨f0,f1,f2,f3,f4,f5⟩:=hf it (by simp)
  have W:=Walks.range (prog:=X.prog) (w:=X.w) (I.ok.hd hc) it lo 1 n
  refine W.item i s _ _ hg st λ v h' tk hv st' kk=>?_
  obtain ⟨t,rfl⟩:=hv
  have I1 : Inv X pins σ H { s with heap:=h',toks:=tk }:=I.turned (λ b o hb e=>kk b o (by simpa using hb) e) f0 f1 f3 f4 f5
  refine ⟨_,rfl,go_of (s:={ s with heap:=h',toks:=tk }) (n := "range_iterator") st' rfl rfl (by decide) ⟨.int (lo + i),H,I1,⟨t,?_⟩,⟨rfl,rfl⟩,st',λ b hb=>(hf b hb).1⟩⟩
  rw [Int.mul_one]
 done:=by
  intro X hP hw hK hc i pins s σ H E I hf st hg
  subst hP hw hK
  obtain ⟨f0,f1,f2,f3,f4,f5⟩:=hf it (by simp)
  exact wpAny_pyNext_range_end (I.ok.hd hc) st (by have : n <= i:=hg; omega) λ h' eb=>⟨rfl,I.turned (t':=s.toks) (λ b o hb e=>eb b o hb e) f0 f1 f3 f4 f5⟩
 self:=λ _ _ _ _ _ st h=>wpAny_pyIter_rangeiter st h
end L2
namespace L2
open PySem PySem.Spec PyProof.Rows
section
variable {X : Cx} {tg : Expr}
def iList (K : PySem.W.Frag) (tl : TE) : TI:=λ σ H R=>tl σ H λ x H1=>∃ a,x = .ref a /\ (∃ xs,SqL K H1 a xs) /\ R (Itl K a) H1
theorem pi_list {l : Expr} {tl : TE} (hl : PE X l tl) : PI X tg l (iList X.K tl):=by
 intro pins s σ H R I h
 refine thn (hl pins s σ H _ I h) λ v s1 ⟨x,H1,I1,r1,q1⟩=>?_
 obtain ⟨a,e,⟨xs,hq⟩,q⟩:=q1
 subst e
 cases r1
 obtain ⟨its,rv,p,hz⟩:=I1.list hq
 refine wpAny_pyIter_list p.isList ?_
 refine ⟨s1.heap.objs.size,[s1.heap.objs.size],_,_,H1,rfl,I1.kept (t':=s1.toks) λ b o e=>Heap.get?_push_of_some _ e,turn_list a _,⟨_,Heap.get?_push_size _ rfl,rfl,rfl⟩,λ b hb=>?_,q⟩
 have e : b = s1.heap.objs.size:=by simpa using hb
 subst e
 exact I1.fpOk (Nat.le_refl _) (I1.hok.fresh (Nat.le_refl _))
theorem range_it {pins : List (Addr × Obj)} {σ : St} {H : Hp} {s : Shared} {R : It -> Hp -> Prop} {E : Value -> Shared -> Prop} {lo hi : Int} {t u v : Tok} {tk : Nat} (I : Inv X pins σ H s) (h1 : -(2 ^ 62) <= lo) (h2 : lo < 2 ^ 62) (h3 : -(2 ^ 62) <= hi) (h4 : hi < 2 ^ 62)
 (q : R (Itr lo (hi - lo).toNat) H) : wpAny (model X.prog X.w) X.A (pyIter (.ref s.heap.objs.size)) (PIE X pins σ tg R) E { s with heap:=s.heap.push { cls:=.type "range",data:=.fields #[.int lo t,.int hi u,.int 1 v] },toks:=tk }:=by
 refine wpAny_pyIter_range (IsRange.new ..) (small_one h1 h2 h3 h4) ?_
 have I1 : Inv X pins σ H { s with heap:=s.heap.push { cls:=.type "range",data:=.fields #[.int lo t,.int hi u,.int 1 v] },toks:=tk }:=I.kept λ b o e=>Heap.get?_push_of_some _ e
 refine ⟨(s.heap.push { cls:=.type "range",data:=.fields #[.int lo t,.int hi u,.int 1 v] }).objs.size,[(s.heap.push { cls:=.type "range",data:=.fields #[.int lo t,.int hi u,.int 1 v] }).objs.size],_,_,H,rfl,
  I1.kept (t':=tk) λ b o e=>Heap.get?_push_of_some _ e,turn_range _ lo (hi - lo).toNat,?_,λ b hb=>?_,q⟩
 ·have e1 : lo + ((0 : Nat) : Int) * 1 = lo:=by simp
  have e2 : (((hi - lo).toNat : Nat) : Int) - ((0 : Nat) : Int) = Builtin.Range.rangeSize lo hi 1:=by rw [rangeSize_one]; split <;> omega
  show IsRangeIter _ _ (lo + ((0 : Nat) : Int) * 1) ((((hi - lo).toNat : Nat) : Int) - ((0 : Nat) : Int)) 1
  rw [e1,e2]
  exact Heap.get?_push_size _ rfl
 ·have e : b = (s.heap.push { cls:=.type "range",data:=.fields #[.int lo t,.int hi u,.int 1 v] }).objs.size:=by simpa using hb
  subst e
  exact I1.fpOk (Nat.le_refl _) (I1.hok.fresh (Nat.le_refl _))
def iRng1 (ta : TA) : TI:=λ σ H R=>ta σ H λ vs H1=>∃ j : Int,vs = [.int j] /\ -(2 ^ 62) <= j /\ j < 2 ^ 62 /\ R (Itr 0 j.toNat) H1
theorem pi_range1 {a : Expr} {ta : TA} {p pos : Pos} (hg : Gl X "range") (hm : X.mg "range" = none) (ha : PA X [a] ta) (hs : starEach [a] X.env = [(false,eval a X.env)]:=by rfl) : PI X tg (.Call (.Name "range" p) [a] [] pos) (iRng1 ta):=by
 intro pins s σ H R I h
 refine Call_ (ld_blt I hg hm boot_range (PyProof.Rows.callWith_type1 (thn (ha pos pins s σ H _ I h) λ us s1 ⟨vs,H1,I1,r1,q1⟩=>?_) hs rfl))
 obtain ⟨j,e,q1,q2,q⟩:=q1
 subst e
 cases r1 with
 | cons r rr =>
   cases rr
   obtain ⟨t,rfl⟩:=r
   exact call_range_1 (range_it I1 (by omega) (by omega) q1 q2 (by simpa using q))
def tFor (wi : TI) (g : TG) (tb : TS) : TS:=λ D σ H=>wi σ H λ J H1=>∃ W : Nat -> Nat -> St -> Hp -> Prop,(∃ m,W 0 m σ H1) /\ ∀ i m σ H,W i m σ H ->
 (J.stop i H /\ D.nx σ H) \/ (J.go i H /\ ∃ N : St -> Hp -> Prop,(∀ σ' H',N σ' H' -> ∃ m',m' < m /\ W (i + 1) m' σ' H') /\ ∀ x H',J.yld i H x H' -> g x σ H' λ σ2 H2=>tb { D with nx:=N,ct:=N,bk:=D.nx } σ2 H2)
def pinsAt (fp : List Addr) (h : Heap) : List (Addr × Obj):=fp.filterMap λ b=>(h.get? b).map λ o=>(b,o)
theorem mem_pinsAt {fp : List Addr} {h : Heap} {b : Addr} {o : Obj} (hb : b ∈ fp) (e : h.get? b = some o) : (b,o) ∈ pinsAt fp h:=List.mem_filterMap.mpr ⟨b,hb,by rw [e]; rfl⟩
theorem of_pinsAt {fp : List Addr} {h : Heap} {p : Addr × Obj} (hp : p ∈ pinsAt fp h) : p.1 ∈ fp /\ h.get? p.1 = some p.2:=by
 obtain ⟨b,hb,e⟩:=List.mem_filterMap.mp hp
 cases q : h.get? b with
 | none=>rw [q] at e; cases e
 | some o =>
   rw [q] at e
   have e' : (b,o) = p:=Option.some.inj e
   subst e'
   exact ⟨hb,q⟩
theorem Inv.pinned {pins : List (Addr × Obj)} {σ : St} {H : Hp} {s : Shared} {fp : List Addr} (I : Inv X pins σ H s) (hf : ∀ b ∈ fp,FpOk X pins H b) (ho : ∀ b ∈ fp,∃ o,s.heap.get? b = some o /\ ∀ v,o.data ≠ .cell v) : Inv X (pins ++ pinsAt fp s.heap) σ H s :=
 I.pins_of λ p hp=>(List.mem_append.mp hp).elim (λ z=>I.pin p (List.mem_append_right _ z)) λ z=>by
  obtain ⟨hb,e⟩:=of_pinsAt z
  obtain ⟨f0,f1,f2,_⟩:=hf p.1 hb
  obtain ⟨o,e',d⟩:=ho p.1 hb
  rw [e] at e'; cases e'
  exact ⟨e,f0,f1,f2,d⟩
theorem Inv.unpinned {pins pl : List (Addr × Obj)} {σ : St} {H : Hp} {s : Shared} (I : Inv X (pins ++ pl) σ H s) : Inv X pins σ H s:=I.pins_of λ p hp=>I.pin p (List.mem_append_right _ (List.mem_append_left _ hp))
theorem ps_for {iter : Expr} {body : List Stmt} {wi : TI} {g : TG} {tb : TS} {pos : Pos} (hp : PassesOwn (model X.prog X.w) X.A X.env X.xe) (hc : X.calm = true) (hi : PI X tg iter wi) (hg : PG X tg g) (hb : PSs X body tb)
 (hs : ∀ x,foldedSetIterable iter X.env x = pure x:=by intro _; rfl) : PS X (.For tg iter body [] pos) (tFor wi g tb):=by
 intro pins s σ H D I h
 refine wpAny_For (thn (hi pins s σ H _ I h) λ v s1 h1=>thn h1 λ itv s2 h2=>?_) hs
 obtain ⟨it,fp,tn,J,H2,e,I2,T,st2,f2,W,⟨m0,w0⟩,turn⟩:=h2
 subst e
 have stat : ∀ {H' : Hp},(∀ b ∈ fp,H' b = none) -> ∀ b ∈ fp,FpOk X pins H' b:=λ hn b hb=>⟨hn b hb,(f2 b hb).2⟩
 refine codeAny_forLoop_any (λ n s'=>∃ i σ' H',Inv X pins σ' H' s' /\ tn i s'.heap /\ (∀ b ∈ fp,H' b = none) /\ W i n σ' H') ?_ m0 ⟨0,σ,H2,I2,st2,λ b hb=>(f2 b hb).1,w0⟩
 rintro n s3 ⟨i,σ3,H3,I3,st3,fr3,w3⟩
 rcases turn i n σ3 H3 w3 with ⟨stop,qn⟩ | ⟨go,N,hN,step⟩
 ·refine wpAny_passesOwn hp (thn (T.done X rfl rfl rfl hc i pins s3 σ3 H3 X.xe I3 (stat fr3) st3 stop) λ r s4 ⟨hr,I4⟩=>?_)
  subst hr
  exact wpAny_execs_nil ⟨σ3,H3,I4,qn⟩
 ·refine wpAny_passesOwn hp (thn (T.item X rfl rfl rfl hc i pins s3 σ3 H3 X.xe I3 (stat fr3) st3 go) λ r s4 ⟨u,hr,h4⟩=>?_)
  subst hr
  refine wpAny_passesOwn hp (thn h4 λ _ s5 ⟨x,H5,I5,r5,y5,st5,fr5⟩=>?_)
  have I5':=I5.pinned (stat fr5) (T.obj _ _ st5)
  refine wpAny_passesOwn hp (thn (hg _ s5 σ3 H5 x u _ I5' r5 (step x H5 y5)) λ _ s6 ⟨σ6,H6,I6,q6⟩=>?_)
  refine wpAny_passesOwn hp (thn (hb _ s6 σ6 H6 _ I6 q6) λ f s7 q7=>?_)
  have again : ∀ {σ7 : St} {H7 : Hp},Inv X (pins ++ pinsAt fp s5.heap) σ7 H7 s7 -> N σ7 H7 -> ∃ m,m < n /\ ∃ i σ' H',Inv X pins σ' H' s7 /\ tn i s7.heap /\ (∀ b ∈ fp,H' b = none) /\ W i m σ' H':=λ {σ7 H7} I7 n7=>by
   obtain ⟨m',hm,w7⟩:=hN σ7 H7 n7
   refine ⟨m',hm,i + 1,σ7,H7,I7.unpinned,T.keep _ _ _ st5 λ b hb o e=>(I7.pin (b,o) (List.mem_append_right _ (List.mem_append_right _ (mem_pinsAt hb e)))).1,λ b hb=>?_,w7⟩
   obtain ⟨o,e,d⟩:=T.obj _ _ st5 b hb
   exact (I7.pin (b,o) (List.mem_append_right _ (List.mem_append_right _ (mem_pinsAt hb e)))).2.1
  cases f with
  | next=>obtain ⟨σ7,H7,I7,n7⟩:=q7; exact again I7 n7
  | cont=>obtain ⟨σ7,H7,I7,n7⟩:=q7; exact again I7 n7
  | brk=>obtain ⟨σ7,H7,I7,q7⟩:=q7; exact ⟨σ7,H7,I7.unpinned,q7⟩
  | ret v=>obtain ⟨x7,σ7,H7,I7,r7,q7⟩:=q7; exact ⟨x7,σ7,H7,I7.unpinned,r7,q7⟩
end
theorem for_range {lo : Int} {n : Nat} {g : TG} {tb : TS} {D : Ends} {σ : St} {H : Hp} (Pv : Nat -> St -> Hp -> Prop) (h0 : Pv 0 σ H)
 (hs : ∀ i σ H,i < n -> Pv i σ H -> g (.int (lo + i)) σ H λ σ2 H2=>tb { D with nx:=Pv (i + 1),ct:=Pv (i + 1),bk:=D.nx } σ2 H2) (hd : ∀ σ H,Pv n σ H -> D.nx σ H) :
 ∃ W : Nat -> Nat -> St -> Hp -> Prop,(∃ m,W 0 m σ H) /\ ∀ i m σ H,W i m σ H ->
   ((Itr lo n).stop i H /\ D.nx σ H) \/ ((Itr lo n).go i H /\ ∃ N : St -> Hp -> Prop,(∀ σ' H',N σ' H' -> ∃ m',m' < m /\ W (i + 1) m' σ' H') /\ ∀ x H',(Itr lo n).yld i H x H' -> g x σ H' λ σ2 H2=>tb { D with nx:=N,ct:=N,bk:=D.nx } σ2 H2):=by
 refine ⟨λ i m σ H=>m = n - i /\ i <= n /\ Pv i σ H,⟨n,by simp,Nat.zero_le _,h0⟩,?_⟩
 rintro i m σ H ⟨rfl,hi,p⟩
 by_cases hlt : i < n
 ·refine .inr ⟨hlt,Pv (i + 1),λ σ' H' p'=>⟨n - (i + 1),by omega,rfl,hlt,p'⟩,λ x H' y=>?_⟩
  obtain ⟨e,y⟩:=y
  subst e y
  exact hs i σ _ hlt p
 ·have e : i = n:=by omega
  subst e
  exact .inl ⟨Nat.le_refl _,hd σ H p⟩
theorem while_by {c : TT} {tb : TS} {D : Ends} {σ : St} {H : Hp} (Pv : St -> Hp -> Prop) (μ : St -> Hp -> Nat) (h0 : Pv σ H)
 (hs : ∀ σ H,Pv σ H -> c σ H λ b H1=>if b = true then tb { D with nx:=λ σ' H'=>Pv σ' H' /\ μ σ' H' < μ σ H,ct:=λ σ' H'=>Pv σ' H' /\ μ σ' H' < μ σ H,bk:=D.nx } σ H1 else D.nx σ H1)
 (mono : ∀ σ H Q Q',(∀ b H1,Q b H1 -> Q' b H1) -> c σ H Q -> c σ H Q') : tWhile c tb D σ H:=by
 refine ⟨λ m σ H=>m = μ σ H /\ Pv σ H,⟨_,rfl,h0⟩,?_⟩
 rintro m σ H ⟨rfl,p⟩
 refine mono σ H _ _ (λ b H1 q=>?_) (hs σ H p)
 cases b with
 | true=>exact ⟨_,λ σ' H' ⟨p',l⟩=>⟨_,l,rfl,p'⟩,q⟩
 | false=>exact q
end L2
namespace L2
open PySem PySem.Spec PyProof.Rows
abbrev R2:=V -> V -> Hp -> VK -> Prop
def OpR (X : Cx) (f : Value -> Value -> Sem Value) (r : R2) : Prop :=
 ∀ (pins : List (Addr × Obj)) (s : Shared) (σ : St) (H : Hp) (x y : V) (v u : Value) (Q : VK),Inv X pins σ H s -> RelV x v -> RelV y u -> r x y H Q ->
   wpAny (model X.prog X.w) X.A (f v u) (EP X pins σ Q) X.xe s
def UnR (X : Cx) (f : Value -> Sem Value) (r : V -> Hp -> VK -> Prop) : Prop :=
 ∀ (pins : List (Addr × Obj)) (s : Shared) (σ : St) (H : Hp) (x : V) (v : Value) (Q : VK),Inv X pins σ H s -> RelV x v -> r x H Q ->
   wpAny (model X.prog X.w) X.A (f v) (EP X pins σ Q) X.xe s
def CallR (X : Cx) (f : Value) (r : List V -> Hp -> VK -> Prop) : Prop :=
 ∀ (pins : List (Addr × Obj)) (s : Shared) (σ : St) (H : Hp) (xs : List V) (us : List Value) (Q : VK),Inv X pins σ H s -> Vals xs us -> r xs H Q ->
   wpAny (model X.prog X.w) X.A (call f us) (EP X pins σ Q) X.xe s
def tOp (r : R2) (ta tb : TE) : TE:=λ σ H Q=>ta σ H λ x H1=>tb σ H1 λ y H2=>r x y H2 Q
def tUn (r : V -> Hp -> VK -> Prop) (ta : TE) : TE:=λ σ H Q=>ta σ H λ x H1=>r x H1 Q
def rI (C : Int -> Int -> Prop) (g : Int -> Int -> V) : R2:=λ x y H Q=>∃ i j,x = .int i /\ y = .int j /\ C i j /\ Q (g i j) H
def rI0 (g : Int -> Int -> V) : R2:=λ x y H Q=>∃ i j,x = .int i /\ y = .int j /\ Q (g i j) H
def rU (g : Int -> V) : V -> Hp -> VK -> Prop:=λ x H Q=>∃ i,x = .int i /\ Q (g i) H
section
variable {X : Cx} {a b c : Expr} {ta tb tc : TE} {pos : Pos}
theorem binT (ha : PE X a ta) (hb : PE X b tb) {pins : List (Addr × Obj)} {s : Shared} {σ : St} {H : Hp} {R : V -> V -> Hp -> Prop} (I : Inv X pins σ H s)
 (h : ta σ H λ x H1=>tb σ H1 λ y H2=>R x y H2) {Q : Value -> Shared -> Prop} {f : Value -> Value -> Sem Value}
 (hf : ∀ v u s2 x y H2,Inv X pins σ H2 s2 -> RelV x v -> RelV y u -> R x y H2 -> wpAny (model X.prog X.w) X.A (f v u) Q X.xe s2) :
 wpAny (model X.prog X.w) X.A (eval a X.env) (λ v s₁=>wpAny (model X.prog X.w) X.A (eval b X.env) (λ u s₂=>wpAny (model X.prog X.w) X.A (f v u) Q X.xe s₂) X.xe s₁) X.xe s:=by
 refine thn (ha pins s σ H _ I h) λ v s1 ⟨x,H1,I1,r1,q1⟩=>?_
 refine thn (hb pins s1 σ H1 _ I1 q1) λ u s2 ⟨y,H2,I2,r2,q2⟩=>?_
 exact hf v u s2 x y H2 I2 r1 r2 q2
theorem pe_op {op : Operator} {r : R2} (ho : OpR X (binaryOp op) r) (ha : PE X a ta) (hb : PE X b tb) : PE X (.BinOp a op b pos) (tOp r ta tb):=by
 intro pins s σ H Q I h
 exact wpAny_BinOp (binT ha hb I h λ v u s2 x y H2 I2 rx ry q=>ho pins s2 σ H2 x y v u Q I2 rx ry q)
theorem pe_un {op : UnaryOp} {r : V -> Hp -> VK -> Prop} (ho : UnR X (unaryOp op) r) (ha : PE X a ta) : PE X (.UnaryOp op a pos) (tUn r ta):=by
 intro pins s σ H Q I h
 exact UnaryOp_ (thn (ha pins s σ H _ I h) λ v s1 ⟨x,H1,I1,r1,q1⟩=>ho pins s1 σ H1 x v Q I1 r1 q1)
theorem opI {f : Value -> Value -> Sem Value} {C : Int -> Int -> Prop} {g : Int -> Int -> Int}
 (rule : ∀ (i j : Int) (t u : Tok) (s : Shared) (Q : Value -> Shared -> Prop) (E : Value -> Shared -> Prop),C i j -> Q (.int (g i j) s.toks) { s with toks:=s.toks + 1 } -> wpAny (model X.prog X.w) X.A (f (.int i t) (.int j u)) Q E s) :
 OpR X f (rI C λ i j=>.int (g i j)):=by
 intro pins s σ H x y v u Q I rx ry h
 obtain ⟨i,j,rfl,rfl,hc,q⟩:=h
 obtain ⟨t,rfl⟩:=rx
 obtain ⟨t',rfl⟩:=ry
 exact rule i j t t' s _ _ hc ⟨.int (g i j),H,I.tok _,⟨_,rfl⟩,q⟩
theorem opI0 {f : Value -> Value -> Sem Value} {g : Int -> Int -> Int}
 (rule : ∀ (i j : Int) (t u : Tok) (s : Shared) (Q : Value -> Shared -> Prop) (E : Value -> Shared -> Prop),Q (.int (g i j) s.toks) { s with toks:=s.toks + 1 } -> wpAny (model X.prog X.w) X.A (f (.int i t) (.int j u)) Q E s) :
 OpR X f (rI0 λ i j=>.int (g i j)):=by
 intro pins s σ H x y v u Q I rx ry h
 obtain ⟨i,j,rfl,rfl,q⟩:=h
 obtain ⟨t,rfl⟩:=rx
 obtain ⟨t',rfl⟩:=ry
 exact rule i j t t' s _ _ ⟨.int (g i j),H,I.tok _,⟨_,rfl⟩,q⟩
theorem opB0 {f : Value -> Value -> Sem Value} {g : Int -> Int -> Bool}
 (rule : ∀ (i j : Int) (t u : Tok) (s : Shared) (Q : Value -> Shared -> Prop) (E : Value -> Shared -> Prop),Q (.bool (g i j)) s -> wpAny (model X.prog X.w) X.A (f (.int i t) (.int j u)) Q E s) :
 OpR X f (rI0 λ i j=>.bl (g i j)):=by
 intro pins s σ H x y v u Q I rx ry h
 obtain ⟨i,j,rfl,rfl,q⟩:=h
 obtain ⟨t,rfl⟩:=rx
 obtain ⟨t',rfl⟩:=ry
 exact rule i j t t' s _ _ ⟨.bl (g i j),H,I,rfl,q⟩
def CPow (i j : Int) : Prop:=0 <= j /\ j <= 1000000 /\ i.natAbs < 2 ^ 64
def CMul (i j : Int) : Prop:=(-(2 ^ 64) < i /\ i < 2 ^ 64) \/ (-(2 ^ 64) < j /\ j < 2 ^ 64)
theorem CMul.ok {i j : Int} (h : CMul i j) : IntMulOk i j:=by
 rcases h with ⟨h1,h2⟩ | ⟨h1,h2⟩
 ·exact .of_left (intBits_le_64 h1 h2)
 ·exact .of_right (intBits_le_64 h1 h2)
theorem op_add : OpR X (binaryOp .Add) (rI0 λ i j=>.int (i + j)):=opI0 λ _ _ _ _ _ _ _ q=>add_int q
theorem op_sub : OpR X (binaryOp .Sub) (rI0 λ i j=>.int (i - j)):=opI0 λ _ _ _ _ _ _ _ q=>sub_int q
theorem op_mod : OpR X (binaryOp .Mod) (rI (λ _ j=>0 < j) λ i j=>.int (i % j)):=opI λ i j _ _ _ _ _ hc q=>by
 have h1 : (0 : Int) < j:=hc
 exact mod_int' (by omega) (by rw [Int.fmod_eq_emod_of_nonneg i (by omega)]; exact q)
theorem op_pow : OpR X (binaryOp .Pow) (rI CPow λ i j=>.int (i ^ j.toNat)):=opI λ _ _ _ _ _ _ _ hc q=>pow_int_small hc.1 hc.2.1 hc.2.2 q
theorem unI {f : Value -> Sem Value} {g : Int -> Int}
 (rule : ∀ (i : Int) (t : Tok) (s : Shared) (Q : Value -> Shared -> Prop) (E : Value -> Shared -> Prop),Q (.int (g i) s.toks) { s with toks:=s.toks + 1 } -> wpAny (model X.prog X.w) X.A (f (.int i t)) Q E s) :
 UnR X f (rU λ i=>.int (g i)):=by
 intro pins s σ H x v Q I rx h
 obtain ⟨i,rfl,q⟩:=h
 obtain ⟨t,rfl⟩:=rx
 exact rule i t s _ _ ⟨.int (g i),H,I.tok _,⟨_,rfl⟩,q⟩
theorem un_neg : UnR X (unaryOp .USub) (rU λ i=>.int (-i)):=unI λ _ _ _ _ _ q=>neg_int q
end
def scal : V -> V -> Bool
 | .non,.non=>true | .non,.int _=>true | .int _,.non=>true | .non,.bl _=>true | .bl _,.non=>true | .non,.str _=>true | .str _,.non=>true
 | .int _,.int _=>true | .bl _,.bl _=>true | .str _,.str _=>true | .byt _,.byt _=>true
 | .int _,.str _=>true | .str _,.int _=>true | .bl _,.str _=>true | .str _,.bl _=>true
 | _,_=>false
def rEq : R2:=λ x y H Q=>scal x y = true /\ Q (.bl (decide (x = y))) H
def rNe : R2:=λ x y H Q=>scal x y = true /\ Q (.bl (!decide (x = y))) H
theorem dec_int {i j : Int} : decide (V.int i = V.int j) = (i == j):=by
 rw [Bool.eq_iff_iff]
 simp
theorem dec_bl {i j : Bool} : decide (V.bl i = V.bl j) = (i == j):=by
 rw [Bool.eq_iff_iff]
 simp
theorem dec_str {i j : Str} : decide (V.str i = V.str j) = (i == j):=by
 rw [Bool.eq_iff_iff]
 simp
theorem dec_byt {i j : Array UInt8} : decide (V.byt i = V.byt j) = (i.toList == j.toList):=by
 rw [Bool.eq_iff_iff]
 cases i
 cases j
 simp
section
variable {X : Cx} {a b c : Expr} {ta tb tc : TE} {pos : Pos}
theorem fin_bl {pins : List (Addr × Obj)} {σ : St} {H : Hp} {s : Shared} {Q : VK} {k k' : Bool} (I : Inv X pins σ H s) (q : Q (.bl k) H) (e : k = k') : EP X pins σ Q (.bool k') s:=by
 subst e
 exact ⟨.bl k,H,I,rfl,q⟩
theorem op_eq : OpR X (compareOp .Eq) rEq:=by
 intro pins s σ H x y v u Q I rx ry h
 obtain ⟨hs,q⟩:=h
 cases x with
 | non =>
   cases rx
   cases y with
   | non=>cases ry; exact PySem.EqNone.eq_none_none (fin_bl I q (by simp))
   | bl j=>cases ry; exact PySem.EqNone.eq_none_bool (fin_bl I q (by simp))
   | int j=>obtain ⟨t',rfl⟩:=ry; exact PySem.EqNone.eq_none_int (fin_bl I q (by simp))
   | str j=>obtain ⟨t',rfl⟩:=ry; exact PySem.EqNone.eq_none_str (fin_bl I q (by simp))
   | _=>exact absurd (show false = true from hs) Bool.false_ne_true
 | bl i =>
   cases rx
   cases y with
   | non=>cases ry; exact PySem.EqNone.eq_bool_none (fin_bl I q (by simp))
   | bl j=>cases ry; exact eq_bool (fin_bl I q dec_bl)
   | str j=>obtain ⟨t',rfl⟩:=ry; exact PySem.EqMixed.eq_bool_str (fin_bl I q (by simp))
   | _=>exact absurd (show false = true from hs) Bool.false_ne_true
 | int i =>
   obtain ⟨t,rfl⟩:=rx
   cases y with
   | non=>cases ry; exact PySem.EqNone.eq_int_none (fin_bl I q (by simp))
   | int j=>obtain ⟨t',rfl⟩:=ry; exact eq_int (fin_bl I q dec_int)
   | str j=>obtain ⟨t',rfl⟩:=ry; exact PySem.EqMixed.eq_int_str (fin_bl I q (by simp))
   | _=>exact absurd (show false = true from hs) Bool.false_ne_true
 | str i =>
   obtain ⟨t,rfl⟩:=rx
   cases y with
   | non=>cases ry; exact PySem.EqNone.eq_str_none (fin_bl I q (by simp))
   | bl j=>cases ry; exact PySem.EqMixed.eq_str_bool (fin_bl I q (by simp))
   | int j=>obtain ⟨t',rfl⟩:=ry; exact PySem.EqMixed.eq_str_int (fin_bl I q (by simp))
   | str j=>obtain ⟨t',rfl⟩:=ry; exact eq_str (fin_bl I q dec_str)
   | _=>exact absurd (show false = true from hs) Bool.false_ne_true
 | byt i =>
   obtain ⟨t,rfl⟩:=rx
   cases y with
   | byt j=>obtain ⟨t',rfl⟩:=ry; exact PySem.W.eq_bytes (fin_bl I q dec_byt)
   | _=>exact absurd (show false = true from hs) Bool.false_ne_true
 | _=>cases y <;> exact absurd (show false = true from hs) Bool.false_ne_true
theorem op_ne : OpR X (compareOp .NotEq) rNe:=by
 intro pins s σ H x y v u Q I rx ry h
 obtain ⟨hs,q⟩:=h
 cases x with
 | non =>
   cases rx
   cases y with
   | non=>cases ry; exact PySem.EqNone.ne_none_none (fin_bl I q (by simp))
   | bl j=>cases ry; exact PySem.EqNone.ne_none_bool (fin_bl I q (by simp))
   | int j=>obtain ⟨t',rfl⟩:=ry; exact PySem.EqNone.ne_none_int (fin_bl I q (by simp))
   | str j=>obtain ⟨t',rfl⟩:=ry; exact PySem.EqNone.ne_none_str (fin_bl I q (by simp))
   | _=>exact absurd (show false = true from hs) Bool.false_ne_true
 | bl i =>
   cases rx
   cases y with
   | non=>cases ry; exact PySem.EqNone.ne_bool_none (fin_bl I q (by simp))
   | bl j=>cases ry; exact ne_bool (fin_bl I q (congrArg not dec_bl))
   | str j=>obtain ⟨t',rfl⟩:=ry; exact PySem.EqMixed.ne_bool_str (fin_bl I q (by simp))
   | _=>exact absurd (show false = true from hs) Bool.false_ne_true
 | int i =>
   obtain ⟨t,rfl⟩:=rx
   cases y with
   | non=>cases ry; exact PySem.EqNone.ne_int_none (fin_bl I q (by simp))
   | int j=>obtain ⟨t',rfl⟩:=ry; exact ne_int (fin_bl I q (congrArg not dec_int))
   | str j=>obtain ⟨t',rfl⟩:=ry; exact PySem.EqMixed.ne_int_str (fin_bl I q (by simp))
   | _=>exact absurd (show false = true from hs) Bool.false_ne_true
 | str i =>
   obtain ⟨t,rfl⟩:=rx
   cases y with
   | non=>cases ry; exact PySem.EqNone.ne_str_none (fin_bl I q (by simp))
   | bl j=>cases ry; exact PySem.EqMixed.ne_str_bool (fin_bl I q (by simp))
   | int j=>obtain ⟨t',rfl⟩:=ry; exact PySem.EqMixed.ne_str_int (fin_bl I q (by simp))
   | str j=>obtain ⟨t',rfl⟩:=ry; exact ne_str (fin_bl I q (congrArg not dec_str))
   | _=>exact absurd (show false = true from hs) Bool.false_ne_true
 | byt i =>
   obtain ⟨t,rfl⟩:=rx
   cases y with
   | byt j=>obtain ⟨t',rfl⟩:=ry; exact PySem.W.ne_bytes (fin_bl I q (congrArg not dec_byt))
   | _=>exact absurd (show false = true from hs) Bool.false_ne_true
 | _=>cases y <;> exact absurd (show false = true from hs) Bool.false_ne_true
theorem op_lt : OpR X (compareOp .Lt) (rI0 λ i j=>.bl (decide (i < j))):=opB0 λ _ _ _ _ _ _ _ q=>lt_int q
theorem op_gt : OpR X (compareOp .Gt) (rI0 λ i j=>.bl (decide (j < i))):=opB0 λ _ _ _ _ _ _ _ q=>gt_int q
theorem op_lt_str : OpR X (compareOp .Lt) (λ x y H Q=>∃ i j,x = .str i /\ y = .str j /\ Q (.bl (decide (i.cps.toList < j.cps.toList))) H):=by
 intro pins s σ H x y v u Q I rx ry h
 obtain ⟨i,j,rfl,rfl,q⟩:=h
 obtain ⟨t,rfl⟩:=rx
 obtain ⟨t',rfl⟩:=ry
 exact lt_str (fin_bl I q rfl)
theorem OpR.or {f : Value -> Value -> Sem Value} {r r' : R2} (h : OpR X f r) (h' : OpR X f r') : OpR X f (λ x y H Q=>r x y H Q \/ r' x y H Q):=by
 intro pins s σ H x y v u Q I rx ry q
 rcases q with q | q
 ·exact h pins s σ H x y v u Q I rx ry q
 ·exact h' pins s σ H x y v u Q I rx ry q
theorem nomark (b : Expr) {op : CmpOp} (h : op ≠ .In:=by decide) (h2 : op ≠ .NotIn:=by decide) : behindInMarks op b = false:=by
 have e1 : (op == CmpOp.In) = false:=by cases op <;> first | rfl | exact absurd rfl h
 have e2 : (op == CmpOp.NotIn) = false:=by cases op <;> first | rfl | exact absurd rfl h2
 cases b <;> simp [behindInMarks,e1,e2]
theorem pe_cmpR {op : CmpOp} {r : R2} (ho : OpR X (compareOp op) r) (ha : PE X a ta) (hb : PE X b tb) (hm : behindInMarks op b = false) : PE X (.Compare a [op] [b] pos) (tOp r ta tb):=by
 intro pins s σ H Q I h
 exact wpAny_Compare1 (binT ha hb I h λ v u s2 x y H2 I2 rx ry q=>ho pins s2 σ H2 x y v u Q I2 rx ry q) hm
def tTest (t : TE) : TT:=λ σ H Q=>t σ H λ x H'=>∃ k,x = .bl k /\ Q k H'
theorem pt_cmpR {op : CmpOp} {r : R2} (ho : OpR X (compareOp op) r) (ha : PE X a ta) (hb : PE X b tb) (hm : behindInMarks op b = false) : PT X (.Compare a [op] [b] pos) (tTest (tOp r ta tb)):=by
 intro pins s σ H Q I h
 refine wpAny_isTrue_Compare1 (thn (ha pins s σ H _ I h) λ v s1 ⟨x,H1,I1,r1,q1⟩=>thn (hb pins s1 σ H1 _ I1 q1) λ u s2 ⟨y,H2,I2,r2,q2⟩ =>
  thn (ho pins s2 σ H2 x y v u _ I2 r1 r2 q2) λ c s3 ⟨z,H3,I3,r3,k,e,q3⟩=>?_) hm
 subst e
 cases r3
 exact wpAny_truthy_bool ⟨H3,I3,q3⟩
theorem line63 : (sizeLine : Nat) < 2 ^ 63:=by rw [sizeLine_eq]; decide
theorem op_add_str : OpR X (binaryOp .Add) (λ x y H Q=>∃ i j,x = .str i /\ y = .str j /\ i.length + j.length <= sizeLine /\ Q (.str (i ++ j)) H):=by
 intro pins s σ H x y v u Q I rx ry h
 obtain ⟨i,j,rfl,rfl,hz,q⟩:=h
 obtain ⟨t,rfl⟩:=rx
 obtain ⟨t',rfl⟩:=ry
 exact add_str (λ t' tk=>⟨.str (i ++ j),H,I.tok _,⟨_,rfl⟩,q⟩) hz
theorem iop_add_str : OpR X (inplaceOp .Add) (λ x y H Q=>∃ i j,x = .str i /\ y = .str j /\ i.length + j.length <= sizeLine /\ Q (.str (i ++ j)) H):=by
 intro pins s σ H x y v u Q I rx ry h
 obtain ⟨i,j,rfl,rfl,hz,q⟩:=h
 obtain ⟨t,rfl⟩:=rx
 obtain ⟨t',rfl⟩:=ry
 exact iadd_str (λ t' tk=>⟨.str (i ++ j),H,I.tok _,⟨_,rfl⟩,q⟩) hz
theorem vals1 {x : V} {us : List Value} (r : Vals [x] us) : ∃ u,us = [u] /\ RelV x u:=by
 cases r with
 | cons r1 r2=>cases r2; exact ⟨_,rfl,r1⟩
theorem vals2 {x y : V} {us : List Value} (r : Vals [x,y] us) : ∃ u w',us = [u,w'] /\ RelV x u /\ RelV y w':=by
 cases r with
 | cons r1 r2 =>
   cases r2 with
   | cons r3 r4=>cases r4; exact ⟨_,_,rfl,r1,r3⟩
theorem call_abs : CallR X (.builtin "abs") (λ xs H Q=>∃ i,xs = [.int i] /\ Q (.int (if i < 0 then -i else i)) H):=by
 intro pins s σ H xs us Q I r h
 obtain ⟨i,rfl,q⟩:=h
 obtain ⟨u,rfl,t,rfl⟩:=vals1 r
 exact call_abs_int λ u tk=>⟨.int (if i < 0 then -i else i),H,I.tok _,⟨_,rfl⟩,q⟩
theorem call_max2 (hc : X.calm = true) : CallR X (.builtin "max") (λ xs H Q=>∃ i j,xs = [.int i,.int j] /\ Q (.int (if j > i then j else i)) H):=by
 intro pins s σ H xs us Q I r h
 obtain ⟨i,j,rfl,q⟩:=h
 obtain ⟨u,w',rfl,⟨t,rfl⟩,⟨t',rfl⟩⟩:=vals2 r
 refine max_two_ints (I.ok.hd hc) λ h' tk k=>⟨_,H,I.kept k,?_,q⟩
 by_cases hj : j > i
 ·rw [if_pos hj,if_pos hj]; exact ⟨_,rfl⟩
 ·rw [if_neg hj,if_neg hj]; exact ⟨_,rfl⟩
def LenV (K : PySem.W.Frag) (x : V) (H : Hp) (n : Nat) : Prop :=
 match x with
 | .str y=>y.length <= sizeLine /\ n = y.length
 | .byt y=>y.size <= sizeLine /\ n = y.size
 | .ref p=>(∃ xs,SqL K H p xs /\ n = xs.length) \/ ∃ xs,SqT K H p xs /\ n = xs.length
 | _=>False
theorem call_len : CallR X (.builtin "len") (λ xs H Q=>∃ x n,xs = [x] /\ LenV X.K x H n /\ Q (.int n) H):=by
 intro pins s σ H xs us Q I r h
 obtain ⟨x,n,rfl,e,q⟩:=h
 obtain ⟨u,rfl,rx⟩:=vals1 r
 have hl:=line63
 have hs : sizeLine = 16777216:=sizeLine_eq
 cases x with
 | str y =>
   obtain ⟨t,rfl⟩:=rx
   obtain ⟨hy,e'⟩ : y.length <= sizeLine /\ n = y.length:=e
   subst e'
   exact len_str (by omega) ⟨.int _,H,I.tok _,⟨_,rfl⟩,q⟩
 | byt y =>
   obtain ⟨t,rfl⟩:=rx
   obtain ⟨hy,e'⟩ : y.size <= sizeLine /\ n = y.size:=e
   subst e'
   exact PySem.W.len_bytes (by omega) ⟨.int _,H,I.tok _,⟨_,rfl⟩,q⟩
 | ref p =>
   cases rx
   have e' : (∃ xs,SqL X.K H p xs /\ n = xs.length) \/ ∃ xs,SqT X.K H p xs /\ n = xs.length:=e
   rcases e' with ⟨xs,hx,e'⟩ | ⟨xs,hx,e'⟩
   ·subst e'
    obtain ⟨its,r',pl,hz⟩:=I.list hx
    have hlen:=r'.length
    exact Calls.call_len_list pl.isList (by simp only [List.size_toArray]; omega) ⟨.int xs.length,H,I.tok _,⟨_,by simp only [List.size_toArray]; rw [hlen]⟩,q⟩
   ·subst e'
    obtain ⟨its,r',pl,hz⟩:=I.tuple hx
    have hlen:=r'.length
    exact len_tuple pl (by simp only [List.size_toArray]; omega) ⟨.int xs.length,H,I.tok _,⟨_,by simp only [List.size_toArray]; rw [hlen]⟩,q⟩
 | _=>exact (show False from e).elim
end
end L2
namespace L2
open PySem PySem.Spec PyProof.Rows
structure ObjM (h : Heap) (x dx C : Addr) (mA : Str -> Option Value) : Prop where
 obj : h.get? x = some (PySem.W.instObj C dx)
 ns : h.Ns1 dx mA
 ne : dx ≠ x
theorem lookIn_ns {h : Heap} {dx : Addr} {mA : Str -> Option Value} (n : h.Ns1 dx mA) : ∃ od,h.get? dx = some od /\ ∀ name,PySem.W.lookIn name od = some (mA name):=by
 obtain ⟨o,es,ep,ho,hd,hk,_,hm⟩:=n
 refine ⟨o,ho,λ name=>?_⟩
 have e:=hm name
 unfold nsFind findBy at e
 rw [← Array.find?_toList] at e
 unfold PySem.W.lookIn
 rw [hd]
 dsimp only
 split
 ·rename_i y q
  rw [q] at e
  exact congrArg some e
 ·rename_i q
  rw [q] at e
  have a : es.toList.any (·.refKey) = false:=by
   rw [List.any_eq_false]
   intro y hy
   obtain ⟨z,t,hkey⟩:=hk y (Array.mem_toList_iff.mp hy)
   simp [DictEntry.refKey,hkey]
  have a' : ¬ es.toList.any (·.refKey) = true:=by rw [a]; exact Bool.false_ne_true
  rw [if_neg a']
  exact congrArg some e
theorem ObjM.look {h : Heap} {x dx C : Addr} {mA : Str -> Option Value} (I : ObjM h x dx C mA) : ∃ od,PySem.W.InstAt h x (PySem.W.instObj C dx) C (some od) /\ ∀ name,PySem.W.lookIn name od = some (mA name) :=
 let ⟨od,ho,hl⟩:=lookIn_ns I.ns
 ⟨od,⟨I.obj,rfl,rfl,ho⟩,hl⟩
section
variable {prog : Program} {w : World} {A : Around} {E : Value -> Shared -> Prop} {s : Shared} {K : PySem.W.Frag} {x dx C f : Addr} {mA : Str -> Option Value} {name : Str} {v : Value}
theorem get_map {expr : Bool} {Q : Value -> Shared -> Prop} (X : K.In s.heap) (I : ObjM s.heap x dx C mA) (hg : PySem.W.plainGet K C name = true) (hh : PySem.W.hasDictIn K C = true)
 (ha : PySem.W.findIn K (.ref C) name = some none) (hv : mA name = some v) (hv' : PySem.W.handedIn v = true) (h : Q v { s with toks:=s.toks + 1 }) :
 wpAny (model prog w) A (getAttr (.ref x) name expr) Q E s:=by
 obtain ⟨od,J,hl⟩:=I.look
 exact PySem.W.get_value X J (PySem.W.plainGet_of hg).1 (PySem.W.findObj_own hh ha rfl (by rw [hl,hv])) hv' h
theorem get_meth {pl : Sem Bool} {Q : Value × List Value -> Shared -> Prop} (X : K.In s.heap) (I : ObjM s.heap x dx C mA) (hg : PySem.W.plainGet K C name = true)
 (hf : PySem.W.findIn K (.ref C) name = some (some (.ref f))) (ht : PySem.W.isFn K (.ref f) = true) (hv : mA name = none) (h : Q (.ref f,[.ref x]) s) :
 wpAny (model prog w) A (getMethod (.ref x) name pl) Q E s:=by
 obtain ⟨od,J,hl⟩:=I.look
 exact PySem.W.method_fn X J (PySem.W.plainGet_of hg).1 (PySem.W.plainGet_of hg).2 hf (beq_iff_eq.mp ht) (by show (PySem.W.lookIn name od).map (·.isSome) = some false; rw [hl,hv]; rfl) h
theorem set_map {ns : List Str} {Q : Unit -> Shared -> Prop} (X : K.In s.heap) (I : ObjM s.heap x dx C mA)
 (hs : PySem.W.findIn K (.ref C) "__setattr__" = some (some (.builtin "object.__setattr__"))) (hp : PySem.W.plainOver K C = true) (ht : PySem.W.takerIn K C name = some none) (hh : PySem.W.hasDictIn K C = true)
 (hw : PySem.Within mA ns) (hsz : ns.length <= sizeLine)
 (h : ∀ h',ObjM h' x dx C (λ y=>if y = name then some v else mA y) -> Heap.SameBut dx s.heap h' -> Q () { s with heap:=h',toks:=s.toks + 2 }) :
 wpAny (model prog w) A (setAttr (.ref x) name v) Q E s:=by
 obtain ⟨od,J,hl⟩:=I.look
 refine PySem.W.set_plain X J hs (PySem.W.osa_open (s:={ s with toks:=s.toks + 1 }) (r:=none) X J hp ht λ b=>?_)
 obtain ⟨cd,hc,hd'⟩:=PySem.W.any_some hh
 have hx : s.heap.get? x = some ⟨.ref C,some dx,.plain,#[]⟩:=I.obj
 refine wpAny_bind (wpAny_pure (wpAny_bind (wpAny_bind (wpAny_loadPart hx (wpAny_bind (PySem.W.Looks.here (s:={ s with toks:=s.toks + 1 }) (PySem.W.looks_clsIn X hc) ?_))))))
 rw [hd']
 refine wpAny_pure (a:=some dx) (wpAny_bind (wpAny_pure (wpAny_bind ?_)))
 refine wpAny_nsSet1 (s:={ s with toks:=s.toks + 1 }) I.ns λ h' hn2 hs2=>?_
 obtain ⟨oD,esD,epD,hoD,hdD,hcD⟩:=hn2.count (PySem.Within.cons name v hw)
 refine wpAny_bind (wpAny_lookBehind hoD (by rw [hdD]; exact pastItsLine_dict (Nat.le_trans hcD (by rw [List.length_cons]; omega))) ?_)
 exact wpAny_pure (h _ ⟨(hs2.2 _ (Ne.symm I.ne)).trans I.obj,hn2,I.ne⟩ hs2)
theorem make_map {R : Result -> Shared -> Prop} {vs : List Value} {kw : List (Str × Value)} (X : K.In s.heap) (hm : PySem.W.makesIn K C = true)
 (hi : PySem.W.findIn K (.ref C) "__init__" = some (some (.ref f))) (hf : PySem.W.typeIn K (.ref f) = some (.type "function"))
 (h : codeAny (model prog w) (A.under (.builtin "type.__call__" ⟨.ref C :: vs,kw⟩)) (.call (.ref f) ⟨.ref (s.heap.objs.size + 1) :: vs,kw⟩) (PySem.W.InitBack (s.heap.objs.size + 1) R)
  { s with heap:=(s.heap.push PySem.W.emptyDict).push (PySem.W.instObj C s.heap.objs.size) }) :
 codeAny (model prog w) A (.call (.ref C) ⟨vs,kw⟩) R s:=by
 obtain ⟨hh,g,d,t,os⟩:=s
 exact PySem.W.make_core (PySem.W.makes_of X hm) (PySem.W.looks_findIn X hi) (λ self=>PySem.W.bind_fn X self hf) (.inl rfl) h
end
def putF (f : Str) (v : V) : List (Str × V) -> List (Str × V)
 | []=>[(f,v)]
 | (g,x) :: r=>if g = f then (g,v) :: r else (g,x) :: putF f v r
theorem lookup_putF (f g : Str) (v : V) : ∀ fs : List (Str × V),(putF f v fs).lookup g = if g = f then some v else fs.lookup g
 | []=>by
   show List.lookup g [(f,v)] = _
   by_cases h : g = f
   ·have hb : (g == f) = true:=beq_iff_eq.mpr h
    simp only [List.lookup,hb,if_pos h]
   ·have hb : (g == f) = false:=beq_eq_false_iff_ne.mpr h
    simp only [List.lookup,hb,if_neg h]
 | (k,x) :: r=>by
   have ih:=lookup_putF f g v r
   rw [show putF f v ((k,x) :: r) = (if k = f then (k,v) :: r else (k,x) :: putF f v r) from rfl]
   by_cases hk : k = f
   ·rw [if_pos hk]
    by_cases h : g = k
    ·have hb : (g == k) = true:=beq_iff_eq.mpr h
     simp only [List.lookup,hb,if_pos (h.trans hk)]
    ·have hb : (g == k) = false:=beq_eq_false_iff_ne.mpr h
     simp only [List.lookup,hb,if_neg (λ e : g = f=>h (e.trans hk.symm))]
   ·rw [if_neg hk]
    by_cases h : g = k
    ·have hb : (g == k) = true:=beq_iff_eq.mpr h
     simp only [List.lookup,hb,if_neg (λ e : g = f=>hk (h.symm.trans e))]
    ·have hb : (g == k) = false:=beq_eq_false_iff_ne.mpr h
     simp only [List.lookup,hb]
     exact ih
theorem keys_putF (f : Str) (v : V) : ∀ fs : List (Str × V),f ∈ (putF f v fs).map (·.1) /\ ∀ g,g ∈ fs.map (·.1) -> g ∈ (putF f v fs).map (·.1)
 | []=>⟨by simp [putF],λ g h=>by simp at h⟩
 | (k,x) :: r=>by
   obtain ⟨i1,i2⟩:=keys_putF f v r
   rw [show putF f v ((k,x) :: r) = (if k = f then (k,v) :: r else (k,x) :: putF f v r) from rfl]
   by_cases hk : k = f
   ·rw [if_pos hk]
    subst hk
    exact ⟨by simp,λ g h=>by simpa using h⟩
   ·rw [if_neg hk]
    refine ⟨?_,λ g h=>?_⟩
    ·rw [List.map_cons]
     exact List.mem_cons_of_mem _ i1
    ·rw [List.map_cons] at h ⊢
     rcases List.mem_cons.mp h with e | e
     ·exact List.mem_cons.mpr (.inl e)
     ·exact List.mem_cons_of_mem _ (i2 g e)
theorem length_putF (f : Str) (v : V) : ∀ fs : List (Str × V),(putF f v fs).length <= fs.length + 1
 | []=>by simp [putF]
 | (k,x) :: r=>by
   have ih:=length_putF f v r
   rw [show putF f v ((k,x) :: r) = (if k = f then (k,v) :: r else (k,x) :: putF f v r) from rfl]
   by_cases hk : k = f
   ·rw [if_pos hk,List.length_cons,List.length_cons]; omega
   ·rw [if_neg hk,List.length_cons,List.length_cons]; omega
theorem RelO.some_of {v : V} {o : Option Value} (r : RelO (some v) o) : ∃ u,o = some u /\ RelV v u:=by
 cases o with
 | none=>exact (show False from r).elim
 | some u=>exact ⟨u,rfl,r⟩
theorem RelO.none_of {o : Option Value} (r : RelO none o) : o = none:=by
 cases o with
 | none=>rfl
 | some u=>exact (show False from r).elim
theorem handed_of {v : V} {u : Value} (r : RelV v u) : PySem.W.handedIn u = true:=by
 cases v with
 | non=>cases (show u = Value.none from r); rfl
 | bl b=>cases (show u = Value.bool b from r); rfl
 | int i=>obtain ⟨t,e⟩:=(show ∃ t,u = Value.int i t from r); cases e; rfl
 | str x=>obtain ⟨t,e⟩:=(show ∃ t,u = Value.str x t from r); cases e; rfl
 | byt b=>obtain ⟨t,e⟩:=(show ∃ t,u = Value.bytes b t from r); cases e; rfl
 | flt b=>obtain ⟨t,e⟩:=(show ∃ t,u = Value.float b t from r); cases e; rfl
 | ref a=>cases (show u = Value.ref a from r); rfl
 | ty n=>cases (show u = Value.type n from r); rfl
section
variable {P : Program} {w : World} {H H' : Hp} {h h' : Heap} {a C dx : Addr} {fs fs' : List (Str × V)}
theorem ins_get (hok : HOk P w H h) (e : H a = some (.ins C dx fs)) : ∃ mA,ObjM h a dx C mA /\ (∀ f,RelO (fs.lookup f) (mA f)) /\ PySem.Within mA (fs.map (·.1)) /\ fs.length <= 1000 /\ H dx = some (.own a):=by
 obtain ⟨d,z,ne,ob,mA,n,r,q⟩:=(show ObjOk P w H h a (.ins C dx fs) from hok a _ e)
 exact ⟨mA,⟨ob,n,ne⟩,r,q,z,d⟩
end
structure Cls (K : PySem.W.Frag) (C : Addr) : Prop where
 pg : PySem.W.plainGet K C Str.empty = true
 hd : PySem.W.hasDictIn K C = true
 po : PySem.W.plainOver K C = true
 sa : PySem.W.findIn K (.ref C) "__setattr__" = some (some (.builtin "object.__setattr__"))
theorem Cls.get {K : PySem.W.Frag} {C : Addr} (c : Cls K C) (f : Str) : PySem.W.plainGet K C f = true:=c.pg
def NoAttr (K : PySem.W.Frag) (C : Addr) (f : Str) : Prop:=PySem.W.findIn K (.ref C) f = some none
theorem NoAttr.taker {K : PySem.W.Frag} {C : Addr} {f : Str} (n : NoAttr K C f) : PySem.W.takerIn K C f = some none:=by
 unfold PySem.W.takerIn
 rw [show PySem.W.findIn K (.ref C) f = some none from n]
 rfl
structure Con (K : PySem.W.Frag) (C : Addr) (f : Str) (v : V) (u : Value) : Prop where
 at_ : PySem.W.findIn K (.ref C) f = some (some u)
 rel : RelV v u
 get : PySem.W.specialIn K u "__get__" = some none
 cp : PySem.W.copiedNames.contains f = false
structure Meth (K : PySem.W.Frag) (C : Addr) (m : Str) (f : Addr) : Prop where
 at_ : PySem.W.findIn K (.ref C) m = some (some (.ref f))
 fn : PySem.W.isFn K (.ref f) = true
 kp : PySem.W.keepIn K (.ref f) = true
section
variable {X : Cx} {pins : List (Addr × Obj)} {σ : St} {H : Hp} {s : Shared} {a C dx : Addr} {fs : List (Str × V)} {f : Str} {v : V} {A : Around} {E : Value -> Shared -> Prop}
theorem getattr_ok {b : Bool} {Q : Value -> Shared -> Prop} (I : Inv X pins σ H s) (e : H a = some (.ins C dx fs)) (c : Cls X.K C) (n : NoAttr X.K C f) (l : fs.lookup f = some v)
 (h : ∀ u s',Inv X pins σ H s' -> RelV v u -> Q u s') : wpAny (model X.prog X.w) A (getAttr (.ref a) f b) Q E s:=by
 obtain ⟨mA,O,r,_,_,_⟩:=ins_get I.hok e
 obtain ⟨u,hu,ru⟩:=RelO.some_of (v:=v) (o:=mA f) (by rw [← l]; exact r f)
 exact get_map I.kIn O (c.get f) c.hd n hu (handed_of ru) (h u _ (I.tok _) ru)
theorem getmeth_ok {m : Str} {g : Addr} {pl : Sem Bool} {Q : Value × List Value -> Shared -> Prop} (I : Inv X pins σ H s) (e : H a = some (.ins C dx fs)) (c : Cls X.K C) (k : Meth X.K C m g) (l : fs.lookup m = none)
 (h : Q (.ref g,[.ref a]) s) : wpAny (model X.prog X.w) A (getMethod (.ref a) m pl) Q E s:=by
 obtain ⟨mA,O,r,_,_,_⟩:=ins_get I.hok e
 have hn : mA m = none:=RelO.none_of (by rw [← l]; exact r m)
 exact get_meth I.kIn O (c.get m) k.at_ k.fn hn h
theorem setattr_ok {y : V} {u : Value} {Q : Unit -> Shared -> Prop} (I : Inv X pins σ H s) (e : H a = some (.ins C dx fs)) (c : Cls X.K C) (n : NoAttr X.K C f) (hl : fs.length < 1000) (ry : RelV y u)
 (h : ∀ s',Inv X pins σ (upd H a (.ins C dx (putF f y fs))) s' -> Q () s') : wpAny (model X.prog X.w) A (setAttr (.ref a) f u) Q E s:=by
 obtain ⟨mA,O,r,wi,_,ho⟩:=ins_get I.hok e
 have hz : (fs.map (·.1)).length <= sizeLine:=by rw [List.length_map,sizeLine_eq]; omega
 refine set_map I.kIn O c.sa c.po n.taker c.hd wi hz λ h' O' sb=>h _ ?_
 have hd : ∃ o,h'.get? dx = some o:=let ⟨o,_,_,e',_⟩:=O'.ns; ⟨o,e'⟩
 refine I.write (x:=a) (e:=dx) (by rw [e]; exact True.intro) (.inr ho) (λ b q hb z=>(sb.2 b hb).trans z) hd ?_
 refine ⟨by rw [upd_ne O.ne]; exact ho,?_,O.ne,O'.obj,_,O'.ns,λ g=>?_,λ g hg=>?_⟩
 ·have:=length_putF f y fs; omega
 ·show RelO ((putF f y fs).lookup g) (if g = f then some u else mA g)
  rw [lookup_putF]
  by_cases q : g = f
  ·rw [if_pos q,if_pos q]; exact ry
  ·rw [if_neg q,if_neg q]; exact r g
 ·by_cases q : g = f
  ·rw [q]; exact (keys_putF f y fs).1
  ·refine (keys_putF f y fs).2 g (wi g λ z=>hg ?_)
   show (if g = f then some u else mA g) = none
   rw [if_neg q]; exact z
theorem Inv.made (I : Inv X pins σ H s) : Inv X pins σ (upd (upd H s.heap.objs.size (.own (s.heap.objs.size + 1))) (s.heap.objs.size + 1) (.ins C s.heap.objs.size []))
 { s with heap:=(s.heap.push PySem.W.emptyDict).push (PySem.W.instObj C s.heap.objs.size) }:=by
 have e1 : (s.heap.push PySem.W.emptyDict).get? s.heap.objs.size = some PySem.W.emptyDict:=Heap.get?_push_size s.heap rfl
 have e2 : ((s.heap.push PySem.W.emptyDict).push (PySem.W.instObj C s.heap.objs.size)).get? (s.heap.objs.size + 1) = some (PySem.W.instObj C s.heap.objs.size):=by
  have:=Heap.get?_push_size (s.heap.push PySem.W.emptyDict) (o:=PySem.W.instObj C s.heap.objs.size) rfl
  rwa [Heap.size_push] at this
 have e3 : (s.heap.push PySem.W.emptyDict).Ns s.heap.objs.size (λ _=>none):=⟨PySem.W.emptyDict,#[],_,e1,rfl,(λ e he=>absurd he (by simp)),λ _=>rfl⟩
 have I1:=I.laid (a:=s.heap.objs.size) (o:=.own (s.heap.objs.size + 1)) (h':=s.heap.push PySem.W.emptyDict) (t':=s.toks) (λ b u q=>Heap.get?_push_of_some _ q) (Nat.le_refl _) ⟨_,e1⟩
 refine I1.laid (a:=s.heap.objs.size + 1) (o:=.ins C s.heap.objs.size []) (t':=s.toks) (λ b u q=>Heap.get?_push_of_some _ q) (Nat.le_of_eq (Heap.size_push _ _)) ?_
 have ne : s.heap.objs.size ≠ s.heap.objs.size + 1:=Nat.ne_of_lt (Nat.lt_succ_self _)
 refine ⟨by rw [upd_ne ne,upd_same],Nat.zero_le _,ne,e2,λ _=>none,(Heap.Ns1.of_empty e3).at λ o q=>Heap.get?_push_of_some _ q,λ _=>True.intro,λ y hy=>absurd rfl hy⟩
theorem attr_of {prog : Program} {w : World} {env : Env} {e : Expr} {f : Str} {pos : Pos} {s : Shared} {Q : Value -> Shared -> Prop} (hb : attributeBase e f env (eval e env) = eval e env)
 (h : wpAny (model prog w) A (eval e env) (λ o s₁=>wpAny (model prog w) A (getAttr o f true) Q E s₁) E s) : wpAny (model prog w) A (eval (.Attribute e f pos) env) Q E s :=
 Attribute_any_ h (by rw [arm_eval_Attribute,hb])
end
def tFld (K : PySem.W.Frag) (ta : TE) (f : Str) : TE:=λ σ H Q=>ta σ H λ x H1=>∃ a C dx fs v,x = .ref a /\ H1 a = some (.ins C dx fs) /\ Cls K C /\ NoAttr K C f /\ fs.lookup f = some v /\ Q v H1
def sFld (K : PySem.W.Frag) (ta tv : TE) (f : Str) : TS:=λ D σ H=>tv σ H λ y H1=>ta σ H1 λ x H2=>∃ a C dx fs,x = .ref a /\ H2 a = some (.ins C dx fs) /\ Cls K C /\ NoAttr K C f /\ fs.length < 1000 /\
 D.nx σ (upd H2 a (.ins C dx (putF f y fs)))
def InOp (X : Cx) (op : Operator) (rd : V -> V -> Hp -> VK -> Prop) : Prop :=
 ∀ (pins : List (Addr × Obj)) (s : Shared) (σ : St) (H : Hp) (x y : V) (u v : Value) (Q : VK),Inv X pins σ H s -> RelV x u -> RelV y v -> rd x y H Q -> wpAny (model X.prog X.w) X.A (inplaceOp op u v) (EP X pins σ Q) X.xe s
def sFldAug (K : PySem.W.Frag) (ta tv : TE) (rd : V -> V -> Hp -> VK -> Prop) (f : Str) : TS:=λ D σ H=>ta σ H λ x H1=>∃ a C dx fs v,x = .ref a /\ H1 a = some (.ins C dx fs) /\ Cls K C /\ NoAttr K C f /\ fs.lookup f = some v /\
 tv σ H1 λ y H2=>rd v y H2 λ z H3=>∃ dx' fs',H3 a = some (.ins C dx' fs') /\ fs'.length < 1000 /\ D.nx σ (upd H3 a (.ins C dx' (putF f z fs')))
section
variable {X : Cx} {o e value : Expr} {f : Str} {pos pos' tpos : Pos} {ta tv : TE}
theorem pe_fld (he : PE X e ta) (hb : attributeBase e f X.env (eval e X.env) = eval e X.env) : PE X (.Attribute e f pos) (tFld X.K ta f):=by
 intro pins s σ H Q I h
 refine attr_of hb (thn (he pins s σ H _ I h) λ u s1 ⟨x,H1,I1,rx,a,C,dx,fs,v,ex,ea,c,n,l,q⟩=>?_)
 subst ex
 obtain rfl : u = Value.ref a:=rx
 exact getattr_ok I1 ea c n l λ u' s2 I2 ru=>⟨v,H1,I2,ru,q⟩
theorem ps_fld (ha : PE X o ta) (hv : PE X value tv) (hs : swapsWith value (some (.Attribute o f pos')) pos.line X.env = pure false) : PS X (.Assign [.Attribute o f pos'] value pos) (sFld X.K ta tv f):=by
 intro pins s σ H D I h
 refine plainObj_wpAny_Assign_Attribute (thn (hv pins s σ H _ I h) λ u s1 ⟨y,H1,I1,ry,q⟩=>thn (ha pins s1 σ H1 _ I1 q) λ ov s2 ⟨x,H2,I2,rx,a,C,dx,fs,ex,ea,c,n,l,q2⟩=>?_) hs
 subst ex
 obtain rfl : ov = Value.ref a:=rx
 exact setattr_ok I2 ea c n l ry λ s3 I3=>⟨σ,_,I3,q2⟩
theorem ps_fldaug {op : Operator} {rd : V -> V -> Hp -> VK -> Prop} (ha : PE X o ta) (hv : PE X value tv) (hop : InOp X op rd) : PS X (.AugAssign (.Attribute o f tpos) op value pos) (sFldAug X.K ta tv rd f):=by
 intro pins s σ H D I h
 refine wpAny_AugAssign_AttributeAny (thn (ha pins s σ H _ I h) λ ov s1 ⟨x,H1,I1,rx,a,C,dx,fs,v,ex,ea,c,n,l,q⟩=>?_)
 subst ex
 obtain rfl : ov = Value.ref a:=rx
 refine getattr_ok I1 ea c n l λ u s2 I2 ru=>thn (hv pins s2 σ H1 _ I2 q) λ w3 s3 ⟨y,H2,I3,ry,q3⟩=>thn (hop pins s3 σ H2 v y u w3 _ I3 ru ry q3) λ w4 s4 ⟨z,H3,I4,rz,dx',fs',ea',l',q4⟩=>?_
 exact setattr_ok I4 ea' c n l' rz λ s5 I5=>⟨σ,_,I5,q4⟩
end
section
variable {X : Cx} {pins : List (Addr × Obj)} {σ : St} {H : Hp} {s : Shared} {A : Around} {E : Value -> Shared -> Prop} {Q : Value -> Shared -> Prop} {c : Value} {b : Bool}
inductive TyOf (K : PySem.W.Frag) (H : Hp) : V -> Value -> Prop where
 | non : TyOf K H .non (.type "NoneType")
 | bl (x : Bool) : TyOf K H (.bl x) (.type "bool")
 | int (i : Int) : TyOf K H (.int i) (.type "int")
 | str (x : Str) : TyOf K H (.str x) (.type "str")
 | flt (x : UInt64) : TyOf K H (.flt x) (.type "float")
 | lst {a : Addr} {xs : List V} (e : H a = some (.lst xs)) : TyOf K H (.ref a) (.type "list")
 | frz {a : Addr} {o : Obj} {xs : List V} (e : H a = some (.frz o (.lst xs))) : TyOf K H (.ref a) (.type "list")
 | tup {a : Addr} {xs : List V} (e : H a = some (.tup xs)) : TyOf K H (.ref a) (.type "tuple")
 | dK {a : Addr} {kvs : List (Key × V)} (e : H a = some (.dK kvs)) : TyOf K H (.ref a) (.type "dict")
 | dT {a : Addr} {kvs : List (List Key × V)} (e : H a = some (.dT kvs)) : TyOf K H (.ref a) (.type "dict")
 | ins {a C dx : Addr} {fs : List (Str × V)} (e : H a = some (.ins C dx fs)) (cl : Cls K C) (ha : PySem.W.findIn K (.ref C) "__class__" = some (some (.builtin "object.__class__")))
  (hn : PySem.W.specialIn K (.builtin "object.__class__") "__get__" = some (some (.builtin "getset_descriptor.__get__"))) (htk : PySem.W.takesIn K (.builtin "object.__class__") = some true)
  (hm : PySem.W.mroIn K C (.type "object") = some true) : TyOf K H (.ref a) (.ref C)
theorem isinst_ok {x : V} {u t : Value} (I : Inv X pins σ H s) (rx : RelV x u) (ty : TyOf X.K H x t) (e : PySem.W.kitOne X.K t c = some b) (h : ∀ tk,Q (.bool b) { s with toks:=tk }) :
 wpAny (model X.prog X.w) A (call (.builtin "isinstance") [u,c]) Q E s:=by
 cases ty with
 | non=>cases (show u = Value.none from rx); exact PySem.W.kia_one PySem.W.kitx_none I.kIn True.intro e (λ z=>nomatch z) h
 | bl y=>cases (show u = Value.bool y from rx); exact PySem.W.kia_one PySem.W.kitx_bool I.kIn True.intro e (λ z=>nomatch z) h
 | int i=>obtain ⟨t,q⟩:=(show ∃ t,u = Value.int i t from rx); cases q; exact PySem.W.kia_one PySem.W.kitx_int I.kIn True.intro e (λ z=>nomatch z) h
 | str y=>obtain ⟨t,q⟩:=(show ∃ t,u = Value.str y t from rx); cases q; exact PySem.W.kia_one PySem.W.kitx_str I.kIn True.intro e (λ z=>nomatch z) h
 | flt y=>obtain ⟨t,q⟩:=(show ∃ t,u = Value.float y t from rx); cases q; exact PySem.W.kia_one PySem.W.kitx_float I.kIn True.intro e (λ z=>nomatch z) h
 | @lst a xs ea =>
   cases (show u = Value.ref a from rx)
   obtain ⟨_,_,n,_,h1⟩:=(show ObjOk X.prog X.w H s.heap a (.lst xs) from I.hok a _ ea)
   exact PySem.W.kia_one PySem.W.kitx_list I.kIn ⟨_,h1,rfl⟩ e (λ z=>nomatch z) h
 | @frz a ob xs ea =>
   cases (show u = Value.ref a from rx)
   obtain ⟨_,_,_,n,_,h1⟩:=(show ObjOk X.prog X.w H s.heap a (.frz ob (.lst xs)) from I.hok a _ ea)
   exact PySem.W.kia_one PySem.W.kitx_list I.kIn ⟨_,h1,rfl⟩ e (λ z=>nomatch z) h
 | @tup a xs ea =>
   cases (show u = Value.ref a from rx)
   obtain ⟨_,_,_,p⟩:=(show ObjOk X.prog X.w H s.heap a (.tup xs) from I.hok a _ ea)
   obtain ⟨o,h1,h2,_⟩:=p
   exact PySem.W.kia_one PySem.W.kitx_tuple I.kIn ⟨o,h1,h2⟩ e (λ z=>nomatch z) h
 | @dK a kvs ea =>
   cases (show u = Value.ref a from rx)
   obtain ⟨_,_,vs,_,p⟩:=(show ObjOk X.prog X.w H s.heap a (.dK kvs) from I.hok a _ ea)
   obtain ⟨o,es,ep,h1,h2,_⟩:=p
   exact PySem.W.kia_one PySem.W.kitx_dict I.kIn ⟨o,h1,h2.1⟩ e (λ z=>nomatch z) h
 | @dT a kvs ea =>
   cases (show u = Value.ref a from rx)
   obtain ⟨_,_,xs,_,o,es,ep,h1,h2,_⟩:=(show ObjOk X.prog X.w H s.heap a (.dT kvs) from I.hok a _ ea)
   exact PySem.W.kia_one PySem.W.kitx_dict I.kIn ⟨o,h1,h2.1⟩ e (λ z=>nomatch z) h
 | @ins a C dx fs ea cl ha hn htk hm =>
   cases (show u = Value.ref a from rx)
   obtain ⟨mA,O,_⟩:=ins_get I.hok ea
   obtain ⟨od,J,_⟩:=O.look
   exact PySem.W.kia_one (PySem.W.kitx_own (cl.get _) cl.hd ha hn htk hm) I.kIn J e (λ z=>nomatch z) h
end
end L2
namespace L2
open PySem PySem.Spec PyProof.Rows
structure Room (k : Nat) (A : Around) : Prop where
 hd : A.handled = none
 dp : A.depth + 3 * k + 5 < recursionLimit
 un : A.units + 16 * k + 200 < cLine
theorem Room.mono {j k : Nat} {A : Around} (r : Room k A) (h : j <= k) : Room j A:=⟨r.hd,by have:=r.dp; omega,by have:=r.un; omega⟩
theorem Room.deeper {k : Nat} {A : Around} (r : Room (k + 1) A) (env : Env) : Room k (A.deeper env) :=
 ⟨r.hd,by have:=r.dp; show A.depth + 1 + 3 * k + 5 < _; omega,by have:=r.un; show A.units + 3 + 16 * k + 200 < _; omega⟩
theorem Room.in1 {k : Nat} {A : Around} (r : Room (k + 1) A) : Room k A.in1 :=
 ⟨r.hd,by have:=r.dp; show A.depth + 3 * k + 5 < _; omega,by have:=r.un; show A.units + 1 + 16 * k + 200 < _; omega⟩
theorem make_depth {A : Around} {C : Addr} {us : List Value} {kw : List (Str × Value)} : (A.under (.builtin "type.__call__" ⟨.ref C :: us,kw⟩)).depth = A.depth + 1:=by
 first | rfl | simp [Around.under,Code.weight,Code.isCreation,Code.isGuard,Code.isCaller,Code.frames,Code.isFrame,guardIds]
theorem make_units {A : Around} {C : Addr} {us : List Value} {kw : List (Str × Value)} : (A.under (.builtin "type.__call__" ⟨.ref C :: us,kw⟩)).units = A.units + 1:=by
 first | rfl | simp [Around.under,Code.cUnits,Code.frames,Code.isFrame]
theorem Room.make {k : Nat} {A : Around} (r : Room (k + 1) A) (C : Addr) (us : List Value) (kw : List (Str × Value)) : Room k (A.under (.builtin "type.__call__" ⟨.ref C :: us,kw⟩)) :=
 ⟨r.hd,by have:=r.dp; rw [make_depth]; omega,by have:=r.un; rw [make_units]; omega⟩
theorem Room.depth {k : Nat} {A : Around} (r : Room k A) : A.depth < recursionLimit:=by have:=r.dp; omega
theorem Room.units {k : Nat} {A : Around} (r : Room k A) : A.units + 64 < cLine:=by have:=r.un; omega
theorem Room.units0 {k : Nat} {A : Around} (r : Room k A) : A.units < cLine:=by have:=r.un; omega
def tNil : TA:=λ _ H Q=>Q [] H
def tCons (ta : TE) (tr : TA) : TA:=λ σ H Q=>ta σ H λ x H1=>tr σ H1 λ xs H2=>Q (x :: xs) H2
section
variable {X : Cx} {e : Expr} {es : List Expr} {te : TE} {t : TA} {pos : Pos}
theorem pa_nil : PA X [] tNil:=λ _ _ _ _ H Q I h=>Calls.spliced_nil ⟨[],H,I,.nil,h⟩
theorem pa_cons (ha : PE X e te) (hr : PA X es t) (hs : starEach (e :: es) X.env = (false,eval e X.env) :: starEach es X.env:=by rfl) : PA X (e :: es) (tCons te t):=by
 intro pos pins s σ H Q I h
 rw [hs]
 show wpAny _ _ (spliced ((false,eval e X.env) :: backTo pos (starEach es X.env))) _ _ s
 refine Calls.spliced_cons (thn (ha pins s σ H _ I h) λ u s1 ⟨x,H1,I1,r1,q1⟩=>?_)
 exact thn (hr pos pins s1 σ H1 _ I1 q1) λ us s2 ⟨xs,H2,I2,r2,q2⟩=>⟨x :: xs,H2,I2,.cons r1 r2,q2⟩
def tTup (t : TA) : TE:=λ σ H Q=>t σ H λ xs H1=>xs.length <= sizeLine /\ ∀ p,H1 p = none -> Q (.ref p) (upd H1 p (.tup xs))
def tLst (t : TA) : TE:=λ σ H Q=>t σ H λ xs H1=>xs.length <= sizeLine /\ ∀ p,H1 p = none -> Q (.ref p) (upd H1 p (.lst xs))
theorem pe_tup {x1} (h : PA X es t) : PE X (.Tuple es x1 pos) (tTup t):=by
 intro pins s σ H Q I hq
 refine wpAny_Tuple_spliced (thn (h pos pins s σ H _ I hq) λ us s1 ⟨xs,H1,I1,r,z,q⟩=>⟨by rw [← r.length]; exact z,?_⟩)
 have hf : H1 s1.heap.objs.size = none:=I1.hok.fresh (Nat.le_refl _)
 refine ⟨.ref s1.heap.objs.size,upd H1 s1.heap.objs.size (.tup xs),I1.laid (t':=s1.toks) (λ b u e=>Heap.get?_push_of_some _ e) (Nat.le_refl _) ?_,rfl,q _ hf⟩
 exact ⟨z,us,r,⟨_,Heap.get?_push_size _ rfl,rfl,_,rfl⟩⟩
theorem pe_lst (h : PA X es t) : PE X (.List es pos) (tLst t):=by
 intro pins s σ H Q I hq
 refine wpAny_List_spliced (thn (h pos pins s σ H _ I hq) λ us s1 ⟨xs,H1,I1,r,z,q⟩=>⟨by rw [← r.length]; exact z,?_⟩)
 have hf : H1 s1.heap.objs.size = none:=I1.hok.fresh (Nat.le_refl _)
 refine ⟨.ref s1.heap.objs.size,upd H1 s1.heap.objs.size (.lst xs),I1.laid (t':=s1.toks) (λ b u e=>Heap.get?_push_of_some _ e) (Nat.le_refl _) ?_,rfl,q _ hf⟩
 exact ⟨z,us,0,r,Heap.get?_push_size _ rfl⟩
end
abbrev Sp:=List V -> Hp -> VK -> XK -> Prop
abbrev CXT:=List Env -> Hp -> Shared -> XK -> Value -> Shared -> Prop
structure Env0 (P : Program) (w : World) (K : PySem.W.Frag) (mg : Str -> Option Value) (base : Heap) (A : Around) (outer : List Env) (s : Shared) (H : Hp) : Prop where
 frames : A.frames = some outer
 mod : Mod K mg base
 bs : ∀ b o,base.get? b = some o -> s.heap.get? b = some o /\ H b = none
 bsz : base.objs.size <= s.heap.objs.size
 funs : s.heap.FunFrames base outer
 frf : ∀ b ∈ frs outer,H b = none
 hok : HOk P w H s.heap
 bare : AllBare s.gens
def CE (outer : List Env) (P : Program) (w : World) (H : Hp) (s : Shared) (Q : VK) (u : Value) (s' : Shared) : Prop :=
 ∃ v H',s'.os = s.os /\ AllBare s'.gens /\ Un (frs outer) [] H H' s.heap s'.heap /\ HOk P w H' s'.heap /\ RelV v u /\ Q v H'
def CR (CX : CXT) (outer : List Env) (P : Program) (w : World) (H : Hp) (s : Shared) (Q : VK) (E : XK) (r : Result) (s' : Shared) : Prop :=
 match r with
 | .ok (.ret u)=>CE outer P w H s Q u s'
 | .ok _=>False
 | .error e=>CX outer H s E e s'
structure FnOk (P : Program) (w : World) (K : PySem.W.Frag) (mg : Str -> Option Value) (base : Heap) (CX : CXT) (k : Nat) (f : Addr) (fd : FuncData) (ps : List Str) (sp : Sp) : Prop where
 len : ∀ vs H Q E,sp vs H Q E -> vs.length = ps.length
 run : ∀ (A : Around) (outer : List Env) (s : Shared) (H : Hp) (args : Args) (us : List Value) (vs : List V) (Q : VK) (E : XK),Room k A -> Env0 P w K mg base A outer s H -> BindsTo s fd args (ps.zip us) -> Vals vs us -> sp vs H Q E ->
  codeAny (model P w) A (.call (.ref f) args) (CR CX outer P w H s Q E) s
theorem FnOk.mono {P : Program} {w : World} {K : PySem.W.Frag} {mg : Str -> Option Value} {base : Heap} {CX : CXT} {j k : Nat} {f : Addr} {fd : FuncData} {ps : List Str} {sp : Sp} (F : FnOk P w K mg base CX j f fd ps sp) (h : j <= k) :
 FnOk P w K mg base CX k f fd ps sp:=⟨F.len,λ A outer s H args us vs Q E hr=>F.run A outer s H args us vs Q E (hr.mono h)⟩
theorem FnOk.imp {P : Program} {w : World} {K : PySem.W.Frag} {mg : Str -> Option Value} {base : Heap} {CX : CXT} {k : Nat} {f : Addr} {fd : FuncData} {ps : List Str} {sp sp' : Sp} (F : FnOk P w K mg base CX k f fd ps sp)
 (h : ∀ vs H Q E,sp' vs H Q E -> sp vs H Q E) : FnOk P w K mg base CX k f fd ps sp' :=
 ⟨λ vs H Q E q=>F.len vs H Q E (h _ _ _ _ q),λ A outer s H args us vs Q E hr he hb hv hs=>F.run A outer s H args us vs Q E hr he hb hv (h _ _ _ _ hs)⟩
theorem Env0.make {P : Program} {w : World} {K : PySem.W.Frag} {mg : Str -> Option Value} {base : Heap} {A : Around} {outer : List Env} {s : Shared} {H : Hp} (e : Env0 P w K mg base A outer s H) (C : Addr) (us : List Value) (kw : List (Str × Value)) :
 Env0 P w K mg base (A.under (.builtin "type.__call__" ⟨.ref C :: us,kw⟩)) outer s H:=⟨by first | exact e.frames | (simpa [Around.under,Code.envs,Code.isFrame,pushEnvs] using e.frames),e.mod,e.bs,e.bsz,e.funs,e.frf,e.hok,e.bare⟩
theorem Env0.in1 {P : Program} {w : World} {K : PySem.W.Frag} {mg : Str -> Option Value} {base : Heap} {A : Around} {outer : List Env} {s : Shared} {H : Hp} (e : Env0 P w K mg base A outer s H) :
 Env0 P w K mg base A.in1 outer s H:=⟨e.frames,e.mod,e.bs,e.bsz,e.funs,e.frf,e.hok,e.bare⟩
section
variable {X : Cx} {pins : List (Addr × Obj)} {σ : St} {H : Hp} {s s' : Shared}
theorem Inv.env0 (I : Inv X pins σ H s) : Env0 X.prog X.w X.K X.mg X.base X.A X.stack s H :=
 ⟨I.ok.frames,I.ok.mod,I.bs,Nat.le_trans I.ok.bsz I.sz,I.stack,I.stkFree,I.hok,I.bare⟩
theorem Inv.after {Q : VK} {u : Value} (I : Inv X pins σ H s) (h : CE X.stack X.prog X.w H s Q u s') : EP X pins σ Q u s':=by
 obtain ⟨v,H',os,bare,un,hok,r,q⟩:=h
 obtain ⟨hh,g,d,t,os'⟩:=s'
 obtain rfl : os' = s.os:=os
 exact ⟨v,H',I.call (h':=hh) (g':=g) (d':=d) (t':=t) (ch:=[]) un hok bare (λ b z=>absurd z (by simp)),r,q⟩
end
def tCall (sp : Sp) (dvs : List V) (E : XK) (t : TA) : TE:=λ σ H Q=>t σ H λ vs H1=>sp (vs ++ dvs) H1 Q E
def tMeth (C : Addr) (m : Str) (sp : Sp) (dvs : List V) (E : XK) (ta : TE) (t : TA) : TE:=λ σ H Q=>ta σ H λ x H1=>∃ a dx fs,x = .ref a /\ H1 a = some (.ins C dx fs) /\ fs.lookup m = none /\
 t σ H1 λ vs H2=>sp (x :: (vs ++ dvs)) H2 Q E
def tMake (C : Addr) (sp : Sp) (dvs : List V) (E : XK) (t : TA) : TE:=λ σ H Q=>t σ H λ vs H1=>∀ x dx,H1 x = none -> H1 dx = none -> dx ≠ x ->
 sp (.ref x :: (vs ++ dvs)) (upd (upd H1 dx (.own x)) x (.ins C dx [])) (λ v H2=>v = .non /\ Q (.ref x) H2) E
def Binds (K : PySem.W.Frag) (fd : FuncData) (ps : List Str) (ds : List Value) : Prop :=
 ∀ (s : Shared) (us : List Value),K.In s.heap -> (us ++ ds).length = ps.length -> BindsTo s fd ⟨us,[]⟩ (ps.zip (us ++ ds))
theorem Binds.all {K : PySem.W.Frag} {fd : FuncData} {ps : List Str} (h : ∀ us : List Value,us.length = ps.length -> bindArgs fd ⟨us,[]⟩ = pure (ps.zip us)) : Binds K fd ps []:=λ s us _ hl=>by
 rw [List.append_nil] at hl ⊢
 exact .of_eq (h us hl)
def Passes (CX : CXT) (X : Cx) (E : XK) : Prop:=∀ (pins : List (Addr × Obj)) (σ : St) (H : Hp) (s : Shared) (e : Value) (s' : Shared),Inv X pins σ H s -> CX X.stack H s E e s' -> X.xe e s'
section
variable {X : Cx} {CX : CXT} {k : Nat} {f C : Addr} {fd : FuncData} {ps : List Str} {sp : Sp} {dvs : List V} {ds : List Value} {E : XK} {x m : Str} {p pos apos : Pos} {e o : Expr} {es : List Expr} {ta : TE} {t : TA}
theorem run_fn {pins : List (Addr × Obj)} {σ : St} {H : Hp} {s : Shared} {Q : VK} {us : List Value} {vs : List V} (F : FnOk X.prog X.w X.K X.mg X.base CX k f fd ps sp) (hr : Room k X.A) (hb : Binds X.K fd ps ds) (hd : Vals dvs ds) (hx : Passes CX X E)
 (I : Inv X pins σ H s) (r : Vals vs us) (h : sp (vs ++ dvs) H Q E) : wpAny (model X.prog X.w) X.A (call (.ref f) us) (EP X pins σ Q) X.xe s:=by
 have r2 : Vals (vs ++ dvs) (us ++ ds):=r.append hd
 have hl : (us ++ ds).length = ps.length:=by rw [← r2.length]; exact F.len _ _ _ _ h
 refine wpAny_call (codeAny_mono (F.run X.A X.stack s H ⟨us,[]⟩ (us ++ ds) (vs ++ dvs) Q E hr I.env0 (hb s us I.kIn hl) r2 h) λ r s' hq=>?_)
 cases r with
 | error e=>exact hx pins σ H s e s' I hq
 | ok fl =>
   cases fl with
   | ret u=>exact I.after hq
   | next=>exact False.elim hq
   | brk=>exact False.elim hq
   | cont=>exact False.elim hq
theorem pe_call (F : FnOk X.prog X.w X.K X.mg X.base CX k f fd ps sp) (hr : Room k X.A) (hg : Gl X x) (hm : X.mg x = some (.ref f)) (hk : PySem.W.keepIn X.K (.ref f) = true) (hb : Binds X.K fd ps ds) (hd : Vals dvs ds) (hx : Passes CX X E)
 (ha : PA X (e :: es) t) (hdb : (x == ("__debug__" : Str)) = false:=by decide) (he : starEach (e :: es) X.env = (false,eval e X.env) :: starEach es X.env:=by rfl) (hpl : (backTo pos (starEach es X.env)).any (·.1) = false:=by rfl) :
 PE X (.Call (.Name x p) (e :: es) [] pos) (tCall sp dvs E t):=by
 intro pins s σ H Q I h
 refine wpAny_Call_Name_kw (ld_glob I hg hm ?_ hdb)
 refine PySem.W.callWith_K (h₀:=X.base) I.ok.mod.kin hk (thn (ha pos pins s σ H _ I h) λ us s1 ⟨vs,H1,I1,r,q⟩=>⟨I1.kIn,?_⟩) he hpl
 exact run_fn F hr hb hd hx I1 r q
theorem pe_meth {pl : Sem Bool} (he : PE X o ta) (c : Cls X.K C) (hm : Meth X.K C m f) (F : FnOk X.prog X.w X.K X.mg X.base CX k f fd ps sp) (hr : Room k X.A) (hb : Binds X.K fd ps ds) (hd : Vals dvs ds) (hx : Passes CX X E) (ha : PA X (e :: es) t)
 (hst : starEach (e :: es) X.env = (false,eval e X.env) :: starEach es X.env:=by rfl) (hpl : (backTo pos (starEach es X.env)).any (·.1) = false:=by rfl)
 (ht : eval (.Call (.Attribute o m apos) (e :: es) [] pos) X.env = (do
  let ov ← eval o X.env
  standAt apos.atName
  let (f,first) ← holding [ov] (getMethod ov m pl)
  callWith pos f first (backTo pos (starEach (e :: es) X.env)) (backToKw pos (keywordEach [] X.env))):=by rfl) :
 PE X (.Call (.Attribute o m apos) (e :: es) [] pos) (tMeth C m sp dvs E ta t):=by
 intro pins s σ H Q I h
 refine PySem.W.methodCall_KW (pl:=pl) (thn (he pins s σ H _ I h) λ u s1 ⟨x,H1,I1,rx,a,dx,fs,ex,ea,l,q⟩=>?_) ht
 subst ex
 obtain rfl : u = Value.ref a:=rx
 refine getmeth_ok I1 ea c hm l ?_
 refine PySem.W.callWith_K (first:=[.ref a]) (h₀:=X.base) I.ok.mod.kin hm.kp (thn (ha pos pins s1 σ H1 _ I1 q) λ us s2 ⟨vs,H2,I2,r,q2⟩=>⟨I2.kIn,?_⟩) hst hpl
 exact run_fn (us:=.ref a :: us) (vs:=.ref a :: vs) F hr hb hd hx I2 (.cons rfl r) q2
theorem pe_meth0 {pl : Sem Bool} (he : PE X o ta) (c : Cls X.K C) (hm : Meth X.K C m f) (F : FnOk X.prog X.w X.K X.mg X.base CX k f fd ps sp) (hr : Room k X.A) (hb : Binds X.K fd ps ds) (hd : Vals dvs ds) (hx : Passes CX X E)
 (ht : eval (.Call (.Attribute o m apos) [] [] pos) X.env = (do
  let ov ← eval o X.env
  standAt apos.atName
  let (f,first) ← holding [ov] (getMethod ov m pl)
  callWith pos f first (backTo pos (starEach [] X.env)) (backToKw pos (keywordEach [] X.env))):=by rfl) :
 PE X (.Call (.Attribute o m apos) [] [] pos) (tMeth C m sp dvs E ta tNil):=by
 intro pins s σ H Q I h
 refine PySem.W.methodCall_KW (pl:=pl) (thn (he pins s σ H _ I h) λ u s1 ⟨x,H1,I1,rx,a,dx,fs,ex,ea,l,q⟩=>?_) ht
 subst ex
 obtain rfl : u = Value.ref a:=rx
 refine getmeth_ok I1 ea c hm l ?_
 exact PySem.W.callWith_K0 (first:=[.ref a]) I1.kIn hm.kp (run_fn (us:=[.ref a]) (vs:=[.ref a]) F hr hb hd hx I1 (.cons rfl .nil) q)
structure Mk (K : PySem.W.Frag) (C f : Addr) : Prop where
 makes : PySem.W.makesIn K C = true
 init : PySem.W.findIn K (.ref C) "__init__" = some (some (.ref f))
 fn : PySem.W.isFn K (.ref f) = true
 kp : PySem.W.keepIn K (.ref C) = true
theorem run_make {pins : List (Addr × Obj)} {σ : St} {H : Hp} {s : Shared} {Q : VK} {us : List Value} {vs : List V} (M : Mk X.K C f) (F : FnOk X.prog X.w X.K X.mg X.base CX k f fd ps sp) (hr : Room (k + 1) X.A) (hb : Binds X.K fd ps ds) (hd : Vals dvs ds)
 (hx : Passes CX X E) (I : Inv X pins σ H s) (r : Vals vs us)
 (h : ∀ x dx,H x = none -> H dx = none -> dx ≠ x -> sp (.ref x :: (vs ++ dvs)) (upd (upd H dx (.own x)) x (.ins C dx [])) (λ v H2=>v = .non /\ Q (.ref x) H2) E) :
 wpAny (model X.prog X.w) X.A (call (.ref C) us) (EP X pins σ Q) X.xe s:=by
 have hq:=h (s.heap.objs.size + 1) s.heap.objs.size (I.hok.fresh (Nat.le_succ _)) (I.hok.fresh (Nat.le_refl _)) (Nat.ne_of_lt (Nat.lt_succ_self _))
 have I2:=Inv.made (C:=C) I
 have r2 : Vals (V.ref (s.heap.objs.size + 1) :: (vs ++ dvs)) (Value.ref (s.heap.objs.size + 1) :: (us ++ ds)):=.cons rfl (r.append hd)
 have hl : (Value.ref (s.heap.objs.size + 1) :: us ++ ds).length = ps.length:=by
  have e:=r2.length
  rw [F.len _ _ _ _ hq] at e
  exact e.symm
 refine wpAny_call (make_map (f:=f) I.kIn M.makes M.init (beq_iff_eq.mp M.fn) (codeAny_mono (F.run _ X.stack _ _ ⟨Value.ref (s.heap.objs.size + 1) :: us,[]⟩ (Value.ref (s.heap.objs.size + 1) :: (us ++ ds)) _ _ E (hr.make C us [])
  (I2.env0.make C us []) (hb _ (Value.ref (s.heap.objs.size + 1) :: us) I2.kIn hl) r2 hq) λ r s' hq'=>?_))
 cases r with
 | error e=>exact hx pins σ _ _ e s' I2 hq'
 | ok fl =>
   cases fl with
   | ret u =>
     obtain ⟨v,H',I3,rv,ev,q3⟩:=I2.after hq'
     subst ev
     exact ⟨rv,⟨V.ref (s.heap.objs.size + 1),H',I3,rfl,q3⟩⟩
   | next=>exact False.elim hq'
   | brk=>exact False.elim hq'
   | cont=>exact False.elim hq'
theorem pe_make (M : Mk X.K C f) (F : FnOk X.prog X.w X.K X.mg X.base CX k f fd ps sp) (hr : Room (k + 1) X.A) (hg : Gl X x) (hm : X.mg x = some (.ref C)) (hb : Binds X.K fd ps ds) (hd : Vals dvs ds) (hx : Passes CX X E)
 (ha : PA X (e :: es) t) (hdb : (x == ("__debug__" : Str)) = false:=by decide) (he : starEach (e :: es) X.env = (false,eval e X.env) :: starEach es X.env:=by rfl) (hpl : (backTo pos (starEach es X.env)).any (·.1) = false:=by rfl) :
 PE X (.Call (.Name x p) (e :: es) [] pos) (tMake C sp dvs E t):=by
 intro pins s σ H Q I h
 refine wpAny_Call_Name_kw (ld_glob I hg hm ?_ hdb)
 refine PySem.W.callWith_K (h₀:=X.base) I.ok.mod.kin M.kp (thn (ha pos pins s σ H _ I h) λ us s1 ⟨vs,H1,I1,r,q⟩=>⟨I1.kIn,?_⟩) he hpl
 exact run_make M F hr hb hd hx I1 r q
end
section
variable {X : Cx} {CX : CXT} {k : Nat} {f C : Addr} {fd : FuncData} {ps ks : List Str} {sp : Sp} {E : XK} {x m : Str} {p pos apos kpos : Pos} {e o : Expr} {es : List Expr} {kws : List Keyword} {te ta : TE} {t tk : TA} {nm : Option Str}
structure KBinds (K : PySem.W.Frag) (fd : FuncData) (ps ks : List Str) (g : List Value -> List Value -> List Value) (gV : List V -> List V -> List V) : Prop where
 to : ∀ (s : Shared) (us ws : List Value),K.In s.heap -> (g us ws).length = ps.length -> BindsTo s fd ⟨us,ks.zip ws⟩ (ps.zip (g us ws))
 rel : ∀ {vs : List V} {us : List Value} {zs : List V} {ws : List Value},Vals vs us -> Vals zs ws -> Vals (gV vs zs) (g us ws)
variable {g : List Value -> List Value -> List Value} {gV : List V -> List V -> List V}
end
structure FnScope (N P : List Str) (sc : Scope) : Prop where
 kind : sc.kind = .function
 co : sc.isCoroutine = false
 gen : sc.isGenerator = false
 nd : N.Nodup
 pre : N.take P.length = P
 par : ∀ x ∈ P,sc.names.lookup x = some .local \/ sc.names.lookup x = some .cell
 nofree : ∀ y ∈ sc.names,y.2 ≠ .free
theorem bindL_out {kindOf : Str -> Option NameKind} {x : Str} : ∀ {binds : List (Str × Value)} {m : Str -> Option Value},(∀ v,(x,v) ∉ binds) -> bindL kindOf binds m x = m x
 | [],_,_=>rfl
 | (n,v) :: r,m,h=>by
   unfold bindL
   rw [bindL_out λ w hw=>h w (List.mem_cons_of_mem _ hw)]
   split
   ·have : x ≠ n:=by rintro rfl; exact h v List.mem_cons_self
    simp [this]
   ·rfl
theorem bindC_out {kindOf : Str -> Option NameKind} {x : Str} : ∀ {binds : List (Str × Value)} {m : Str -> Option Value},(∀ v,(x,v) ∉ binds) -> bindC kindOf binds m x = m x
 | [],_,_=>rfl
 | (n,v) :: r,m,h=>by
   unfold bindC
   rw [bindC_out λ w hw=>h w (List.mem_cons_of_mem _ hw)]
   split
   ·rfl
   ·have : x ≠ n:=by rintro rfl; exact h v List.mem_cons_self
    simp [this]
theorem bindL_get {kindOf : Str -> Option NameKind} {x : Str} {v : Value} : ∀ {P : List Str} {vs : List Value} {i : Nat} {m : Str -> Option Value},P.Nodup -> P[i]? = some x -> vs[i]? = some v -> kindOf x = some .local ->
 bindL kindOf (P.zip vs) m x = some v
 | [],_,_,_,_,h,_,_=>by simp at h
 | _ :: _,[],_,_,_,_,h,_=>by simp at h
 | p :: P,w :: vs,0,m,nd,h1,h2,hk=>by
   simp at h1 h2; subst h1; subst h2
   show bindL kindOf ((p,w) :: P.zip vs) m p = _
   unfold bindL
   rw [bindL_out λ v hv=>(List.nodup_cons.mp nd).1 (List.of_mem_zip hv).1,if_pos hk]
   simp
 | p :: P,w :: vs,i + 1,m,nd,h1,h2,hk=>by
   show bindL kindOf ((p,w) :: P.zip vs) m x = _
   unfold bindL
   exact bindL_get (i:=i) (List.nodup_cons.mp nd).2 (by simpa using h1) (by simpa using h2) hk
theorem bindC_get {kindOf : Str -> Option NameKind} {x : Str} {v : Value} : ∀ {P : List Str} {vs : List Value} {i : Nat} {m : Str -> Option Value},P.Nodup -> P[i]? = some x -> vs[i]? = some v -> kindOf x ≠ some .local ->
 bindC kindOf (P.zip vs) m x = some v
 | [],_,_,_,_,h,_,_=>by simp at h
 | _ :: _,[],_,_,_,_,h,_=>by simp at h
 | p :: P,w :: vs,0,m,nd,h1,h2,hk=>by
   simp at h1 h2; subst h1; subst h2
   show bindC kindOf ((p,w) :: P.zip vs) m p = _
   unfold bindC
   rw [bindC_out λ v hv=>(List.nodup_cons.mp nd).1 (List.of_mem_zip hv).1,if_neg hk]
   simp
 | p :: P,w :: vs,i + 1,m,nd,h1,h2,hk=>by
   show bindC kindOf ((p,w) :: P.zip vs) m x = _
   unfold bindC
   exact bindC_get (i:=i) (List.nodup_cons.mp nd).2 (by simpa using h1) (by simpa using h2) hk
def start (N : List Str) (vs : List V) : St:=vs.map some ++ List.replicate (N.length - vs.length) none
def cxOf (CX : CXT) (P : Program) (w : World) (K : PySem.W.Frag) (mg : Str -> Option Value) (base : Heap) (N : List Str) (qual : Str) (scope : Scope) (f : Addr) (cd : Value) (A : Around) (outer : List Env) (s : Shared) (H : Hp) (E : XK) : Cx where
 prog:=P
 w:=w
 K:=K
 mg:=mg
 base:=base
 A:=A.deeper (envOfC qual scope s.heap.objs.size f cd)
 N:=N
 s₀:=s
 H₀:=H
 env:=envOfC qual scope s.heap.objs.size f cd
 outer:=outer
 stack:=envOfC qual scope s.heap.objs.size f cd :: outer
 ex:=[]
 calm:=true
 fn:=λ _=>true
 pn:=[]
 xe:=λ e s'=>wpAny (model P w) (A.deeper (envOfC qual scope s.heap.objs.size f cd)) (leaving (envOfC qual scope s.heap.objs.size f cd) e) (λ _ s''=>CX outer H s E e s'') (λ e' s''=>CX outer H s E e' s'') s'
theorem cell_has {sc : Scope} {n : Nat} {x : Str} (h : sc.names.lookup x = some .cell) : ∃ c,(cellsFrom n sc.names []).lookup x = some c:=by
 have q:=PySem.W.cellsFrom_some sc.names n [] (.inl h)
 exact Option.isSome_iff_exists.mp q
theorem inv_start {CX : CXT} {P : Program} {w : World} {K : PySem.W.Frag} {mg : Str -> Option Value} {base : Heap} {N ps : List Str} {qual : Str} {scope : Scope} {f : Addr} {cd : Value} {A : Around} {outer : List Env} {s s1 : Shared} {H : Hp} {E : XK} {us : List Value} {vs : List V}
 (S : FnScope N ps scope) (hd : A.handled = none) (e0 : Env0 P w K mg base A outer s H) (hl : vs.length = ps.length) (r : Vals vs us)
 (x : InCallC s s.heap.objs.size (bindL (envOfC qual scope s.heap.objs.size f cd).kindOf (ps.zip us) λ _=>none) (cellsFrom (s.heap.objs.size + 1) scope.names []) (bindC (envOfC qual scope s.heap.objs.size f cd).kindOf (ps.zip us) λ _=>none) s1) :
 Inv (cxOf CX P w K mg base N qual scope f cd A outer s H E) [] (start N vs) H s1:=by
 have hpl : ps.length <= N.length:=by have:=congrArg List.length S.pre; rw [List.length_take] at this; omega
 obtain ⟨h1,tk,rfl,hk⟩:=x.done
 have noA : ∀ b : Addr,b ∉ (cxOf CX P w K mg base N qual scope f cd A outer s H E).ex:=λ b z=>absurd (show b ∈ ([] : List Addr) from z) (by simp)
 refine ⟨⟨e0.mod,S.kind,rfl,rfl,Nat.le_refl _,λ y z c h1 h2=>?_,λ y hy=>?_,λ y c _ h=>?_,λ _=>hd,Around.frames_deeper e0.frames,.inr ⟨rfl,rfl⟩,λ b z=>absurd z (noA b),e0.bs,e0.bsz,λ b _ _=>noA b,λ b z=>absurd z (noA b),e0.funs,e0.frf⟩,
  rfl,e0.bare,Un.kept hk,⟨_,x.toInCall.ns,λ i y v h1 h2 h3=>?_⟩,λ y c h=>⟨_,x.cell y c h⟩,e0.hok.fresh (Nat.le_refl _),λ y c h=>?_,λ p hp=>absurd (show p ∈ ([] : List (Addr × Obj)) from hp) (by simp),e0.hok.kept hk,?_⟩
 ·exact name_of_addr x.apart (PySem.mem_of_lookup h1) (PySem.mem_of_lookup h2)
 ·have hy : scope.names.lookup y = some .cell \/ scope.names.lookup y = some .free:=hy
  rcases hy with hy | hy
  ·exact cell_has hy
  ·exact absurd rfl (S.nofree _ (PySem.mem_of_lookup hy))
 ·exact Nat.le_of_lt (x.above y c (PySem.mem_of_lookup h))
 ·have hi : i < vs.length:=by
   unfold start at h2
   by_cases hi : i < vs.length
   ·exact hi
   ·rw [List.getElem?_append_right (by simpa using hi)] at h2
    rw [List.getElem?_replicate] at h2
    split at h2 <;> cases h2
  have ha : vs[i]? = some v:=by
   unfold start at h2
   rw [List.getElem?_append_left (by simpa using hi),List.getElem?_map] at h2
   cases e : vs[i]? with
   | none=>rw [e] at h2; cases h2
   | some a=>rw [e] at h2; cases h2; rfl
  obtain ⟨u,hu,rv⟩:=r.get ha
  have hp : ps[i]? = some y:=by
   rw [← S.pre,List.getElem?_take_of_lt (by omega)]; exact h1
  have ndP : ps.Nodup:=by rw [← S.pre]; exact S.nd.sublist (List.take_sublist _ _)
  refine ⟨u,rv,?_⟩
  rcases S.par y (List.mem_of_getElem? hp) with k | k
  ·exact .inl ⟨k,bindL_get ndP hp hu k⟩
  ·obtain ⟨c,e⟩:=cell_has (n:=s.heap.objs.size + 1) k
   refine .inr ⟨.inl k,c,e,?_⟩
   have q:=x.cell y c e
   rw [bindC_get ndP hp hu (by show scope.names.lookup y ≠ _; rw [k]; decide)] at q
   exact q
 ·exact e0.hok.fresh (Nat.le_of_lt (x.above y c (PySem.mem_of_lookup h)))
 ·unfold start
  show _ = N.length
  rw [List.length_append,List.length_map,List.length_replicate]
  omega
theorem fn_of {CX : CXT} {P : Program} {w : World} {K : PySem.W.Frag} {mg : Str -> Option Value} {base : Heap} {k : Nat} {f : Addr} {name qual : Str} {params : Arguments} {body : List Stmt} {scope : Scope} {dV kV doc pm cdv ct oc : Value} {an od : Option Addr}
 {osl : Array (Option Value)} {N ps : List Str} {sp : Sp} (lk : K.lookup f = some ⟨oc,od,.func (PySem.W.fnOf name qual params body scope dV kV doc pm an cdv ct),osl⟩) (hcd : PySem.W.codeIn K cdv qual = true) (S : FnScope N ps scope)
 (len : ∀ vs H Q E,sp vs H Q E -> vs.length = ps.length)
 (hbody : ∀ (A : Around) (outer : List Env) (s : Shared) (H : Hp) (vs : List V) (Q : VK) (E : XK),Room k (A.deeper (envOfC qual scope s.heap.objs.size f cdv)) -> sp vs H Q E ->
  ∃ t,PSs (cxOf CX P w K mg base N qual scope f cdv A outer s H E) body t /\ t { nx:=λ _ H'=>Q .non H',rt:=Q } (start N vs) H) :
 FnOk P w K mg base CX (k + 1) f (PySem.W.fnOf name qual params body scope dV kV doc pm an cdv ct) ps sp:=by
 refine ⟨len,λ A outer s H args us vs Q E hr e0 hb r hsp=>?_⟩
 have hl:=len _ _ _ _ hsp
 have KX : K.In s.heap:=e0.mod.kin.keeps λ b o e=>(e0.bs b o e).1
 have lim : s.heap.NoLimit:=e0.mod.nolimit.keeps λ b o e=>(e0.bs b o e).1
 have hkind : ∀ y ∈ ps.zip us,scope.names.lookup y.1 = some .local \/ (scope.names.lookup y.1 = some .cell /\ ((cellsFrom (s.heap.objs.size + 1) scope.names []).lookup y.1).isSome = true):=λ ⟨n,v⟩ hy=>by
  rcases S.par n (List.of_mem_zip hy).1 with q | q
  ·exact .inl q
  ·exact .inr ⟨q,PySem.W.cellsFrom_some _ _ _ (.inl q)⟩
 refine codeAny_call_function hr.depth (KX _ _ lk) rfl S.co S.gen rfl (PySem.W.codeRec_of KX hcd) (hb _ _ _ _ ?_)
 refine wpAny_newFunctionEnv_cells S.kind hkind λ env he s1 x=>?_
 subst he
 refine ⟨lim.keeps x.toInCall.keep,codeAny_func ?_⟩
 obtain ⟨t,ht,hq⟩:=hbody A outer s H vs Q E (hr.deeper _) hsp
 have I : Inv (cxOf CX P w K mg base N qual scope f cdv A outer s H E) [] (start N vs) H s1:=inv_start S hr.hd e0 hl r x
 refine wpAny_mono (ht [] s1 (start N vs) H _ I hq) (λ fl s' hs=>?_) λ e s' hs=>hs
 have fin : ∀ {σ' : St} {H' : Hp} {v : V} {u : Value},Inv (cxOf CX P w K mg base N qual scope f cdv A outer s H E) [] σ' H' s' -> RelV v u -> Q v H' -> CE outer P w H s Q u s' :=
  λ {σ' H' v u} J rv q=>⟨v,H',J.os,J.bare,J.base,J.hok,rv,q⟩
 cases fl with
 | ret u =>
   obtain ⟨v,σ',H',J,rv,q⟩:=hs
   exact fin J rv q
 | next =>
   obtain ⟨σ',H',J,q⟩:=hs
   exact fin (v:=V.non) (u:=Value.none) J rfl q
 | brk =>
   obtain ⟨_,_,_,q⟩:=hs
   exact False.elim q
 | cont =>
   obtain ⟨_,_,_,q⟩:=hs
   exact False.elim q
end L2
namespace L2
open PySem PySem.Spec PyProof.Rows
section
variable {X : Cx} {x : Str} {p pos : Pos} {e : Expr} {es : List Expr} {t : TA} {id T : String} {r : List V -> Hp -> VK -> Prop}
def tCB (r : List V -> Hp -> VK -> Prop) (t : TA) : TE:=λ σ H Q=>t σ H λ vs H1=>r vs H1 Q
theorem pe_callB (hc : CallR X (.builtin id) r) (hg : Gl X x) (hm : X.mg x = none) (hv : bootBuiltins x = some (.builtin id)) (ha : PA X (e :: es) t) (hn : x ≠ "__name__":=by decide) (hdb : (x == ("__debug__" : Str)) = false:=by decide)
 (he : starEach (e :: es) X.env = (false,eval e X.env) :: starEach es X.env:=by rfl) (hpl : (backTo pos (starEach es X.env)).any (·.1) = false:=by rfl) : PE X (.Call (.Name x p) (e :: es) [] pos) (tCB r t):=by
 intro pins s σ H Q I h
 refine wpAny_Call_Name_kw (ld_blt I hg hm hv ?_ hn hdb)
 exact PyProof.Rows.callWith_builtin1 (thn (ha pos pins s σ H _ I h) λ us s1 ⟨vs,H1,I1,r1,q1⟩=>hc pins s1 σ H1 vs us Q I1 r1 q1) he hpl
theorem pe_callTy (hc : CallR X (.type T) r) (hg : Gl X x) (hm : X.mg x = none) (hv : bootBuiltins x = some (.type T)) (ha : PA X (e :: es) t) (hn : x ≠ "__name__":=by decide) (hdb : (x == ("__debug__" : Str)) = false:=by decide)
 (he : starEach (e :: es) X.env = (false,eval e X.env) :: starEach es X.env:=by rfl) (hpl : (backTo pos (starEach es X.env)).any (·.1) = false:=by rfl) : PE X (.Call (.Name x p) (e :: es) [] pos) (tCB r t):=by
 intro pins s σ H Q I h
 refine wpAny_Call_Name_kw (ld_blt I hg hm hv ?_ hn hdb)
 exact PyProof.Rows.callWith_type1 (thn (ha pos pins s σ H _ I h) λ us s1 ⟨vs,H1,I1,r1,q1⟩=>hc pins s1 σ H1 vs us Q I1 r1 q1) he hpl
end
end L2
namespace HT
open PySem PyProof.Rows
section
open PySem.SeqAt
open PySem.AutoSeq1 (wpAny_loadPart')
open PySem.MeetsSeq PySem.MeetsSeq2 PySem.MeetsSeq3
end
section
variable {prog : Program} {w : World} {A : Around} {E : Value -> Shared -> Prop} {s : Shared}
theorem cat_tup {t b : Addr} {vs ws : List Value} {Q : Value -> Shared -> Prop} (ht : IsTup s.heap t vs.toArray) (hb : IsTup s.heap b ws.toArray) (hv : vs ≠ [])
 (h1 : ws = [] -> Q (.ref t) s) (h2 : ws ≠ [] -> Q (.ref s.heap.objs.size) { s with heap:=s.heap.push { cls:=.type "tuple",data:=.seq (vs ++ ws).toArray } })
 (hsz : vs.length + ws.length <= sizeLine) : wpAny (model prog w) A (binaryOp .Add (.ref t) (.ref b)) Q E s:=by
 obtain ⟨⟨cls,dd,data,sl⟩,ho,hc,n,hd⟩:=id ht
 obtain ⟨⟨cls2,dd2,data2,sl2⟩,ho2,hc2,n2,hd2⟩:=id hb
 simp only at hc hd hc2 hd2
 subst hc hd hc2 hd2
 have e : vs.toArray ++ ws.toArray = (vs ++ ws).toArray:=by simp
 by_cases hw : ws = []
 ·exact concat_meets ⟨_,ho,rfl⟩ ⟨_,ho2,rfl⟩ noFill_tuple_add seq_tuple_add PySem.F.slot_tuple_add PySem.F.entry_tuple_add (PySem.F.args_tuple_add_2 _ _)
   (tuple_addW1 t b vs.toArray ws.toArray n n2 dd dd2 sl sl2 (by simpa using hv) (by simp [hw])) ⟨ho,ho2,h1 hw⟩
 ·refine concat_meets ⟨_,ho,rfl⟩ ⟨_,ho2,rfl⟩ noFill_tuple_add seq_tuple_add PySem.F.slot_tuple_add PySem.F.entry_tuple_add (PySem.F.args_tuple_add_2 _ _)
   (tuple_addW2 t b vs.toArray ws.toArray n n2 dd dd2 sl sl2 (by simpa using hv) (by simpa using hw) (by rw [List.size_toArray,List.size_toArray]; exact hsz)) ⟨ho,ho2,?_⟩
  rw [e]
  exact h2 hw
def sIx (n d : Nat) : Option Int -> Nat
 | none=>d
 | some v=>if v < 0 then (v + (n : Int)).toNat else min v.toNat n
theorem sIx_none (n d : Nat) : sIx n d none = d:=rfl
theorem sIx_nat (n d k : Nat) : sIx n d (some (k : Int)) = min k n:=by
 show (if (k : Int) < 0 then ((k : Int) + (n : Int)).toNat else min (k : Int).toNat n) = min k n
 rw [if_neg (by omega),Int.toNat_natCast]
theorem sIx_le (n d : Nat) (hd : d <= n) (o : Option Int) : sIx n d o <= n:=by
 cases o with
 | none=>exact hd
 | some v =>
   show (if v < 0 then (v + (n : Int)).toNat else min v.toNat n) <= n
   by_cases hv : v < 0
   ·rw [if_pos hv]; omega
   ·rw [if_neg hv]; exact Nat.min_le_right _ _
end
end HT
namespace L2
open PySem PySem.Spec PyProof.Rows
abbrev TO:=St -> Hp -> (Option Int -> Hp -> Prop) -> Prop
def PO (X : Cx) (e : Option Expr) (t : TO) : Prop :=
 ∀ (pins : List (Addr × Obj)) (s : Shared) (σ : St) (H : Hp) (Q : Option Int -> Hp -> Prop),Inv X pins σ H s -> t σ H Q ->
   wpAny (model X.prog X.w) X.A (evalPart e X.env) (λ u s'=>∃ o H',Inv X pins σ H' s' /\ IsPart u o /\ Q o H') X.xe s
def tNoPart : TO:=λ _ H Q=>Q none H
def tPart (t : TE) : TO:=λ σ H Q=>t σ H λ x H1=>∃ i,x = .int i /\ Q (some i) H1
theorem intsAre_of {ns : List Int} : ∀ {us : List Value},Vals (ns.map V.int) us -> IntsAre us ns:=by
 induction ns with
 | nil=>intro us r; rw [List.map_nil] at r; cases r; exact .nil
 | cons n ns ih =>
   intro us r
   rw [List.map_cons] at r
   cases r with
   | cons r1 r2 =>
     obtain ⟨t,e⟩:=r1
     subst e
     exact .cons n t (ih r2)
section
variable {X : Cx} {e : Expr} {te : TE} {lo hi : Option Expr} {tl th : TO} {pos p2 : Pos}
theorem po_none : PO X none tNoPart:=by
 intro pins s σ H Q I h
 rw [evalPart_none]
 exact wpAny_pure ⟨none,H,I,.none,h⟩
theorem po_some (h : PE X e te) : PO X (some e) (tPart te):=by
 intro pins s σ H Q I hw
 rw [evalPart_some]
 refine thn (h pins s σ H _ I hw) λ u s1 ⟨x,H1,I1,r1,q1⟩=>?_
 obtain ⟨i,rfl,q⟩:=q1
 obtain ⟨t,rfl⟩:=r1
 exact ⟨some i,H1,I1,.int i t,q⟩
def SlR (X : Cx) (r : V -> Option Int -> Option Int -> Hp -> VK -> Prop) : Prop :=
 ∀ (pins : List (Addr × Obj)) (s : Shared) (σ : St) (H : Hp) (x : V) (v vl vu : Value) (lo hi : Option Int) (sl : Addr) (Q : VK),Inv X pins σ H s -> RelV x v -> s.heap.IsSliceOf sl vl vu .none -> IsPart vl lo -> IsPart vu hi -> r x lo hi H Q ->
   ∃ T id,typeLookup (.type T) "__getitem__" = pure (some (.builtin id)) /\ s.TypeIs v T /\ wpAny (model X.prog X.w) X.A (getItem v (.ref sl)) (EP X pins σ Q) X.xe s
theorem SlR.or {r r' : V -> Option Int -> Option Int -> Hp -> VK -> Prop} (h : SlR X r) (h' : SlR X r') : SlR X (λ x lo hi H Q=>r x lo hi H Q \/ r' x lo hi H Q):=by
 intro pins s σ H x v vl vu lo hi sl Q I rx hs pl pu q
 rcases q with q | q
 ·exact h pins s σ H x v vl vu lo hi sl Q I rx hs pl pu q
 ·exact h' pins s σ H x v vl vu lo hi sl Q I rx hs pl pu q
def tSl (r : V -> Option Int -> Option Int -> Hp -> VK -> Prop) (te : TE) (tl th : TO) : TE:=λ σ H Q=>te σ H λ x H1=>tl σ H1 λ l H2=>th σ H2 λ u H3=>r x l u H3 Q
theorem pe_slice {r : V -> Option Int -> Option Int -> Hp -> VK -> Prop} (hr : SlR X r) (he : PE X e te) (hl : PO X lo tl) (hu : PO X hi th) : PE X (.Subscript e (.Slice lo hi none p2) pos) (tSl r te tl th):=by
 intro pins s σ H Q I h
 refine Subscript_ (thn (he pins s σ H _ I h) λ v s1 ⟨x,H1,I1,r1,q1⟩=>?_)
 refine wpAny_Slice (thn (hl pins s1 σ H1 _ I1 q1) λ vl s2 ⟨l,H2,I2,pl,q2⟩=>thn (hu pins s2 σ H2 _ I2 q2) λ vu s3 ⟨u,H3,I3,pu,q3⟩=>?_)
 rw [evalPart_none]
 refine wpAny_pure ?_
 have I4 : Inv X pins σ H3 { s3 with heap:=s3.heap.push { cls:=.type "slice",data:=.fields #[vl,vu,.none] } }:=I3.kept (t':=s3.toks) λ b ob q=>Heap.get?_push_of_some _ q
 obtain ⟨T,id,hT,ht,hg⟩:=hr pins { s3 with heap:=s3.heap.push { cls:=.type "slice",data:=.fields #[vl,vu,.none] } } σ H3 x v vl vu l u s3.heap.objs.size Q I4 r1 (Heap.IsSliceOf.new ..) pl pu q3
 show wpAny (model X.prog X.w) X.A (subscriptTail e (.Slice lo hi none p2) v (.ref s3.heap.objs.size)) (EP X pins σ Q) X.xe { s3 with heap:=s3.heap.push { cls:=.type "slice",data:=.fields #[vl,vu,.none] } }
 exact tail_any (ops:=[.ref s3.heap.objs.size,v]) ht hT hg (by with_unfolding_all rfl)
def cutV (xs : List V) (lo hi : Option Int) : List V:=(xs.drop (HT.sIx xs.length 0 lo)).take (HT.sIx xs.length xs.length hi - HT.sIx xs.length 0 lo)
theorem cutV_length (xs : List V) (lo hi : Option Int) : (cutV xs lo hi).length <= xs.length:=by
 unfold cutV
 rw [List.length_take,List.length_drop]
 omega
def rCatT (K : PySem.W.Frag) : R2:=λ x y H Q=>∃ a b xs ys,x = .ref a /\ y = .ref b /\ SqT K H a xs /\ SqT K H b ys /\ xs ≠ [] /\ xs.length + ys.length <= sizeLine /\
 (ys = [] -> Q (.ref a) H) /\ (ys ≠ [] -> ∀ p,H p = none -> Q (.ref p) (upd H p (.tup (xs ++ ys))))
theorem Vals.nil_iff {xs : List V} {us : List Value} (r : Vals xs us) : us = [] ↔ xs = []:=by
 cases r with
 | nil=>simp
 | cons _ _=>simp
theorem op_catT : OpR X (binaryOp .Add) (rCatT X.K):=by
 intro pins s σ H x y v u Q I rx ry h
 obtain ⟨a,b,xs,ys,rfl,rfl,ha,hb,hx,hz,q1,q2⟩:=h
 cases rx
 cases ry
 obtain ⟨its,r1,p1,_⟩:=I.tuple ha
 obtain ⟨its2,r2,p2,_⟩:=I.tuple hb
 refine HT.cat_tup p1 p2 (λ z=>hx (r1.nil_iff.mp z)) (λ z=>⟨.ref a,H,I,rfl,q1 (r2.nil_iff.mp z)⟩) (λ z=>?_) (by rw [← r1.length,← r2.length]; exact hz)
 refine ⟨.ref s.heap.objs.size,_,I.laid (t':=s.toks) (o:=.tup (xs ++ ys)) (λ b ob q=>Heap.get?_push_of_some _ q) (Nat.le_refl _) ?_,rfl,q2 (λ w=>z (r2.nil_iff.mpr w)) _ (I.hok.fresh (Nat.le_refl _))⟩
 exact ⟨by rw [List.length_append]; exact hz,_,r1.append r2,IsTup.new _ _⟩
end
end L2
namespace L2
open PySem PySem.Spec PyProof.Rows
def ixN (n : Nat) (i : Int) : Option Nat:=if 0 <= i then (if i < n then some i.toNat else none) else if -(n : Int) <= i then some (i + n).toNat else none
def atI {α : Type} (xs : List α) (i : Int) : Option α:=(ixN xs.length i).bind λ j=>xs[j]?
theorem ixN_seq {n : Nat} {i : Int} {j : Nat} (h : ixN n i = some j) : seqIndex? i n = some j /\ j < n /\ -(n : Int) <= i /\ i < n:=by
 unfold ixN at h
 by_cases h0 : 0 <= i
 ·rw [if_pos h0] at h
  by_cases h1 : i < n
  ·rw [if_pos h1] at h
   have e : i.toNat = j:=Option.some.inj h
   exact ⟨by rw [seqIndex_of h0 h1,e],by omega,by omega,h1⟩
  ·rw [if_neg h1] at h; cases h
 ·rw [if_neg h0] at h
  by_cases h1 : -(n : Int) <= i
  ·rw [if_pos h1] at h
   have e : (i + n).toNat = j:=Option.some.inj h
   exact ⟨by rw [seqIndex_neg (by omega) h1,e],by omega,h1,by omega⟩
  ·rw [if_neg h1] at h; cases h
theorem atI_get {α : Type} {xs : List α} {i : Int} {v : α} (h : atI xs i = some v) : ∃ j,seqIndex? i xs.length = some j /\ xs[j]? = some v /\ j < xs.length /\ -(xs.length : Int) <= i /\ i < xs.length:=by
 unfold atI at h
 cases e : ixN xs.length i with
 | none=>rw [e] at h; cases h
 | some j =>
   rw [e] at h
   obtain ⟨h1,h2,h3,h4⟩:=ixN_seq e
   exact ⟨j,h1,h,h2,h3,h4⟩
theorem atI_nat {α : Type} {xs : List α} {j : Nat} {v : α} (h : xs[j]? = some v) : atI xs (j : Int) = some v:=by
 have hj : j < xs.length:=(List.getElem?_eq_some_iff.mp h).1
 have e : ixN xs.length (j : Int) = some j:=by
  unfold ixN
  rw [if_pos (by omega),if_pos (by omega)]; simp
 unfold atI; rw [e]; exact h
def PlainIx (b : Expr) : Prop:=∀ o i,subscripted b false o i = operate [o,i] (getItem o i)
def IxR (X : Cx) (r : R2) : Prop :=
 ∀ (value slice : Expr) (pins : List (Addr × Obj)) (s : Shared) (σ : St) (H : Hp) (x y : V) (v u : Value) (Q : VK),Inv X pins σ H s -> RelV x v -> RelV y u -> r x y H Q ->
   subscripted slice false v u = operate [v,u] (getItem v u) -> wpAny (model X.prog X.w) X.A (subscriptTail value slice v u) (EP X pins σ Q) X.xe s
def MtR (X : Cx) (id : String) (r : V -> List V -> Hp -> VK -> Prop) : Prop :=
 ∀ (pins : List (Addr × Obj)) (s : Shared) (σ : St) (H : Hp) (x : V) (xs : List V) (v : Value) (us : List Value) (Q : VK),Inv X pins σ H s -> RelV x v -> Vals xs us -> r x xs H Q ->
   wpAny (model X.prog X.w) X.A (call (.builtin id) (v :: us)) (EP X pins σ Q) X.xe s
section
variable {X : Cx} {a b : Expr} {ta tb : TE} {pos : Pos}
theorem IxR.or {r r' : R2} (h : IxR X r) (h' : IxR X r') : IxR X (λ x y H Q=>r x y H Q \/ r' x y H Q):=by
 intro value slice pins s σ H x y v u Q I rx ry q hs
 rcases q with q | q
 ·exact h value slice pins s σ H x y v u Q I rx ry q hs
 ·exact h' value slice pins s σ H x y v u Q I rx ry q hs
theorem MtR.or {id : String} {r r' : V -> List V -> Hp -> VK -> Prop} (h : MtR X id r) (h' : MtR X id r') : MtR X id (λ x xs H Q=>r x xs H Q \/ r' x xs H Q):=by
 intro pins s σ H x xs v us Q I rx rs q
 rcases q with q | q
 ·exact h pins s σ H x xs v us Q I rx rs q
 ·exact h' pins s σ H x xs v us Q I rx rs q
theorem pe_ix {r : R2} (hr : IxR X r) (ha : PE X a ta) (hb : PE X b tb) (hs : PlainIx b) : PE X (.Subscript a b pos) (tOp r ta tb):=by
 intro pins s σ H Q I h
 exact Subscript_ (binT ha hb I h λ v u s2 x y H2 I2 rx ry q=>hr a b pins s2 σ H2 x y v u Q I2 rx ry q (hs _ _))
def rIxL (K : PySem.W.Frag) : R2:=λ x y H Q=>∃ p xs i v,x = .ref p /\ y = .int i /\ SqL K H p xs /\ atI xs i = some v /\ Q v H
def rIxT (K : PySem.W.Frag) : R2:=λ x y H Q=>∃ p xs i v,x = .ref p /\ y = .int i /\ SqT K H p xs /\ atI xs i = some v /\ Q v H
def rIxS : R2:=λ x y H Q=>∃ z i c,x = .str z /\ y = .int i /\ z.length <= sizeLine /\ atI z.cps.toList i = some c /\ Q (.str ⟨#[c]⟩) H
theorem ix_list : IxR X (rIxL X.K):=by
 intro value slice pins s σ H x y v u Q I rx ry h hs
 obtain ⟨p,xs,i,z,rfl,rfl,hq,he,q⟩:=h
 cases rx
 obtain ⟨t,rfl⟩:=ry
 obtain ⟨its,r,pl,hz⟩:=I.list hq
 obtain ⟨j,h1,h2,h3,h4,h5⟩:=atI_get he
 obtain ⟨w,ew,rw'⟩:=r.get h2
 have hl:=r.length
 have hn:=line63
 have fin : EP X pins σ Q w s:=⟨z,H,I,rw',q⟩
 by_cases h0 : 0 <= i
 ·have hj : i.toNat = j:=by
   rw [seqIndex_of h0 h5] at h1
   exact Option.some.inj h1
  exact item_listR pl.isList h0 (by omega) (by rw [hj]; simpa using ew) fin hs
 ·have hj : (i + (its.toArray.size : Int)).toNat = j:=by
   rw [seqIndex_neg (by omega) h4] at h1
   rw [List.size_toArray,← hl]
   exact Option.some.inj h1
  exact subscriptTail_builtinR (x:=w) pl.isList.typeIs slot_list_getitem.lookup
   (wpAny_getItem_list_neg (Q:=λ r s'=>r = w /\ EP X pins σ Q r s') pl.isList (by omega) (by rw [List.size_toArray] <;> omega) (by omega) (by rw [hj]; simpa using ew) ⟨rfl,fin⟩) hs
theorem ix_tup : IxR X (rIxT X.K):=by
 intro value slice pins s σ H x y v u Q I rx ry h hs
 obtain ⟨p,xs,i,z,rfl,rfl,hq,he,q⟩:=h
 cases rx
 obtain ⟨t,rfl⟩:=ry
 obtain ⟨its,r,pl,hz⟩:=I.tuple hq
 obtain ⟨j,h1,h2,h3,h4,h5⟩:=atI_get he
 obtain ⟨w,ew,rw'⟩:=r.get h2
 have hl:=r.length
 have hn:=line63
 have fin : EP X pins σ Q w s:=⟨z,H,I,rw',q⟩
 exact subscriptTail_builtinR (x:=w) pl.typeIs slot_tuple_getitem.lookup
  (getItem_tuple (j:=j) (Q:=λ r s'=>r = w /\ EP X pins σ Q r s') pl (by omega) (by omega) (by rw [List.size_toArray,← hl]; exact h1) (by simpa using ew) ⟨rfl,fin⟩) hs
theorem ix_str : IxR X rIxS:=by
 intro value slice pins s σ H x y v u Q I rx ry h hs
 obtain ⟨z,i,c,rfl,rfl,hz,he,q⟩:=h
 obtain ⟨t,rfl⟩:=rx
 obtain ⟨t',rfl⟩:=ry
 obtain ⟨j,h1,h2,h3,h4,h5⟩:=atI_get he
 have hl : z.cps.toList.length = z.length:=by simp [Str.length]
 rw [hl] at h1 h4 h5
 have hn:=line63
 exact tail_any (typeIs_str s z t) slot_str_getitem.lookup (getItem_str (c:=c) (by
  have e1 : decide (i < -(2 ^ 63 : Int)) = false:=decide_eq_false (by omega)
  have e2 : decide (i >= 2 ^ 63) = false:=decide_eq_false (by omega)
  rw [e1,e2,Bool.or_false]) (by rw [h1]; simpa using h2) ⟨.str ⟨#[c]⟩,H,I.tok _,⟨_,rfl⟩,q⟩) hs
def rIx (K : PySem.W.Frag) : R2:=λ x y H Q=>rIxL K x y H Q \/ rIxT K x y H Q \/ rIxS x y H Q
theorem ix_seq : IxR X (rIx X.K):=ix_list.or (ix_tup.or ix_str)
theorem mapSeq_set (its : List Value) (n j : Nat) (u : Value) : Obj.mapSeq (·.setIfInBounds j u) { cls:=.type "list",data:=.seq its.toArray n } = { cls:=.type "list",data:=.seq (its.set j u).toArray n }:=by
 simp [Obj.mapSeq]
theorem Inv.lst {pins : List (Addr × Obj)} {σ : St} {H : Hp} {s : Shared} {p : Addr} {xs : List V} (I : Inv X pins σ H s) (h : H p = some (.lst xs)) :
 ∃ (its : List Value) (n : Nat),Vals xs its /\ s.heap.get? p = some { cls:=.type "list",data:=.seq its.toArray n } /\ xs.length <= sizeLine:=by
 obtain ⟨z,its,n,r,e⟩:=I.hok p _ h
 exact ⟨its,n,r,e,z⟩
theorem Inv.lstUpd {pins : List (Addr × Obj)} {σ : St} {H : Hp} {s : Shared} {p : Addr} {xs ys : List V} {its its' : List Value} {n n' : Nat} {f : Obj -> Obj} (I : Inv X pins σ H s) (h : H p = some (.lst xs))
 (ho : s.heap.get? p = some { cls:=.type "list",data:=.seq its.toArray n }) (hf : f { cls:=.type "list",data:=.seq its.toArray n } = { cls:=.type "list",data:=.seq its'.toArray n' }) (r : Vals ys its') (hz : ys.length <= sizeLine) (t : Nat) :
 Inv X pins σ (upd H p (.lst ys)) { s with heap:=s.heap.update p f,toks:=t }:=by
 have e : (s.heap.update p f).get? p = some { cls:=.type "list",data:=.seq its'.toArray n' }:=by
  rw [Heap.get?_update_self f ho (by rw [hf] <;> rfl),hf]
 refine I.write (x:=p) (e:=p) (by rw [h]; trivial) (.inl rfl) (λ b u hb q=>(Heap.get?_update_other _ _ (Ne.symm hb)).trans q) ⟨_,e⟩ ?_
 exact ⟨hz,its',n',r,e⟩
def rSetL : V -> V -> V -> Hp -> (Hp -> Prop) -> Prop:=λ o i v H Q=>∃ p xs k j,o = .ref p /\ i = .int k /\ H p = some (.lst xs) /\ ixN xs.length k = some j /\ Q (upd H p (.lst (xs.set j v)))
theorem set_list : PSet X rSetL:=by
 intro pins s σ H o i v ov iv u Q I ro ri rv h
 obtain ⟨p,xs,k,j,rfl,rfl,hp,hj,q⟩:=h
 cases ro
 obtain ⟨t,rfl⟩:=ri
 obtain ⟨its,n,r,ho,hz⟩:=I.lst hp
 obtain ⟨h1,h2,h3,h4⟩:=ixN_seq hj
 have hl:=r.length
 have hn:=line63
 have I' : Inv X pins σ (upd H p (.lst (xs.set j v))) { s with heap:=s.heap.update p (Obj.mapSeq (·.setIfInBounds j u)) } :=
  I.lstUpd hp ho (mapSeq_set its n j u) (r.set rv j) (by rw [List.length_set]; exact hz) s.toks
 by_cases h0 : 0 <= k
 ·have hk : k.toNat = j:=by
   rw [seqIndex_of h0 h4] at h1
   exact Option.some.inj h1
  exact PySem.W.ki_setAt ho h0 (by omega) (by rw [List.size_toArray,← hl]; exact h4) (by rw [hk]; exact ⟨_,I',q⟩)
 ·have hk : (k + (its.toArray.size : Int)).toNat = j:=by
   rw [seqIndex_neg (by omega) h3] at h1
   rw [List.size_toArray,← hl]
   exact Option.some.inj h1
  exact PySem.W.ki_setBack ho (by omega) (by rw [List.size_toArray,← hl]; exact h3) (by omega) (by rw [hk]; exact ⟨_,I',q⟩)
theorem slice_bounds (lo hi : Option Int) (n : Nat) : (sliceBounds lo hi none n).1 = ((HT.sIx n 0 lo : Nat) : Int) /\ (sliceBounds lo hi none n).2.1 = ((HT.sIx n n hi : Nat) : Int) /\ (sliceBounds lo hi none n).2.2 = 1:=by
 refine ⟨?_,?_,rfl⟩
 ·cases lo with
  | none=>simp [sliceBounds,HT.sIx]
  | some i =>
    simp only [sliceBounds,HT.sIx,Option.getD_none,show (1 : Int) > 0 by decide,if_true]
    by_cases h : i < 0
    ·simp only [h,if_true] <;> omega
    ·simp only [h,if_false] <;> omega
 ·cases hi with
  | none=>simp [sliceBounds,HT.sIx]
  | some i =>
    simp only [sliceBounds,HT.sIx,Option.getD_none,show (1 : Int) > 0 by decide,if_true]
    by_cases h : i < 0
    ·simp only [h,if_true] <;> omega
    ·simp only [h,if_false] <;> omega
theorem slicePick_cut (its : List Value) (lo hi : Option Int) : slicePick its.toArray lo hi none = ((its.drop (HT.sIx its.length 0 lo)).take (HT.sIx its.length its.length hi - HT.sIx its.length 0 lo)).toArray:=by
 obtain ⟨h1,h2,h3⟩:=slice_bounds lo hi its.toArray.size
 unfold slicePick
 rw [h1,h2,h3]
 simp only [sliceRange_one,pick_run,List.size_toArray] <;> rfl
def rSlL (K : PySem.W.Frag) : V -> Option Int -> Option Int -> Hp -> VK -> Prop:=λ x lo hi H Q=>∃ a xs,x = .ref a /\ SqL K H a xs /\ ∀ p,H p = none -> Q (.ref p) (upd H p (.lst (cutV xs lo hi)))
theorem sl_list : SlR X (rSlL X.K):=by
 intro pins s σ H x v vl vu lo hi sl Q I rx hs pl pu h
 obtain ⟨a,xs,rfl,hx,q⟩:=h
 cases rx
 obtain ⟨its,r,ht,hz⟩:=I.list hx
 have hlen:=r.length
 refine ⟨"list",_,slot_list_getitem.lookup,ht.isList.typeIs,?_⟩
 refine wpAny_getItem_list_slice ht.isList hs pl pu .none (by simp) ?_ (by rw [List.size_toArray] <;> omega)
 rw [slicePick_cut,← hlen]
 refine ⟨.ref s.heap.objs.size,_,I.laid (t':=s.toks) (o:=.lst (cutV xs lo hi)) (λ b ob q=>Heap.get?_push_of_some _ q) (Nat.le_refl _) ?_,rfl,q _ (I.hok.fresh (Nat.le_refl _))⟩
 exact ⟨Nat.le_trans (cutV_length xs lo hi) hz,_,0,(r.drop (HT.sIx xs.length 0 lo)).take (HT.sIx xs.length xs.length hi - HT.sIx xs.length 0 lo),Heap.get?_push_size _ rfl⟩
def flatV : V -> Bool
 | .non=>true
 | .bl _=>true
 | .int _=>true
 | .str _=>true
 | _=>false
def eqV : V -> V -> Bool
 | .non,.non=>true
 | .bl a,.bl b=>a == b
 | .bl a,.int b=>(if a then 1 else 0) == b
 | .int a,.bl b=>a == (if b then 1 else 0)
 | .int a,.int b=>a == b
 | .str a,.str b=>a == b
 | _,_=>false
theorem eqAt_V {A : Around} {s : Shared} {y x : V} {u v : Value} (ry : RelV y u) (rx : RelV x v) (fy : flatV y = true) (fx : flatV x = true) : SeqAt.EqAt A s u v (eqV y x):=by
 cases y with
 | non =>
   cases ry
   cases x with
   | non=>cases rx; exact SeqAt.EqAt.same _
   | bl b=>cases rx; exact SeqAt.EqAt.none_bool b
   | int b=>obtain ⟨t,rfl⟩:=rx; exact SeqAt.EqAt.none_int b t
   | str b=>obtain ⟨t,rfl⟩:=rx; exact SeqAt.EqAt.none_str b t
   | _=>exact absurd (show false = true from fx) Bool.false_ne_true
 | bl a =>
   cases ry
   cases x with
   | non=>cases rx; exact SeqAt.EqAt.bool_none a
   | bl b=>cases rx; exact SeqAt.EqAt.bool_bool a b
   | int b=>obtain ⟨t,rfl⟩:=rx; exact SeqAt.EqAt.bool_int a b t
   | str b=>obtain ⟨t,rfl⟩:=rx; exact SeqAt.EqAt.bool_str a b t
   | _=>exact absurd (show false = true from fx) Bool.false_ne_true
 | int a =>
   obtain ⟨t',rfl⟩:=ry
   cases x with
   | non=>cases rx; exact SeqAt.EqAt.int_none a t'
   | bl b=>cases rx; exact SeqAt.EqAt.int_bool a t' b
   | int b=>obtain ⟨t,rfl⟩:=rx; exact SeqAt.EqAt.int_int a t' b t
   | str b=>obtain ⟨t,rfl⟩:=rx; exact SeqAt.EqAt.int_str a t' b t
   | _=>exact absurd (show false = true from fx) Bool.false_ne_true
 | str a =>
   obtain ⟨t',rfl⟩:=ry
   cases x with
   | non=>cases rx; exact SeqAt.EqAt.str_none a t'
   | bl b=>cases rx; exact SeqAt.EqAt.str_bool a t' b
   | int b=>obtain ⟨t,rfl⟩:=rx; exact SeqAt.EqAt.str_int a t' b t
   | str b=>obtain ⟨t,rfl⟩:=rx; exact SeqAt.EqAt.str_str a t' b t
   | _=>exact absurd (show false = true from fx) Bool.false_ne_true
 | _=>exact absurd (show false = true from fy) Bool.false_ne_true
def eqU (x : V) (u : Value) : Bool:=match u with
 | .none=>eqV .non x
 | .bool b=>eqV (.bl b) x
 | .int i _=>eqV (.int i) x
 | .str z _=>eqV (.str z) x
 | _=>false
theorem eqU_of {x y : V} {u : Value} (r : RelV y u) (f : flatV y = true) : eqU x u = eqV y x:=by
 cases y with
 | non=>cases r; rfl
 | bl b=>cases r; rfl
 | int i=>obtain ⟨t,rfl⟩:=r; rfl
 | str z=>obtain ⟨t,rfl⟩:=r; rfl
 | _=>exact absurd (show false = true from f) Bool.false_ne_true
theorem any_eqU {x : V} : ∀ {xs : List V} {us : List Value},Vals xs us -> xs.all flatV = true -> us.any (eqU x) = xs.any λ y=>eqV y x
 | _,_,.nil,_=>rfl
 | y :: xs,u :: us,.cons r t,f=>by
   rw [List.all_cons,Bool.and_eq_true] at f
   rw [List.any_cons,List.any_cons,eqU_of r f.1,any_eqU t f.2]
theorem mem_eqAt {A : Around} {s : Shared} {x : V} {v : Value} (rx : RelV x v) (fx : flatV x = true) : ∀ {xs : List V} {us : List Value},Vals xs us -> xs.all flatV = true -> ∀ u ∈ us,SeqAt.EqAt A s u v (eqU x u)
 | _,_,.nil,_=>λ u hu=>by cases hu
 | y :: xs,u :: us,.cons r t,f=>λ u' hu=>by
   rw [List.all_cons,Bool.and_eq_true] at f
   rcases List.mem_cons.mp hu with rfl | hu
   ·rw [eqU_of r f.1]; exact eqAt_V r rx f.1 fx
   ·exact mem_eqAt rx fx t f.2 u' hu
def inV (x : V) (xs : List V) : Bool:=xs.any λ y=>eqV y x
def rIn (K : PySem.W.Frag) (neg : Bool) : R2:=λ x y H Q=>∃ p xs,y = .ref p /\ (SqL K H p xs \/ SqT K H p xs) /\ flatV x = true /\ xs.all flatV = true /\ Q (.bl (if neg then !inV x xs else inV x xs)) H
theorem op_notIn_seq : OpR X (compareOp .NotIn) (rIn X.K true):=by
 intro pins s σ H x y v u Q I rx ry h
 obtain ⟨p,xs,rfl,hq,fx,fs,q⟩:=h
 cases ry
 rcases hq with hq | hq
 ·obtain ⟨its,r,pl,hz⟩:=I.list hq
  refine SeqAt.notIn_listAt (eqU x) pl.isList (λ w hw=>mem_eqAt rx fx r fs w (by simpa using hw)) ⟨.bl _,H,I,rfl,?_⟩
  rw [show its.toArray.any (eqU x) = its.any (eqU x) by simp,any_eqU r fs]
  exact q
 ·obtain ⟨its,r,pl,hz⟩:=I.tuple hq
  refine SeqAt.notIn_tupleAt (eqU x) pl (λ w hw=>mem_eqAt rx fx r fs w (by simpa using hw)) ⟨.bl _,H,I,rfl,?_⟩
  rw [show its.toArray.any (eqU x) = its.any (eqU x) by simp,any_eqU r fs]
  exact q
theorem op_notIn_str : OpR X (compareOp .NotIn) (λ x y H Q=>∃ i j,x = .str i /\ y = .str j /\ Q (.bl (!(!(Builtin.Str.occurrences j i 0 j.length 1).isEmpty))) H):=by
 intro pins s σ H x y v u Q I rx ry h
 obtain ⟨i,j,rfl,rfl,q⟩:=h
 obtain ⟨t,rfl⟩:=rx
 obtain ⟨t',rfl⟩:=ry
 exact notIn_str ⟨.bl _,H,I,rfl,q⟩
theorem CallR.or {f : Value} {r r' : List V -> Hp -> VK -> Prop} (h : CallR X f r) (h' : CallR X f r') : CallR X f (λ xs H Q=>r xs H Q \/ r' xs H Q):=by
 intro pins s σ H xs us Q I rs q
 rcases q with q | q
 ·exact h pins s σ H xs us Q I rs q
 ·exact h' pins s σ H xs us Q I rs q
theorem call_list_of : CallR X (.type "list") (λ xs H Q=>∃ p ys,xs = [.ref p] /\ (SqL X.K H p ys \/ SqT X.K H p ys) /\ ∀ l,H l = none -> Q (.ref l) (upd H l (.lst ys))):=by
 intro pins s σ H xs us Q I r h
 obtain ⟨p,ys,rfl,hq,q⟩:=h
 obtain ⟨u,rfl,rx⟩:=vals1 r
 cases rx
 have fin : ∀ (its : List Value),Vals ys its -> ys.length <= sizeLine -> ∀ (h' : Heap) (c' : Nat),(∀ b o',s.heap.get? b = some o' -> h'.get? b = some o') ->
  h'.get? s.heap.objs.size = some { cls:=.type "list",dict:=none,data:=.seq its.toArray c',slots:=#[] } -> EP X pins σ Q (.ref s.heap.objs.size) { s with heap:=h' }:=λ its r' hz h' c' kp e =>
  ⟨.ref s.heap.objs.size,_,I.laid (t':=s.toks) kp (Nat.le_refl _) (show ObjOk X.prog X.w _ h' _ (.lst ys) from ⟨hz,its,c',r',e⟩),rfl,q _ (I.hok.fresh (Nat.le_refl _))⟩
 rcases hq with hq | hq
 ·obtain ⟨its,r',pl,hz⟩:=I.list hq
  have hlen:=r'.length
  obtain ⟨o,ho,hc,n,hd⟩:=pl.isList
  exact call_list_seq p (.inl rfl) ho hc hd (λ h' c' kp e=>fin its r' hz h' c' kp e) (by simp only [List.size_toArray] <;> omega)
 ·obtain ⟨its,r',pl,hz⟩:=I.tuple hq
  have hlen:=r'.length
  obtain ⟨o,ho,hc,n,hd⟩:=pl
  exact call_list_seq p (.inr rfl) ho hc hd (λ h' c' kp e=>fin its r' hz h' c' kp e) (by simp only [List.size_toArray] <;> omega)
def tyV (K : PySem.W.Frag) (T : String) (x : V) (H : Hp) : Prop:=match x with
 | .str _=>T = "str"
 | .int _=>T = "int"
 | .ref p=>(T = "list" /\ ∃ xs,SqL K H p xs) \/ (T = "tuple" /\ ∃ o,K.lookup p = some o /\ o.cls = .type "tuple" /\ o.dict = none) \/
  (T = "dict" /\ ((∃ kvs,H p = some (.dK kvs)) \/ ∃ kvs,H p = some (.dT kvs))) \/ (T = "set" /\ ∃ S n,H p = some (.set S n))
 | _=>False
theorem tyV_is {pins : List (Addr × Obj)} {σ : St} {H : Hp} {s : Shared} {T : String} {x : V} {v : Value} (I : Inv X pins σ H s) (r : RelV x v) (ty : tyV X.K T x H) :
 s.TypeIs v T /\ ∀ a,v = .ref a -> ∃ ob,s.heap.get? a = some ob /\ ob.dict = none:=by
 cases x with
 | str z =>
   obtain ⟨t,rfl⟩:=r
   cases (show T = "str" from ty)
   exact ⟨typeIs_str s z t,λ _ e=>nomatch e⟩
 | int i =>
   obtain ⟨t,rfl⟩:=r
   cases (show T = "int" from ty)
   exact ⟨typeIs_int s i t,λ _ e=>nomatch e⟩
 | ref p =>
   cases r
   rcases ty with ⟨rfl,xs,hq⟩ | ⟨rfl,o,hk,hc,hd⟩ | ⟨rfl,hk⟩ | ⟨rfl,S,n,hk⟩
   ·obtain ⟨its,_,pl,_⟩:=I.list hq
    refine ⟨pl.isList.typeIs,λ a e=>?_⟩
    cases e
    obtain ⟨o,n,e,c,hd,_⟩:=pl
    exact ⟨o,e,hd⟩
   ·refine ⟨⟨o,I.kIn p o hk,hc⟩,λ a e=>?_⟩
    cases e
    exact ⟨o,I.kIn _ o hk,hd⟩
   ·have z : ∃ o,s.heap.get? p = some o /\ o.ExactDict:=by
     rcases hk with ⟨kvs,hk⟩ | ⟨kvs,hk⟩
     ·obtain ⟨_,_,_,_,o,_,_,e,ex,_⟩:=I.hok p _ hk
      exact ⟨o,e,ex⟩
     ·obtain ⟨_,_,_,_,o,_,_,e,ex,_⟩:=I.hok p _ hk
      exact ⟨o,e,ex⟩
    obtain ⟨o,e,ex⟩:=z
    refine ⟨⟨o,e,ex.1⟩,λ a e2=>?_⟩
    cases e2
    exact ⟨o,e,ex.2.1⟩
   ·obtain ⟨o,_,_,_,e,ex,_⟩:=I.hok p _ hk
    refine ⟨⟨o,e,ex.1⟩,λ a e2=>?_⟩
    cases e2
    exact ⟨o,e,ex.2.1⟩
 | _=>exact False.elim ty
def tBM (K : PySem.W.Frag) (T : String) (r : V -> List V -> Hp -> VK -> Prop) (to : TE) (t : TA) : TE:=λ σ H Q=>to σ H λ x H1=>tyV K T x H1 /\ t σ H1 λ xs H2=>r x xs H2 Q
variable {o e : Expr} {es : List Expr} {to : TE} {t : TA} {name : Str} {apos cpos : Pos} {T id : String} {r : V -> List V -> Hp -> VK -> Prop}
theorem pe_bm (pa : PlainAttrs T) (slot : Slot T name id) (hty : typeOf (.builtin id) = pure (.type "method_descriptor")) (hm : MtR X id r) (ho : PE X o to) (ha : PA X (e :: es) t)
 (hbase : attributeBase o name X.env (eval o X.env) = eval o X.env:=by rfl)
 (hfew : ((backTo cpos (starEach (e :: es) X.env)).all (λ x=>!x.1) && (backToKw cpos (keywordEach [] X.env)).all (λ x=>x.1.isSome)
  && decide ((e :: es).length + ([] : List Keyword).length + (if ([] : List Keyword).isEmpty then 0 else 1) < 30)) = true:=by rfl)
 (hline : (apos.endLine == cpos.line) = true:=by rfl) (hs : starEach (e :: es) X.env = (false,eval e X.env) :: starEach es X.env:=by rfl) (hplain : (backTo cpos (starEach es X.env)).any (·.1) = false:=by rfl) :
 PE X (.Call (.Attribute o name apos) (e :: es) [] cpos) (tBM X.K T r to t):=by
 intro pins s σ H Q I h
 refine wpAny_Call_method_late hbase hfew hline rfl (thn (ho pins s σ H _ I h) λ v s1 ⟨x,H1,I1,r1,ty,q1⟩=>?_)
 obtain ⟨h1,h2⟩:=tyV_is I1 r1 ty
 refine ⟨T,id,pa,slot,hty,h1,h2,?_⟩
 have hA:=ha cpos pins s1 σ H1 _ I1 q1
 rw [hs] at hA ⊢
 refine Calls.callWith_builtin (by show (false || (backTo cpos (starEach es X.env)).any (·.1)) = false; rw [hplain] <;> rfl) (Calls.evalArgs_plain ?_)
 exact thn hA λ us s2 ⟨vs,H2,I2,r2,q2⟩=>hm pins s2 σ H2 x vs v us Q I2 r1 r2 q2
end
end L2
namespace L2
open PySem PySem.Spec PyProof.Rows
def MtM (X : Cx) (id : String) (r : V -> List V -> Hp -> VK -> Prop) : Prop :=
 ∀ (pins : List (Addr × Obj)) (s : Shared) (σ : St) (H : Hp) (x : V) (xs : List V) (v : Value) (us : List Value) (Q : VK),Inv X pins σ H s -> RelV x v -> Vals xs us -> r x xs H Q ->
   wpAny (model X.prog X.w) X.A (call (.builtin id) (v :: us)) (EP X pins σ Q) X.xe s
theorem Vals.one : ∀ {x : V} {us : List Value},Vals [x] us -> ∃ u,us = [u] /\ RelV x u
 | _,_,.cons r .nil=>⟨_,rfl,r⟩
theorem Vals.two : ∀ {x y : V} {us : List Value},Vals [x,y] us -> ∃ u v,us = [u,v] /\ RelV x u /\ RelV y v
 | _,_,_,.cons r (.cons q .nil)=>⟨_,_,rfl,r,q⟩
theorem Vals.zero : ∀ {us : List Value},Vals [] us -> us = []
 | _,.nil=>rfl
theorem Vals.dropLast {xs : List V} {us : List Value} (h : Vals xs us) : Vals xs.dropLast us.dropLast:=by
 induction h with
 | nil=>exact .nil
 | cons r t ih =>
   cases t with
   | nil=>exact .nil
   | cons q t'=>exact .cons r ih
theorem Vals.reverse {xs : List V} {us : List Value} (h : Vals xs us) : Vals xs.reverse us.reverse:=by
 induction h with
 | nil=>exact .nil
 | cons r t ih=>rw [List.reverse_cons,List.reverse_cons]; exact Vals.append ih (.cons r .nil)
theorem Vals.rep {xs : List V} {us : List Value} (h : Vals xs us) : ∀ k : Nat,Vals (List.replicate k xs).flatten (List.replicate k us).flatten
 | 0=>.nil
 | k + 1=>by
   rw [List.replicate_succ,List.replicate_succ,List.flatten_cons,List.flatten_cons]
   exact Vals.append h (Vals.rep h k)
theorem foldl_rep (its : List Value) : ∀ (k : Nat) (acc : List Value),
 List.foldl (λ x1 x2=>x1 ++ x2) acc.toArray (List.replicate k its.toArray) = (acc ++ (List.replicate k its).flatten).toArray
 | 0,acc=>by simp
 | k + 1,acc=>by
   have e : acc.toArray ++ its.toArray = (acc ++ its).toArray:=by simp
   have e2 : (acc ++ its) ++ (List.replicate k its).flatten = acc ++ (List.replicate (k + 1) its).flatten:=by
    rw [List.replicate_succ,List.flatten_cons,List.append_assoc]
   rw [← e2,← foldl_rep its k (acc ++ its),← e,List.replicate_succ,List.foldl_cons]
section
variable {X : Cx} {pins : List (Addr × Obj)} {σ : St} {H : Hp} {s : Shared} {l b : Addr} {xs ys zs : List V}
theorem Inv.lset {its its' : List Value} {n : Nat} {f : Array Value -> Array Value} {t' : Nat} (I : Inv X pins σ H s) (hH : H l = some (.lst xs))
 (e : s.heap.get? l = some { cls:=.type "list",data:=.seq its.toArray n }) (hf : f its.toArray = its'.toArray) (hv : Vals ys its') (hz : ys.length <= sizeLine) :
 Inv X pins σ (upd H l (.lst ys)) { s with heap:=s.heap.update l (Obj.mapSeq f),toks:=t' }:=by
 have q:=PySem.IsL.update e f
 rw [hf] at q
 refine I.write (x:=l) (e:=l) (by rw [hH]; exact trivial) (.inl rfl) (λ b' u hb hu=>(Heap.get?_update_other s.heap (Obj.mapSeq f) (Ne.symm hb)).trans hu) ⟨_,q⟩ ?_
 exact ⟨hz,its',_,hv,q⟩
theorem Inv.lnew {its : List Value} {t' : Nat} (I : Inv X pins σ H s) (hv : Vals ys its) (hz : ys.length <= sizeLine) :
 Inv X pins σ (upd H s.heap.objs.size (.lst ys)) { s with heap:=s.heap.push { cls:=.type "list",data:=.seq its.toArray },toks:=t' } :=
 I.laid (λ _ _ q=>Heap.get?_push_of_some _ q) (Nat.le_refl _) ⟨hz,its,0,hv,Heap.get?_push_size _ rfl⟩
theorem Inv.fresh (I : Inv X pins σ H s) : H s.heap.objs.size = none:=I.hok.fresh (Nat.le_refl _)
theorem Inv.lstM (I : Inv X pins σ H s) (hH : H l = some (.lst xs)) : xs.length <= sizeLine /\ ∃ (its : List Value) (n : Nat),Vals xs its /\ xs.length = its.length /\ s.heap.get? l = some { cls:=.type "list",data:=.seq its.toArray n }:=by
 obtain ⟨z,its,n,r,e⟩:=I.hok l _ hH
 exact ⟨z,its,n,r,r.length,e⟩
theorem notLongL {n : Nat} (h : n <= sizeLine) : Builtin.List.listTooLong n = false:=by
 unfold Builtin.List.listTooLong
 exact decide_eq_false (by omega)
end
section
variable {X : Cx}
def rAppend : V -> List V -> Hp -> VK -> Prop:=λ x vs H Q=>∃ l xs y,x = .ref l /\ vs = [y] /\ H l = some (.lst xs) /\ xs.length < sizeLine /\ Q .non (upd H l (.lst (xs ++ [y])))
theorem mt_append : MtM X "list.append" rAppend:=by
 intro pins s σ H x vs v us Q I rx rv h
 obtain ⟨l,xs,y,rfl,rfl,hH,hz,q⟩:=h
 cases rx
 obtain ⟨u,rfl,ru⟩:=rv.one
 obtain ⟨z,its,n,r,hl,e⟩:=I.lstM hH
 refine call_meets F.slot_list_append ⟨_,e,rfl⟩ F.entry_list_append (F.args_list_append_2 _ _) (PySem.list_append l its.toArray n u (by rw [List.size_toArray]; omega)) ⟨e,?_⟩
 refine ⟨.non,_,I.lset (its':=its ++ [u]) hH e (by simp) (r.append (.cons ru .nil)) ?_,rfl,q⟩
 rw [List.length_append,List.length_singleton]
 omega
def rCat : R2:=λ x y H Q=>∃ l b xs zs,x = .ref l /\ y = .ref b /\ H l = some (.lst xs) /\ H b = some (.lst zs) /\ xs.length + zs.length <= sizeLine /\ ∀ p,H p = none -> Q (.ref p) (upd H p (.lst (xs ++ zs)))
theorem op_cat : OpR X (binaryOp .Add) rCat:=by
 intro pins s σ H x y v u Q I rx ry h
 obtain ⟨l,b,xs,zs,rfl,rfl,hH,hB,hz,q⟩:=h
 cases rx
 cases ry
 obtain ⟨z,its,n,r,hl,e⟩:=I.lstM hH
 obtain ⟨z2,its2,n2,r2,hl2,e2⟩:=I.lstM hB
 refine PySem.P.add_list e e2 ?_ (by rw [List.size_toArray,List.size_toArray]; omega)
 have ea : its.toArray ++ its2.toArray = (its ++ its2).toArray:=by simp
 rw [ea]
 exact ⟨.ref _,_,I.lnew (t':=s.toks) (r.append r2) (by rw [List.length_append]; omega),rfl,q _ I.fresh⟩
def rRep : R2:=λ x y H Q=>∃ l k xs,x = .ref l /\ y = .int k /\ H l = some (.lst xs) /\ -(2 ^ 63) <= k /\ k < 2 ^ 63 /\ xs.length * k.toNat <= sizeLine /\
 ∀ p,H p = none -> Q (.ref p) (upd H p (.lst (List.replicate k.toNat xs).flatten))
theorem len_rep {α : Type} (xs : List α) (k : Nat) : (List.replicate k xs).flatten.length = k * xs.length:=by
 induction k with
 | zero=>simp
 | succ k ih=>rw [List.replicate_succ,List.flatten_cons,List.length_append,ih,Nat.succ_mul,Nat.add_comm]
theorem op_rep : OpR X (binaryOp .Mult) rRep:=by
 intro pins s σ H x y v u Q I rx ry h
 obtain ⟨l,k,xs,rfl,rfl,hH,h1,h2,hz,q⟩:=h
 cases rx
 obtain ⟨t,rfl⟩:=ry
 obtain ⟨z,its,n,r,hl,e⟩:=I.lstM hH
 have hlen : its.toArray.size * k.toNat <= sizeLine:=by rw [List.size_toArray,← hl]; exact hz
 have hcap : ¬ its.toArray.size * k.toNat > (2 ^ 63 - 1) / 8:=by
  have : (sizeLine : Nat) <= (2 ^ 63 - 1) / 8:=by decide
  omega
 have hfit : ¬ (!Builtin.List.listFitsIndex k) = true:=by
  rw [fitsIndex_both h1 h2]
  exact Bool.false_ne_true
 have hlong : ¬ Builtin.List.listTooLong (its.toArray.size * k.toNat) = true:=by
  rw [notLongL hlen]
  exact Bool.false_ne_true
 have hnew : List.foldl (λ x1 x2=>x1 ++ x2) #[] (List.replicate (if its.toArray.isEmpty = true then 0 else k.toNat) its.toArray) = (List.replicate k.toNat its).flatten.toArray:=by
  have f0 : ∀ m : Nat,List.foldl (λ x1 x2=>x1 ++ x2) #[] (List.replicate m its.toArray) = (List.replicate m its).flatten.toArray:=λ m=>by
   have:=foldl_rep its m []
   rw [List.nil_append] at this
   exact this
  rw [f0]
  cases its with
  | nil=>simp
  | cons a r'=>rw [if_neg (by simp)]
 refine wpAny_binaryOp_repeat_ref (T := "list") (U := "int") (by decide) ⟨_,e,rfl⟩ (λ s'=>typeIs_int s' k t) noFill_list_mul F.fills_int_mul F.slot_int_rmul repeat_list F.slot_int_index.lookup
  (call_meets F.slot_int_rmul (typeIs_int s k t) F.entry_int_rmul (F.args_int_rmul_2 _ _) (int___rmul___int_list k t l its.toArray n)
   ⟨e,rfl,⟨_,e,rfl⟩,call_meets F.slot_list_mul ⟨_,e,rfl⟩ F.entry_list_mul (F.args_list_mul_2 _ _) (AutoListH.list___mul___list_int_3 l its.toArray n k t hfit hcap hlong) ⟨e,?_⟩⟩)
 rw [hnew]
 exact ⟨.ref _,_,I.lnew (t':=s.toks) (r.rep k.toNat) (by rw [len_rep,Nat.mul_comm]; exact hz),rfl,q _ I.fresh⟩
end
section
variable {prog : Program} {w : World} {A : Around} {E : Value -> Shared -> Prop} {s : Shared}
end
section
variable {X : Cx}
end
end L2
namespace Att
open PySem PySem.W PySem.Calls PyProof.Rows
theorem ints_of_wellAll {P : Params} {h : Heap} : ∀ (ns : List Int) (vs : List Value),WellAll P h vs (ns.map WData.int) -> IntsAre vs ns:=by
 intro ns
 induction ns with
 | nil =>
   intro vs w
   rw [List.map_nil] at w
   cases w
   exact .nil
 | cons n ns ih =>
   intro vs w
   rw [List.map_cons] at w
   cases w with
   | cons a b =>
     cases a
     exact .cons _ _ (ih _ b)
theorem script_of {l : OpenLaw} {n : Nat} (hn : l.most = some n) {P : Params} {h : Heap} {args : List WData} {vals : List Value}
 (hpre : l.row.toRowW.claim.pre args = true) (hwl : WellAll P h vals args) :
 ∃ a vs ns,vals = [Value.ref a] /\ args = [WData.list (ns.map WData.int)] /\ h.get? a = some { cls:=.type "list",data:=.seq vs.toArray } /\ IntsAre vs ns /\ ns.length <= n:=by
 have hsh : WShape.hasAll [] args [.list .int] = true:=(pre_splitW hpre).1
 have hc : l.pre.holds [] { args:=args } = true:=(pre_splitW hpre).2
 obtain ⟨d,r,rfl,h1,h2⟩:=hasAllW_cons hsh
 obtain rfl:=hasAllW_nil h2
 obtain ⟨xs,rfl,h3⟩:=hasW_list h1
 obtain ⟨ns,rfl⟩:=items_int h3
 have hlen : ns.length <= n:=by
  unfold OpenLaw.pre at hc
  have h4 : (WTm.not (.lt (.lit (.int (n : Int))) (.len (.arg 0)))).holds [] { args:=[.list (ns.map .int)] } = true:=by
   have h4:=(holds_andW hc).1
   rw [hn] at h4
   exact h4
  have h5:=condW_of h4 (w_not (w_lt w_lit (w_len_list (w_arg rfl))))
  rw [List.length_map] at h5
  refine Nat.le_of_not_lt λ q=>?_
  have q' : (n : Int) < ((ns.length : Nat) : Int):=by omega
  first
   | (rw [decide_eq_true q'] at h5; exact absurd h5 (by decide))
   | (simp at h5; omega)
 cases hwl with
 | cons w1 w2 =>
   cases w2
   cases w1 with
   | list ho hall=>exact ⟨_,_,ns,rfl,rfl,ho,ints_of_wellAll ns _ hall,hlen⟩
theorem post_true (l : OpenLaw) (args : List WData) : l.row.toRowW.claim.post args (.bool true) args = true :=
 postW_of (r:=l.row.toRowW) (X:=(true == true))
  (show WShape.has [] (.bool true) .bool = true by first | rfl | decide | simp [WShape.has,WShape.arms,WShape.armsAll])
  (show (WTm.eq .res (.lit (.bool true))).value [] { args:=args,res:=some (.bool true),after:=args } = some (.bool (true == true)) from w_eq_bool (w_res rfl) w_lit) rfl
theorem attach_call {l : OpenLaw} {n : Nat} {q : Program} {loose : List Str} {XP : (Str -> Option Value) -> Heap -> Prop} {YP : World -> Heap -> Prop} {d : DefRec}
 (hn : l.most = some n) (hdf : d.params.defaults = [])
 (call : ∀ (w : World) (s₀ s₁ : Shared) (mg mb : Str -> Option Value) (fa : Addr) (o : Obj) (pm cd doc : Value) (a : Addr) (vs : List Value) (ns : List Int),
  Ground q loose [] XP w s₀ mg mb s₁.heap -> YP w s₁.heap ->
  s₁.heap.get? fa = some o -> o.data = .func (docDef d.name d.params d.body d.scope pm cd doc) -> s₁.heap.CodeRec cd d.name -> mg d.name = some (.ref fa) ->
  s₁.heap.get? a = some { cls:=.type "list",data:=.seq vs.toArray } -> IntsAre vs ns -> ns.length <= n -> s₁.gens = #[] ->
  codeAny (model l.prog w) callerA (.call (.ref fa) ⟨[.ref a],[]⟩) (λ r s'=>r = .ok (.ret (.bool true)) /\ OldK s₁.heap s'.heap /\ s'.os = s₁.os /\ AllBare s'.gens) s₁) :
 WalkO q loose XP YP l.row.toRowW d [] (λ f vs=>PySem.call f vs):=by
 intro w s₀ s₁ mg mb G Y fa o pm cd doc dV kV ho hd hcd hD hmg hg args vals as hpre hlay hrd hwl hlo
 obtain rfl : dV = .none:=Dflts.none hD hdf
 obtain rfl : kV = .none:=Dflts.noKw hD
 obtain ⟨a,vs,ns,rfl,rfl,hobj,hints,hlen⟩:=script_of hn hpre hwl
 refine enter_call (codeAny_mono (call w s₀ s₁ mg mb fa o pm cd doc a vs ns G Y ho (fd_plain hd) hcd hmg hobj hints hlen hg) λ r s' hq=>?_)
 obtain ⟨rfl,h2,h3,h4⟩:=hq
 exact ⟨.inl ⟨.bool true,.bool true,[],rfl,λ _=>rfl,.bool true,post_true l _,λ _=>⟨List.Pairwise.nil,λ _ hm=>(nomatch hm)⟩⟩,h2,h3,h4⟩
section
variable {prog : Program} {w : World} {A : Around} {E : Value -> Shared -> Prop} {s : Shared} {K : Frag}
def ledger (h : Heap) (L d : Addr) : List (Addr × Obj):=(List.range h.objs.size).filterMap λ a=>if a = L \/ a = d then none else (h.get? a).map λ o=>(a,o)
end
end Att
namespace L2
open PySem PySem.Spec PyProof.Rows
theorem vals_ints : ∀ {vs : List Value} {ns : List Int},IntsAre vs ns -> Vals (ns.map V.int) vs
 | _,_,.nil=>.nil
 | _,_,.cons n t h=>.cons ⟨t,rfl⟩ (vals_ints h)
def Only (H : Hp) : Prop:=∀ b,H b = none \/ ∃ o xs,H b = some (.frz o (.lst xs))
theorem law_call {P : Program} {w : World} {K : PySem.W.Frag} {mg mb : Str -> Option Value} {CX : CXT} {k : Nat} {fa a : Addr} {fd : FuncData} {x : Str} {sp : Sp} {s₁ : Shared} {vs : List Value} {ns : List Int}
 (KX : K.In s₁.heap) (hns : s₁.heap.Ns mainGlobals mg) (hb : s₁.heap.Ns builtinsNs mb) (hbb : ∀ x : Str,x ≠ "__name__" -> mb x = bootBuiltins x) (hlim : s₁.heap.NoLimit) (hg : s₁.gens = #[])
 (ha : s₁.heap.get? a = some { cls:=.type "list",data:=.seq vs.toArray }) (hi : IntsAre vs ns) (hl : ns.length <= sizeLine) (hr : Room k callerA)
 (F : ∀ base : Heap,K.In base -> base.Ns mainGlobals mg -> FnOk P w K mg base CX k fa fd [x] sp) (hbind : ∀ (s : Shared) (u : Value),BindsTo s fd ⟨[u],[]⟩ [(x,u)])
 (hsp : ∀ H : Hp,Only H -> SqL K H a (ns.map V.int) -> sp [.ref a] H (λ v _=>v = .bl true) λ _ _ _=>False)
 (hCX : ∀ H e s',CX [] H s₁ (λ _ _ _=>False) e s' -> False) :
 codeAny (model P w) callerA (.call (.ref fa) ⟨[.ref a],[]⟩) (λ r s'=>r = .ok (.ret (.bool true)) /\ OldK s₁.heap s'.heap /\ s'.os = s₁.os /\ AllBare s'.gens) s₁:=by
 have rv:=vals_ints hi
 have lenV:=hi.length
 have core : ∀ H : Hp,Only H -> SqL K H a (ns.map V.int) -> HOk P w H s₁.heap -> (∀ b,H b ≠ none -> b = a) -> (H a ≠ none -> K.lookup a = none) ->
  codeAny (model P w) callerA (.call (.ref fa) ⟨[.ref a],[]⟩) (λ r s'=>r = .ok (.ret (.bool true)) /\ OldK s₁.heap s'.heap /\ s'.os = s₁.os /\ AllBare s'.gens) s₁:=by
  intro H hO hS hok hA hK
  have base_of : ∀ {b : Addr} {o : Obj},s₁.heap.get? b = some o -> H b = none -> (hidT s₁.heap H).get? b = some o:=λ e n=>hidT_get e n
  have noA : ∀ {b : Addr} {o : Obj} {es : Array DictEntry} {ep : Nat},s₁.heap.get? b = some o -> o.data = .dict es ep -> H b = none:=λ {b o es ep} e d=>by
   cases q : H b with
   | none=>rfl
   | some u =>
     have e' : b = a:=hA b (by rw [q]; simp)
     subst e'
     rw [ha] at e; cases e
     have d' : Data.seq vs.toArray _ = Data.dict es ep:=d
     cases d'
  have nsK : ∀ {b : Addr} {m : Str -> Option Value},s₁.heap.Ns b m -> (hidT s₁.heap H).Ns b m:=λ {b m} ⟨o,es,ep,e,d,r⟩=>⟨o,es,ep,base_of e (noA e d),d,r⟩
  have hKb : K.In (hidT s₁.heap H):=λ b o e=>base_of (KX b o e) (by
   cases q : H b with
   | none=>rfl
   | some u =>
     have e' : b = a:=hA b (by rw [q]; simp)
     subst e'
     rw [hK (by rw [q]; simp)] at e; cases e)
  have hM : Mod K mg (hidT s₁.heap H):=⟨hKb,nsK hns,⟨mb,nsK hb,hbb⟩,let ⟨mc,h1,h2⟩:=hlim; ⟨mc,nsK h1,h2⟩⟩
  have e0 : Env0 P w K mg (hidT s₁.heap H) callerA [] s₁ H:=⟨rfl,hM,λ b o e=>of_hidT e,Nat.le_of_eq (hidT_size _ _),trivial,λ b hb=>absurd (show b ∈ ([] : List Addr) from hb) (by simp),hok,.of_eq hg⟩
  refine codeAny_mono ((F _ hKb (nsK hns)).run callerA [] s₁ H ⟨[.ref a],[]⟩ [.ref a] [.ref a] _ _ hr e0 (hbind s₁ (.ref a)) (.cons rfl .nil) (hsp H hO hS)) λ r s' h=>?_
  cases r with
  | error e=>exact (hCX H e s' h).elim
  | ok fl =>
    cases fl with
    | next=>exact False.elim h
    | brk=>exact False.elim h
    | cont=>exact False.elim h
    | ret u =>
      obtain ⟨v,H',os,bare,un,hok',r',q⟩:=h
      have q' : v = .bl true:=q
      subst q'
      obtain rfl : u = Value.bool true:=r'
      refine ⟨rfl,OldK.of_keep λ b o e=>?_,os,bare⟩
      cases q : H b with
      | none=>exact un.keep b o e q (by intro z; exact absurd (show b ∈ ([] : List Addr) from z) (by simp)) (by simp)
      | some u =>
        rcases hO b with z | ⟨ob,xs,z⟩
        ·rw [q] at z; cases z
        ·have z2:=un.frzs b ob _ z
         obtain ⟨e1,_⟩:=hok b _ z
         obtain ⟨e2,_⟩:=hok' b _ z2
         rw [e] at e1; cases e1
         exact e2
 cases hk : K.lookup a with
 | some o =>
   have e:=KX a o hk
   rw [ha] at e
   cases e
   refine core (λ _=>none) (λ _=>.inl rfl) (.inr ⟨_,vs.toArray,_,hk,rfl,rfl,rfl,by rw [List.size_toArray,lenV]; exact hl,by simpa using rv⟩) (λ b u z=>by have z' : (none : Option HO) = some u:=z; cases z') (λ b z=>absurd rfl z) λ z=>absurd rfl z
 | none =>
   refine core (λ b=>if b = a then some (.frz { cls:=.type "list",data:=.seq vs.toArray } (.lst (ns.map V.int))) else none) (λ b=>?_) (.inl (.inr ⟨{ cls:=.type "list",data:=.seq vs.toArray },if_pos rfl⟩)) (λ b u z=>?_) (λ b z=>?_) λ _=>hk
   ·by_cases hb : b = a
    ·exact .inr ⟨_,_,if_pos hb⟩
    ·exact .inl (if_neg hb)
   ·by_cases hb : b = a
    ·have z':=(if_pos hb).symm.trans z
     cases z'
     subst hb
     exact ⟨ha,by rw [List.length_map]; exact hl,vs,_,rv,ha⟩
    ·have z':=(if_neg hb).symm.trans z
     cases z'
   ·by_cases hb : b = a
    ·exact hb
    ·exact absurd (if_neg hb) z
end L2
namespace L2
open PySem PySem.Spec PyProof.Rows
abbrev KOf {K : PySem.W.Frag} {h : Heap} (_ : K.In h) : PySem.W.Frag:=K
theorem walk_of {l : PySem.W.OpenLaw} {n k : Nat} {q : Program} {loose : List Str} {XP : (Str -> Option Value) -> Heap -> Prop} {YP : World -> Heap -> Prop} {d : DefRec} {K : Params -> PySem.W.Frag} {CX : World -> CXT} {sp : World -> Sp} {x : Str}
 (hn : l.most = some n) (hn2 : n <= sizeLine) (hdf : d.params.defaults = []) (hr : Room k callerA)
 (hY : ∀ (w : World) (h : Heap),YP w h -> (K w.params).In h)
 (F : ∀ (w : World) (mg : Str -> Option Value) (fa : Addr) (h : Heap),(K w.params).In h -> h.Ns mainGlobals mg -> mg d.name = some (.ref fa) ->
  ∃ fd : FuncData,(∀ (s : Shared) (u : Value),BindsTo s fd ⟨[u],[]⟩ [(x,u)]) /\
    ∀ base : Heap,(K w.params).In base -> base.Ns mainGlobals mg -> FnOk l.prog w (K w.params) mg base (CX w) k fa fd [x] (sp w))
 (hsp : ∀ (w : World) (H : Hp) (a : Addr) (ns : List Int),ns.length <= n -> Only H -> SqL (K w.params) H a (ns.map V.int) -> sp w [.ref a] H (λ v _=>v = .bl true) λ _ _ _=>False)
 (hCX : ∀ (w : World) (H : Hp) (s : Shared) (e : Value) (s' : Shared),CX w [] H s (λ _ _ _=>False) e s' -> False) :
 PySem.W.WalkO q loose XP YP l.row.toRowW d [] (λ f vs=>PySem.call f vs):=by
 refine Att.attach_call hn hdf λ w s₀ s₁ mg mb fa o pm cd doc a vs ns G Y ho hd hcd hmg hobj hints hlen hg=>?_
 have KX:=hY w _ Y
 obtain ⟨fd,hb,hF⟩:=F w mg fa _ KX G.T.g hmg
 exact law_call KX G.T.g G.T.b G.T.builtins G.T.nolimit hg hobj hints (Nat.le_trans hlen hn2) hr hF hb (λ H hO hS=>hsp w H a ns hlen hO hS) λ H e s'=>hCX w H s₁ e s'
end L2
namespace L2
open PySem PySem.Spec PyProof.Rows
def inClass (s : Stmt) (j : Nat) : Stmt:=match s with
 | .ClassDef _ _ _ body _ _ _ _ _ _ _=>body.getD j (.Pass ⟨0,0,0,0⟩)
 | _=>.Pass ⟨0,0,0,0⟩
def defArgs (s : Stmt) : Arguments:=match s with
 | .FunctionDef _ a _ _ _ _ _ _ _ _=>a
 | _=>{ posonlyargs:=[],args:=[],vararg:=none,kwonlyargs:=[],kw_defaults:=[],kwarg:=none,defaults:=[] }
def defBody (s : Stmt) : List Stmt:=match s with
 | .FunctionDef _ _ b _ _ _ _ _ _ _=>b
 | _=>[]
def defScope (s : Stmt) : Scope:=match s with
 | .FunctionDef _ _ _ _ _ _ sc _ _ _=>sc
 | _=>{ kind:=.function,names:=[],isGenerator:=false,isCoroutine:=false }
abbrev CX0 : CXT:=λ _ _ _ _ _ _=>False
abbrev E0 : XK:=λ _ _ _=>False
structure Fun (K : PySem.W.Frag) (x qual : Str) (st : Stmt) (f : Addr) (fd : FuncData) : Prop where
 ex : ∃ (oc : Value) (od : Option Addr) (kV doc pm : Value) (an : Option Addr) (cdv ct : Value) (osl : Array (Option Value)),
  fd = PySem.W.fnOf x qual (defArgs st) (defBody st) (defScope st) .none kV doc pm an cdv ct /\ K.lookup f = some ⟨oc,od,.func fd,osl⟩ /\ PySem.W.codeIn K cdv qual = true
 kp : PySem.W.keepIn K (.ref f) = true
section
variable {P : Program} {w : World} {K : PySem.W.Frag} {mg : Str -> Option Value} {base : Heap}
theorem Fun.ok {x qual : Str} {st : Stmt} {f : Addr} {fd : FuncData} {N ps : List Str} {k : Nat} {sp : Sp} (F : Fun K x qual st f fd) (S : FnScope N ps (defScope st)) (len : ∀ vs H Q E,sp vs H Q E -> vs.length = ps.length)
 (hbody : ∀ (cdv : Value) (A : Around) (outer : List Env) (s : Shared) (H : Hp) (vs : List V) (Q : VK) (E : XK),Room k (A.deeper (envOfC qual (defScope st) s.heap.objs.size f cdv)) -> sp vs H Q E ->
  ∃ t,PSs (cxOf CX0 P w K mg base N qual (defScope st) f cdv A outer s H E).nox (defBody st) t /\ t { nx:=λ _ H'=>Q .non H',rt:=Q } (start N vs) H) : FnOk P w K mg base CX0 (k + 1) f fd ps sp:=by
 obtain ⟨oc,od,kV,doc,pm,an,cdv,ct,osl,rfl,lk,hcd⟩:=F.ex
 refine fn_of lk hcd S len λ A outer s H vs Q E hr hsp=>?_
 obtain ⟨t,h,q⟩:=hbody cdv A outer s H vs Q E hr hsp
 exact ⟨t,h.nox,q⟩
theorem Fun.binds {x qual : Str} {st : Stmt} {f : Addr} {fd : FuncData} {ps : List Str} (F : Fun K x qual st f fd)
 (h : ∀ (kV doc pm : Value) (an : Option Addr) (cdv ct : Value) (us : List Value),us.length = ps.length -> bindArgs (PySem.W.fnOf x qual (defArgs st) (defBody st) (defScope st) .none kV doc pm an cdv ct) ⟨us,[]⟩ = pure (ps.zip us)) : Binds K fd ps []:=by
 obtain ⟨oc,od,kV,doc,pm,an,cdv,ct,osl,rfl,lk,hcd⟩:=F.ex
 exact .all (h kV doc pm an cdv ct)
theorem fun_mk {x qual : Str} {st : Stmt} {f : Addr} {oc : Value} {od an : Option Addr} {osl : Array (Option Value)} {kV doc pm cdv ct : Value} (l : K.lookup f = some ⟨oc,od,.func (PySem.W.fnOf x qual (defArgs st) (defBody st) (defScope st) .none kV doc pm an cdv ct),osl⟩)
 (c : PySem.W.codeIn K cdv qual = true) (k : PySem.W.keepIn K (.ref f) = true) : Fun K x qual st f (PySem.W.fnOf x qual (defArgs st) (defBody st) (defScope st) .none kV doc pm an cdv ct):=⟨⟨oc,od,kV,doc,pm,an,cdv,ct,osl,rfl,l,c⟩,k⟩
end
theorem hu_of {A : Around} {k : Nat} (hr : Room k A) : A.units + 1 < cLine:=Nat.lt_of_le_of_lt (Nat.add_le_add_left (by decide : 1 <= 64) _) hr.units
section
variable {X : Cx}
theorem pv (i : Nat) {x : Str} {pos : Pos} (hN : X.N[i]? = some x:=by rfl) (hv : Vis X.env.scope x:=by first | exact Or.inl rfl | exact Or.inr (Or.inl rfl) | exact Or.inr (Or.inr rfl)) (hd : (x == ("__debug__" : Str)) = false:=by decide)
 (hcd : (x == ("__classdict__" : Str)) = false:=by decide) : PE X (.Name x pos) (tVar i):=pe_var hN hv hd hcd
end
theorem iteF {A B : Prop} (h : B) : if false = true then A else B:=by
 rw [if_neg Bool.false_ne_true]
 exact h
theorem iteT {A B : Prop} (h : A) : if true = true then A else B:=by
 rw [if_pos rfl]
 exact h
theorem ite2 {c A B : Prop} [Decidable c] (h1 : c -> A) (h2 : ¬ c -> B) : if c then A else B:=by
 by_cases h : c
 ·rw [if_pos h]
  exact h1 h
 ·rw [if_neg h]
  exact h2 h
def Same (H H' : Hp) : Prop:=∀ b o,H b = some o -> H' b = some o
theorem Same.refl (H : Hp) : Same H H:=λ _ _ h=>h
theorem Same.trans {H H1 H2 : Hp} (a : Same H H1) (b : Same H1 H2) : Same H H2:=λ c o h=>b c o (a c o h)
theorem Same.free {H H' : Hp} (e : Same H H') {l : Addr} (h : H' l = Option.none) : H l = Option.none:=by
 cases q : H l with
 | none=>rfl
 | some o =>
   rw [e l o q] at h
   cases h
theorem Same.seq {K : PySem.W.Frag} {H H' : Hp} {a : Addr} {xs : List V} (e : Same H H') (h : SqL K H a xs) : SqL K H' a xs:=by
 rcases h with (h | ⟨o,h⟩) | h
 ·exact .inl (.inl (e _ _ h))
 ·exact .inl (.inr ⟨o,e _ _ h⟩)
 ·exact .inr h
end L2
namespace XT
open PySem PySem.W PyProof.Rows PySem.Calls
section
variable {prog : Program} {w : World} {A : Around} {E : Value -> Shared -> Prop} {h : Heap} {g : Array GenState} {d : Drawn} {t : Nat} {os : OsState} {a : Addr} {o : Obj} {K : Frag} {C : Addr}
theorem lookup_K {M : Model} {n : Str} {y : Option Value} {Q : Option Value -> Shared -> Prop} (X : K.In h) (e : findIn K (.ref C) n = some y) (hq : Q y ⟨h,g,d,t,os⟩) : wpAny M A (typeLookup (.ref C) n) Q E ⟨h,g,d,t,os⟩ :=
 (looks_findIn (M:=M) X e).here hq
theorem sub_K {M : Model} {b : Value} {y : Bool} {Q : Bool -> Shared -> Prop} (X : K.In h) (e : mroIn K C b = some y) (hq : Q y ⟨h,g,d,t,os⟩) : wpAny M A (isSubtype (.ref C) b) Q E ⟨h,g,d,t,os⟩ :=
 (looks_mroIn (M:=M) X e).here hq
structure ExcK (K : Frag) (C : Addr) : Prop where
 ga : findIn K (.ref C) "__getattribute__" = some (some (.builtin "BaseException.__getattribute__"))
 gt : findIn K (.ref C) "__getattr__" = some none
 cl : findIn K (.ref C) "__class__" = some (some (.builtin "object.__class__"))
 ob : mroIn K C (.type "object") = some true
 be : mroIn K C (.type "BaseException") = some true
 cs : (clsIn K C).isSome = true
theorem cls_get (X : K.In h) (Z : ExcK K C) (hx : h.get? a = some o) (hc : o.cls = .ref C) {R : Result -> Shared -> Prop} (hq : R (.ok (.ret (.ref C))) ⟨h,g,d,t,os⟩) :
 codeAny (model prog w) A (.call (.builtin "getset_descriptor.__get__") ⟨[.builtin "object.__class__",.ref a,.ref C],[]⟩) R ⟨h,g,d,t,os⟩:=by
 have hT5 : (⟨h,g,d,t,os⟩ : Shared).TypeIs (.builtin "object.__class__") "getset_descriptor":=F.typeOf_object_class
 refine codeAny_call_builtin F.slot_gs_get.plain F.entry_gs_get (F.slot_gs_get.check _ _ _ _ _ _ _ _ hT5 (F.args_gs_get _ _ _) ?_)
 have hob : mroIn K C (.type (".".intercalate ("object.__class__".cutAt '.').dropLast)) = some true:=by rw [F.owner_object_class]; exact Z.ob
 repeat (any_goals (first | assumption | (with_reducible refine wpAny_loadPart_at hx ?_; rw [hc]) | with_reducible refine sub_K X hob ?_ | wp_step))
 refine ⟨Code.quiet_builtin _ (by decide +kernel),codeAny_builtin F.entry_object_class ?_⟩
 unfold Builtin.«object.__class__» shownTypeOf
 repeat (any_goals (first | assumption | (with_reducible refine wpAny_loadPart_at hx ?_; rw [hc]) | wp_step))
theorem cls_entry {tk : Tok} {Q : Fin -> Shared -> Prop} (X : K.In h) (Z : ExcK K C) (hx : h.get? a = some o) (hc : o.cls = .ref C) (hq : Q (.done (.ret (.ref C))) ⟨h,g,d,t,os⟩) :
 wpAny (model prog w) A (Builtin.«object.__getattribute__» ⟨[.ref a,.str "__class__" tk],[]⟩) Q E ⟨h,g,d,t,os⟩:=by
 have hT5 : (⟨h,g,d,t,os⟩ : Shared).TypeIs (.builtin "object.__class__") "getset_descriptor":=F.typeOf_object_class
 have f5:=F.typeOf_object_class
 have f6:=F.slot_gs_get.lookup
 have f7:=F.slot_gs_set.lookup
 repeat (any_goals (first | assumption | (with_reducible refine wpAny_loadPart_at hx ?_; rw [hc]) | with_reducible refine lookup_K X Z.cl ?_ | wp_step))
 refine cls_get X Z hx hc ?_
 repeat (any_goals (first | assumption | wp_step))
theorem cls_check {M : Model} {nameV : Value} {Q : Unit -> Shared -> Prop} (X : K.In h) (Z : ExcK K C) (hx : h.get? a = some o) (hc : o.cls = .ref C) (hq : Q () ⟨h,g,d,t,os⟩) :
 wpAny M A (checkBuiltinCall "BaseException.__getattribute__" ⟨[.ref a,nameV],[]⟩) Q E ⟨h,g,d,t,os⟩:=by
 have hk : builtinKind "BaseException.__getattribute__" = some .slot:=by decide +kernel
 have hsplit : splitId "BaseException.__getattribute__" = some ("BaseException", "__getattribute__"):=by decide +kernel
 have ha:=F.args_bexc_ga (.ref a) nameV
 have hbe:=Z.be
 simp only [checkBuiltinCall,hk,hsplit]
 refine wpAny_bind ?_
 ·unfold isInstance
  repeat (first | (with_reducible refine wpAny_loadPart_at hx ?_; rw [hc]) | with_reducible refine sub_K X hbe ?_ | wp_step)
  exact hq
theorem cls_call {tk : Tok} {R : Result -> Shared -> Prop} (X : K.In h) (Z : ExcK K C) (hx : h.get? a = some o) (hc : o.cls = .ref C) (hq : R (.ok (.ret (.ref C))) ⟨h,g,d,t,os⟩) :
 codeAny (model prog w) A (.call (.builtin "BaseException.__getattribute__") ⟨[.ref a,.str "__class__" tk],[]⟩) R ⟨h,g,d,t,os⟩ :=
 codeAny_call_builtin PySem.F.attr_ValueError.ga.plain F.entry_bexc_ga (cls_check X Z hx hc (cls_entry X Z hx hc hq))
theorem cls_by {tk : Tok} {fill expr : Bool} {Q : Value -> Shared -> Prop} (X : K.In h) (Z : ExcK K C) (hx : h.get? a = some o) (hc : o.cls = .ref C) (hq : Q (.ref C) ⟨h,g,d,t,os⟩) :
 wpAny (model prog w) A (getAttrBy (.ref a) (.str "__class__" tk) fill expr) Q E ⟨h,g,d,t,os⟩:=by
 have f3:=PySem.F.attr_ValueError.ga.bind (.ref a)
 have hx0 : (expr && onTheHeap (Value.builtin "BaseException.__getattribute__")) = false:=by cases expr <;> rfl
 have hx2 : (Value.builtin "BaseException.__getattribute__" == Value.builtin "object.__getattribute__") = false:=by decide +kernel
 have hx1 : (onTheHeap (Value.ref C) && Value.builtin "BaseException.__getattribute__" == Value.builtin "object.__getattribute__") = false:=by rw [hx2]; rfl
 repeat (any_goals (first | assumption | (with_reducible refine wpAny_loadPart_at hx ?_; rw [hc]) | with_reducible refine lookup_K X Z.ga ?_ | with_reducible refine lookup_K X Z.gt ?_ | wp_step))
 refine cls_call X Z hx hc ?_
 repeat (any_goals (first | assumption | wp_step))
theorem cls_attr {Q : Option Value -> Shared -> Prop} (X : K.In h) (Z : ExcK K C) (hx : h.get? a = some o) (hc : o.cls = .ref C) (hq : Q (some (.ref C)) ⟨h,g,d,t + 1,os⟩) : wpAny (model prog w) A (getAttr? (.ref a) "__class__") Q E ⟨h,g,d,t,os⟩:=by
 unfold getAttr? getAttrBy?
 repeat (any_goals (first | assumption | with_reducible apply cls_by X Z hx hc | wp_step))
end
def ExcAt (a C : Addr) (h : Heap) : Prop:=∃ o,h.get? a = some o /\ o.cls = .ref C
theorem kitx_exc {K : Frag} {a C : Addr} (Z : ExcK K C) : KitX K (.ref a) (.ref C) (ExcAt a C) where
 ty:=λ _ _ _ ⟨o,h1,h2⟩=>h2 ▸ (Looks.ld h1).andThen .now
 it:=λ _ _ X _=>by
  have z0:=Z.cs
  unfold clsIn at z0
  split at z0
  ·rename_i c' d' cd' sl' ho
   intro A' Q' E' s' k q
   unfold isType loadHead
   exact wpAny_bind (wpAny_loadPart (k _ _ (X _ _ ho)) (wpAny_pure q))
  ·cases z0
 ne:=λ h tp dd its n sl X htp=>by
  refine Bool.eq_false_iff.mpr λ q=>?_
  have e : C = tp:=Value.ref.inj (beq_iff_eq.mp q)
  subst e
  have z0:=Z.cs
  unfold clsIn at z0
  split at z0
  ·rename_i c' d' cd' sl' ho
   have z:=(X _ _ ho).symm.trans htp
   cases z
  ·cases z0
 ca:=λ {_ _ _ _ _ s} X ⟨o,h1,h2⟩ k=>by
  obtain ⟨hh,g,d,t,os⟩:=s
  exact cls_attr X Z h1 h2 k
end XT
set_option maxHeartbeats 4000000
namespace L2
open PySem PySem.Spec PyProof.Rows
theorem ObjOk.there {P : Program} {w : World} {H : Hp} {h : Heap} {a : Addr} {o : HO} (x : ObjOk P w H h a o) : ∃ u,h.get? a = some u:=by
 cases o with
 | lst xs=>obtain ⟨_,_,_,_,e⟩:=x; exact ⟨_,e⟩
 | tup xs=>obtain ⟨_,_,_,p⟩:=x; obtain ⟨u,e,_⟩:=p; exact ⟨u,e⟩
 | dK kvs=>obtain ⟨_,_,_,_,o,_,_,e,_⟩:=x; exact ⟨_,e⟩
 | dT kvs=>obtain ⟨_,_,_,_,o,_,_,e,_⟩:=x; exact ⟨_,e⟩
 | set S n=>obtain ⟨o,_,_,_,e,_⟩:=x; exact ⟨_,e⟩
 | ins C dx fs=>obtain ⟨_,_,_,e,_⟩:=x; exact ⟨_,e⟩
 | own y=>exact x
 | xd fs=>obtain ⟨_,⟨_,_,_,e,_⟩,_⟩:=x; exact ⟨_,e⟩
 | rng lo hi=>obtain ⟨_,_,_,e⟩:=x; exact ⟨_,e⟩
 | frz ob u=>obtain ⟨e,_⟩:=x; exact ⟨_,e⟩
 | tbl ps=>exact ⟨_,(show h.get? a = some _ from x)⟩
 | met f y=>exact ⟨_,(show h.get? a = some _ from x)⟩
 | ext φ=>obtain ⟨_,e,_⟩:=x; exact e
theorem HOk.trkd {P : Program} {w : World} {H : Hp} {h h' : Heap} (x : HOk P w H h) (k : ∀ b u o,H b = some o -> h.get? b = some u -> h'.get? b = some u) : HOk P w H h':=λ a o e =>
 (x a o e).stay (λ b u hb q=>by
  rcases hb with rfl | hb
  ·exact k b u o e q
  ·exact k b u _ hb q) (λ _ q=>q) λ _ _ q=>q
theorem HOk.gone {P : Program} {w : World} {H : Hp} {h : Heap} {a : Addr} (x : HOk P w H h) (e : h.get? a = none) : H a = none:=by
 cases q : H a with
 | none=>rfl
 | some u=>obtain ⟨v,hv⟩:=(x a u q).there; rw [e] at hv; cases hv
structure Fly (P : Program) (w : World) (outer : List Env) (H : Hp) (s : Shared) (a : Addr) (C : Value) (H' : Hp) (s' : Shared) : Prop where
 os : s'.os = s.os
 bare : AllBare s'.gens
 un : Un (frs outer) [] H H' s.heap s'.heap
 hok : HOk P w H' s'.heap
 new : s.heap.get? a = none
 ex : ∃ B a0,Heap.FlyingW B outer a C a0 s'.heap /\ (∀ b o,s.heap.get? b = some o -> H b = none -> b ∉ frs outer -> B.get? b = some o) /\ (∀ b o,H' b = some o -> ∃ u,B.get? b = some u) /\
  (∀ b o,s.heap.get? b = some o -> b ∉ frs outer -> ∃ u,B.get? b = some u)
def CX1 (P : Program) (w : World) : CXT:=λ outer H s E e s'=>∃ a C H',e = .ref a /\ Fly P w outer H s a C H' s' /\ E C none H'
theorem cx1_none {P : Program} {w : World} {outer : List Env} {H : Hp} {s : Shared} {e : Value} {s' : Shared} (h : CX1 P w outer H s (λ _ _ _=>False) e s') : False:=by
 obtain ⟨_,_,_,_,_,z⟩:=h; exact z
theorem pass1 {P : Program} {w : World} {X : Cx} : Passes (CX1 P w) X E0:=λ _ _ _ _ _ _ _ h=>(cx1_none h).elim
theorem Fly.gone {P : Program} {w : World} {outer : List Env} {H H' : Hp} {s s' : Shared} {a : Addr} {C : Value} (x : Fly P w outer H s a C H' s') : H' a = none:=by
 obtain ⟨B,a0,hf,k1,k2,_⟩:=x.ex
 cases q : H' a with
 | none=>rfl
 | some u=>obtain ⟨v,hv⟩:=k2 a u q; rw [hf.2.1] at hv; cases hv
section
variable {P : Program} {w : World} {K : PySem.W.Frag} {mg : Str -> Option Value} {base : Heap} {N : List Str} {qual : Str} {scope : Scope} {f : Addr} {cd : Value} {A : Around} {outer : List Env} {s₀ : Shared} {H₀ : Hp} {E : XK}
theorem frs_own {b : Addr} : b ∈ frs (cxOf (CX1 P w) P w K mg base N qual scope f cd A outer s₀ H₀ E).stack ↔ b = s₀.heap.objs.size \/ b ∈ frs outer:=by
 show b ∈ List.filterMap _ (envOfC qual scope s₀.heap.objs.size f cd :: outer) ↔ _
 rw [List.filterMap_cons_some (show (envOfC qual scope s₀.heap.objs.size f cd).frame = some s₀.heap.objs.size from rfl),List.mem_cons]
 rfl
theorem passes1 : Passes (CX1 P w) (cxOf (CX1 P w) P w K mg base N qual scope f cd A outer s₀ H₀ E) E:=by
 intro pins σ H s e s' I h
 obtain ⟨a,C,H',rfl,x,hE⟩:=h
 obtain ⟨B,a0,hf,k1,k2,k3⟩:=x.ex
 show wpAny _ _ (leaving _ _) _ _ _
 refine wpAny_leaves_onW I.ok.frames rfl hf λ h' hf' hs=>?_
 have ne0 : ∀ b o,s₀.heap.get? b = some o -> b ∉ frs outer -> b ∉ frs (cxOf (CX1 P w) P w K mg base N qual scope f cd A outer s₀ H₀ E).stack:=λ b o e hb z=>by
  rcases frs_own.mp z with z | z
  ·exact absurd (Heap.lt_size e) (by rw [z]; exact Nat.lt_irrefl _)
  ·exact hb z
 have nox : ∀ b : Addr,b ∉ (cxOf (CX1 P w) P w K mg base N qual scope f cd A outer s₀ H₀ E).ex:=λ b z=>absurd (show b ∈ ([] : List Addr) from z) (by simp)
 have keepB : ∀ b o,s₀.heap.get? b = some o -> H₀ b = none -> b ∉ frs outer -> B.get? b = some o:=λ b o e n hb =>
  k1 b o (I.base.keep b o e n hb (nox b)) (I.base.free b o e n (nox b)) (ne0 b o e hb)
 have slotB : ∀ b o,s₀.heap.get? b = some o -> H₀ b = none -> b ∈ frs outer -> ∃ sl,h'.get? b = some { o with slots:=sl }:=λ b o e n hb=>by
  obtain ⟨sl,e1⟩:=I.base.slot b o e n hb (nox b)
  obtain ⟨sl2,e2⟩:=x.un.slot b _ e1 (I.base.free b o e n (nox b)) (frs_own.mpr (.inr hb)) (by simp)
  obtain ⟨_,o3,e3,d3⟩:=hf.2.2.1.mem (frs_own.mpr (.inr hb))
  rw [e2] at e3; cases e3
  obtain ⟨sl4,e4⟩:=hs b _ e2 d3
  exact ⟨sl4,e4⟩
 have thereB : ∀ b o,s₀.heap.get? b = some o -> b ∉ frs outer -> ∃ u,B.get? b = some u:=λ b o e hb=>by
  obtain ⟨o1,e1⟩:=I.base.there b o e (nox b)
  exact k3 b o1 e1 (ne0 b o e hb)
 refine ⟨a,C,H',rfl,⟨x.os.trans I.os,x.bare,⟨λ b o e n hb _=>hf'.1 b o (keepB b o e n hb),λ b o e n hb _=>slotB b o e n hb,λ b o e n _=>?_,λ b o e _=>?_,λ b xs e=>x.un.tups b xs (I.base.tups b xs e),
  λ b o u e=>x.un.frzs b o u (I.base.frzs b o u e),λ b ps e=>?_⟩,x.hok.trkd λ b u o e q=>?_,?_,B,a0,hf',keepB,k2,thereB⟩,hE⟩
 ·obtain ⟨o1,e1⟩:=I.base.there b o e (nox b)
  exact x.un.free b o1 e1 (I.base.free b o e n (nox b)) (by simp)
 ·by_cases hb : b ∈ frs outer
  ·obtain ⟨sl,e1⟩:=slotB b o e (I.ok.frf b hb) hb
   exact ⟨_,e1⟩
  ·obtain ⟨u,e1⟩:=thereB b o e hb
   exact ⟨u,hf'.1 b u e1⟩
 ·obtain ⟨m1,e1⟩:=I.base.tbls b ps e
  obtain ⟨m2,e2⟩:=x.un.tbls b _ e1
  exact ⟨m1 ++ m2,by rw [e2,Array.append_assoc]⟩
 ·obtain ⟨u',e'⟩:=k2 b o e
  have:=hf.1 b u' e'
  rw [q] at this; cases this
  exact hf'.1 b u e'
 ·cases q : s₀.heap.get? a with
  | none=>rfl
  | some o =>
    obtain ⟨o1,e1⟩:=I.base.there a o q (nox a)
    rw [x.new] at e1; cases e1
def Raises (X : Cx) (E : XK) : Prop:=∀ (pins : List (Addr × Obj)) (σ : St) (H : Hp) (s : Shared) (e : Addr) (C : Value) (args : List Value) (h' : Heap),Inv X pins σ H s -> Heap.MadeExcOf s.heap h' e C args -> E C none H -> X.xe (.ref e) { s with heap:=h' }
theorem raises1 : Raises (cxOf (CX1 P w) P w K mg base N qual scope f cd A outer s₀ H₀ E) E:=by
 intro pins σ H s e C args h1 I hm hE
 have F:=I.stack
 have hin : ∀ env ∈ (cxOf (CX1 P w) P w K mg base N qual scope f cd A outer s₀ H₀ E).stack,∀ b,env.frame = some b -> b ∈ frs (cxOf (CX1 P w) P w K mg base N qual scope f cd A outer s₀ H₀ E).stack:=λ env he b hb=>List.mem_filterMap.mpr ⟨env,he,hb⟩
 show wpAny _ _ (leaving _ _) _ _ _
 refine wpAny_leaves_madeW (base:=PySem.W.hideAll s.heap (frs (cxOf (CX1 P w) P w K mg base N qual scope f cd A outer s₀ H₀ E).stack)) (h:=s.heap) I.ok.frames rfl (λ b o q=>PySem.W.of_hideAll _ q) (PySem.W.funFrames_hide F hin) hm λ h' t hf' _ _ hs=>?_
 have ne0 : ∀ b o,s₀.heap.get? b = some o -> b ∉ frs outer -> b ∉ frs (cxOf (CX1 P w) P w K mg base N qual scope f cd A outer s₀ H₀ E).stack:=λ b o e hb z=>by
  rcases frs_own.mp z with z | z
  ·exact absurd (Heap.lt_size e) (by rw [z]; exact Nat.lt_irrefl _)
  ·exact hb z
 have nox : ∀ b : Addr,b ∉ (cxOf (CX1 P w) P w K mg base N qual scope f cd A outer s₀ H₀ E).ex:=λ b z=>absurd (show b ∈ ([] : List Addr) from z) (by simp)
 have keepB : ∀ b o,s₀.heap.get? b = some o -> H₀ b = none -> b ∉ frs outer -> (PySem.W.hideAll s.heap (frs (cxOf (CX1 P w) P w K mg base N qual scope f cd A outer s₀ H₀ E).stack)).get? b = some o:=λ b o e n hb =>
  PySem.W.hideAll_get _ (I.base.keep b o e n hb (nox b)) (ne0 b o e hb)
 have slotB : ∀ b o,s₀.heap.get? b = some o -> H₀ b = none -> b ∈ frs outer -> ∃ sl,h'.get? b = some { o with slots:=sl }:=λ b o e n hb=>by
  obtain ⟨sl,e1⟩:=I.base.slot b o e n hb (nox b)
  obtain ⟨_,o3,e3,d3⟩:=F.mem (frs_own.mpr (.inr hb))
  rw [e1] at e3; cases e3
  obtain ⟨sl4,e4⟩:=hs b _ (hm.keeps b _ e1) d3
  exact ⟨sl4,e4⟩
 have thereB : ∀ b o,s₀.heap.get? b = some o -> b ∉ frs outer -> ∃ u,(PySem.W.hideAll s.heap (frs (cxOf (CX1 P w) P w K mg base N qual scope f cd A outer s₀ H₀ E).stack)).get? b = some u:=λ b o e hb=>by
  obtain ⟨o1,e1⟩:=I.base.there b o e (nox b)
  exact ⟨o1,PySem.W.hideAll_get _ e1 (ne0 b o e hb)⟩
 have trk : ∀ b o u,H b = some o -> s.heap.get? b = some u -> (PySem.W.hideAll s.heap (frs (cxOf (CX1 P w) P w K mg base N qual scope f cd A outer s₀ H₀ E).stack)).get? b = some u:=λ b o u e q =>
  PySem.W.hideAll_get _ q λ z=>by rw [I.stkFree b z] at e; cases e
 refine ⟨e,C,H,rfl,⟨I.os,I.bare,⟨λ b o e n hb _=>hf'.1 b o (keepB b o e n hb),λ b o e n hb _=>slotB b o e n hb,λ b o e n _=>I.base.free b o e n (nox b),λ b o e _=>?_,I.base.tups,I.base.frzs,I.base.tbls⟩,
  I.hok.trkd λ b u o e q=>hf'.1 b u (trk b o u e q),?_,_,_,hf',keepB,λ b o q=>?_,thereB⟩,hE⟩
 ·by_cases hb : b ∈ frs outer
  ·obtain ⟨sl,e1⟩:=slotB b o e (I.ok.frf b hb) hb
   exact ⟨_,e1⟩
  ·obtain ⟨u,e1⟩:=thereB b o e hb
   exact ⟨u,hf'.1 b u e1⟩
 ·cases q : s₀.heap.get? e with
  | none=>rfl
  | some o =>
    obtain ⟨o1,e1⟩:=I.base.there e o q (nox e)
    rw [hm.new] at e1; cases e1
 ·obtain ⟨u,hu⟩:=(I.hok b o q).there
  exact ⟨u,trk b o u q hu⟩
end
def tRaise (C : Addr) (E : XK) (t : TA) : TS:=λ _ σ H=>t σ H λ vs H1=>vs.length <= sizeLine /\ E (.ref C) none H1
theorem exc_obj {K : PySem.W.Frag} {h : Heap} {C : Addr} {bmB : List Value} {newId : String} (X : K.In h) (q : PySem.W.excIn K C bmB newId = true) :
 ∃ bm N nm qn bs hdct sn sub ab col dd k0 k1 k2 k3 k5 mN,h.get? C = some (excClassObj nm qn C N bs bm hdct sn sub ab col dd k0 k1 k2 k3 k5 newId) /\ h.Ns N mN /\ mN "__init__" = none /\ OwnTail h bmB bm:=by
 unfold PySem.W.excIn at q
 split at q
 ·rename_i dd cd sl ho
  split at q
  ·rename_i C' bm k0 k1 k2 k3 n k5 hm hs
   simp only [Bool.and_eq_true,beq_iff_eq,Bool.not_eq_true'] at q
   obtain ⟨⟨⟨⟨⟨rfl,rfl⟩,hdel⟩,ht⟩,hok⟩,hni⟩:=q
   obtain ⟨nm,bs,mro,ns,qn,hd,sn,sub,ab,col,del⟩:=cd
   dsimp only at hm hdel hok hni
   subst hm hdel
   have hsl : sl = #[k0,k1,k2,k3,some (.builtin n),k5]:=by
    obtain ⟨l⟩:=sl
    simp only at hs
    rw [hs]
   subst hsl
   exact ⟨bm,ns,nm,qn,bs,hd,sn,sub,ab,col,dd,k0,k1,k2,k3,k5,_,X _ _ ho,.of_isNs (PySem.W.isNs_of_in X hok),PySem.W.nsMap_none_of_in X hok hni,PySem.W.tail_of_in X ht⟩
  ·cases q
 ·cases q
section
variable {X : Cx} {C : Addr} {x : Str} {e : Expr} {es : List Expr} {t : TA} {np cpos pos : Pos} {E : XK} {bmB : List Value} {B newId initId : String}
theorem ps_raise (hr : Raises X E) (hA : X.calm = true) (hg : Gl X x) (hm : X.mg x = some (.ref C)) (hq : PySem.W.excIn X.K C bmB newId = true) (FB : ExcBaseFacts B newId initId bmB) (ha : PA X (e :: es) t)
 (hdb : (x == ("__debug__" : Str)) = false:=by decide) (he : starEach (e :: es) X.env = (false,eval e X.env) :: starEach es X.env:=by rfl) (hpl : (backTo cpos (starEach es X.env)).any (·.1) = false:=by rfl) :
 PS X (.Raise (some (.Call (.Name x np) (e :: es) [] cpos)) none pos) (tRaise C E t):=by
 intro pins s σ H D I h
 obtain ⟨bm,N,nm,qn,bs,hdct,sn,sub,ab,col,dd,k0,k1,k2,k3,k5,mN,hC,hN,hni,T⟩:=exc_obj I.ok.mod.kin hq
 refine wpAny_Raise_call_subT (C:=C) (nm:=nm) (q:=qn) (N:=N) (bs:=bs) (bm:=bm) (hdct:=hdct) (sn:=sn) (sub:=sub) (ab:=ab) (col:=col) (dd:=dd) (k0:=k0) (k1:=k1) (k2:=k2) (k3:=k3) (k5:=k5)
  FB (mN:=mN) (T.hasType FB.hasBase) (I.ok.hd hA) (by rw [he]; show (false || (backTo cpos (starEach es X.env)).any (·.1)) = false; rw [hpl]; rfl) hni (ld_glob I hg hm ⟨rfl,?_⟩ hdb)
 have ha':=ha cpos pins s σ H _ I h
 rw [he] at ha' ⊢
 refine Calls.evalArgs_plain (thn ha' λ us s1 ⟨vs,H1,I1,r,z,hE⟩=>⟨rfl,by rw [← r.length]; exact z,I1.bk _ _ hC,hN.keeps I1.bk,T.keeps I1.bk,λ h' e' hm'=>?_⟩)
 exact hr pins σ H1 s1 e' (.ref C) us h' I1 hm' hE
end
def Cx.tryX (X : Cx) (pins : List (Addr × Obj)) (xe : Value -> Shared -> Prop) : Cx:={ X with pn:=X.pn ++ pins,xe:=xe }
def Cx.handX (X : Cx) (pins : List (Addr × Obj)) (e : Value) : Cx:={ X with A:=X.A.mark (some e),calm:=false,pn:=X.pn ++ pins,xe:=λ _ _=>False }
theorem Cx.Ok.tryX {X : Cx} (ok : X.Ok) (pins : List (Addr × Obj)) (xe : Value -> Shared -> Prop) : (X.tryX pins xe).Ok :=
 ⟨ok.mod,ok.kind,ok.glob,ok.blt,ok.above,ok.inj,ok.has,ok.cab,ok.hd,ok.frames,ok.stk,ok.exf,ok.bs,ok.bsz,ok.noex,ok.exfs,ok.funs,ok.frf⟩
theorem Cx.Ok.handX {X : Cx} (ok : X.Ok) (pins : List (Addr × Obj)) (e : Value) : (X.handX pins e).Ok :=
 ⟨ok.mod,ok.kind,ok.glob,ok.blt,ok.above,ok.inj,ok.has,ok.cab,λ z=>Bool.noConfusion (show false = true from z),ok.frames,ok.stk,ok.exf,ok.bs,ok.bsz,ok.noex,ok.exfs,ok.funs,ok.frf⟩
section
variable {X : Cx} {pins pins' : List (Addr × Obj)} {σ : St} {H H' : Hp} {s : Shared} {xe : Value -> Shared -> Prop} {ev : Value}
theorem Inv.tryX (I : Inv X pins σ H s) (xe : Value -> Shared -> Prop) : Inv (X.tryX pins xe) [] σ H s :=
 ⟨I.ok.tryX pins xe,I.os,I.bare,I.base,I.loc,I.cell,I.free,I.freeC,λ p hp=>I.pin p (by rw [List.append_nil] at hp; exact hp),I.hok,I.len⟩
theorem Inv.untry (ok : X.Ok) (I : Inv (X.tryX pins xe) pins' σ H s) : Inv X pins σ H s :=
 ⟨ok,I.os,I.bare,I.base,I.loc,I.cell,I.free,I.freeC,λ p hp=>I.pin p (List.mem_append_left _ hp),I.hok,I.len⟩
theorem Inv.handX (I : Inv X pins σ H s) (ev : Value) : Inv (X.handX pins ev) [] σ H s :=
 ⟨I.ok.handX pins ev,I.os,I.bare,I.base,I.loc,I.cell,I.free,I.freeC,λ p hp=>I.pin p (by rw [List.append_nil] at hp; exact hp),I.hok,I.len⟩
theorem Inv.unhand (ok : X.Ok) (I : Inv (X.handX pins ev) pins' σ H s) : Inv X pins σ H s :=
 ⟨ok,I.os,I.bare,I.base,I.loc,I.cell,I.free,I.freeC,λ p hp=>I.pin p (List.mem_append_left _ hp),I.hok,I.len⟩
theorem SP.untry {D : Ends} {f : Flow} {s' : Shared} (ok : X.Ok) (h : SP (X.tryX pins xe) pins' D f s') : SP X pins D f s':=by
 cases f with
 | next=>obtain ⟨σ',H',I,q⟩:=h; exact ⟨σ',H',I.untry ok,q⟩
 | brk=>obtain ⟨σ',H',I,q⟩:=h; exact ⟨σ',H',I.untry ok,q⟩
 | cont=>obtain ⟨σ',H',I,q⟩:=h; exact ⟨σ',H',I.untry ok,q⟩
 | ret u=>obtain ⟨v,σ',H',I,r,q⟩:=h; exact ⟨v,σ',H',I.untry ok,r,q⟩
theorem Inv.adopt {a : Addr} {o : HO} (J : Inv X pins σ H s) (na : H a = none) (h0 : X.s₀.heap.get? a = none) (hl : X.env.locals ≠ a) (hc : ∀ x c,X.env.cells.lookup x = some c -> c ≠ a) (hp : ∀ p ∈ X.pn ++ pins,p.1 ≠ a)
 (new : ObjOk X.prog X.w (upd H a o) s.heap a o) : Inv X pins σ (upd H a o) s:=by
 have ne : ∀ b u,H b = some u -> b ≠ a:=λ b u e z=>by rw [z,na] at e; cases e
 refine ⟨J.ok,J.os,J.bare,⟨J.base.keep,J.base.slot,λ b ob e n hx=>?_,J.base.there,λ b xs e=>?_,λ b ob u e=>?_,λ b ps e=>?_⟩,J.loc,J.cell,?_,λ x c e=>?_,λ p hq=>?_,λ b u e=>?_,J.len⟩
 ·have z : b ≠ a:=λ z=>by rw [z,h0] at e; cases e
  rw [upd_ne z]; exact J.base.free b ob e n hx
 ·have q:=J.base.tups b xs e
  rw [upd_ne (ne b _ q)]; exact q
 ·have q:=J.base.frzs b ob u e
  rw [upd_ne (ne b _ q)]; exact q
 ·obtain ⟨m,q⟩:=J.base.tbls b ps e
  exact ⟨m,by rw [upd_ne (ne b _ q)]; exact q⟩
 ·rw [upd_ne hl]; exact J.free
 ·rw [upd_ne (hc x c e)]; exact J.freeC x c e
 ·obtain ⟨e1,e2,e3⟩:=J.pin p hq
  exact ⟨e1,by rw [upd_ne (hp p hq)]; exact e2,e3⟩
 ·by_cases z : b = a
  ·subst z; rw [upd_same] at e; cases e; exact new
  ·rw [upd_ne z] at e
   exact (J.hok b u e).stay (λ c v _ q=>q) (λ c q=>by rw [upd_ne (ne c _ q)]; exact q) λ c xs q=>by rw [upd_ne (ne c _ q)]; exact q
theorem name_gone {M : Model} {A : Around} {E : Value -> Shared -> Prop} {i : Nat} {n : Str} {pos : Pos} {Q : Unit -> Shared -> Prop} (I : Inv X pins σ H s) (hN : X.N.Nodup) (hi : X.N[i]? = some n) (hk : X.env.kindOf n = some .local)
 (h : ∀ s',Inv X pins (σ.set i none) H s' -> Q () s') : wpAny M A (do bindName X.env n .none; unbindBehindTheSuite X.env n pos) Q E s:=by
 obtain ⟨m,hn,hl⟩:=id I.loc
 have hcls : (X.env.scope.kind == .class || (X.env.scope.kind == .module && X.env.locals != X.env.globals)) = false:=by rw [I.ok.kind]; rfl
 have hiσ : i < σ.length:=by rw [I.len]; exact (List.getElem?_eq_some_iff.mp hi).1
 obtain ⟨oL,_,_,hoL,_⟩:=id hn
 refine wpAny_nameGoes_keeps hk hn hcls λ h' v hn' hs=>?_
 have low : ∀ b o,X.s₀.heap.get? b = some o -> b ≠ X.env.locals:=λ b o e=>Nat.ne_of_lt (Nat.lt_of_lt_of_le (Heap.lt_size e) I.ok.above)
 refine h _ ⟨I.ok,I.os,I.bare,⟨λ b o e n hb hx=>(hs.2 b (low b o e)).trans (I.base.keep b o e n hb hx),λ b o e n hb hx=>?_,I.base.free,λ b o e hx=>?_,I.base.tups,I.base.frzs,I.base.tbls⟩,⟨_,hn',λ j y v' e1 e2 e3=>?_⟩,λ y c e=>?_,I.free,I.freeC,λ p hp=>?_,
  I.hok.trkd λ b u o e q=>(hs.2 b λ z=>by rw [z,I.free] at e; cases e).trans q,by simpa using I.len⟩
 ·obtain ⟨sl,e1⟩:=I.base.slot b o e n hb hx
  exact ⟨sl,(hs.2 b (low b o e)).trans e1⟩
 ·obtain ⟨o',e1⟩:=I.base.there b o e hx
  exact ⟨o',(hs.2 b (low b o e)).trans e1⟩
 ·by_cases hj : j = i
  ·subst hj
   rw [List.getElem?_set_self hiσ] at e2
   cases e2
  ·rw [List.getElem?_set_ne (Ne.symm hj)] at e2
   obtain ⟨u',r',q⟩:=hl j y v' e1 e2 e3
   refine ⟨u',r',?_⟩
   rcases q with ⟨k,e⟩ | ⟨k,c,e,z⟩
   ·refine .inl ⟨k,?_⟩
    have : y ≠ n:=λ e=>hj (nodup_ix hN e1 (e ▸ hi))
    simp [this,e]
   ·exact .inr ⟨k,c,e,z.sameBut hs (I.cne y c e)⟩
 ·obtain ⟨w',z⟩:=I.cell y c e
  exact ⟨w',z.sameBut hs (I.cne y c e)⟩
 ·obtain ⟨e,n,ne,nf,d⟩:=I.pin p hp
  exact ⟨(hs.2 p.1 ne).trans e,n,ne,nf,d⟩
end
theorem Fly.move {P : Program} {w : World} {outer : List Env} {H H' : Hp} {s s' : Shared} {a : Addr} {C : Value} {B : Heap} {a0 : Value} {h' : Heap} (un : Un (frs outer) [] H H' s.heap s'.heap) (hok : HOk P w H' s'.heap)
 (hf : Heap.FlyingW B outer a C a0 s'.heap) (k1 : ∀ b o,s.heap.get? b = some o -> H b = none -> b ∉ frs outer -> B.get? b = some o) (k2 : ∀ b o,H' b = some o -> ∃ u,B.get? b = some u)
 (k3 : ∀ b o,s.heap.get? b = some o -> b ∉ frs outer -> ∃ u,B.get? b = some u) (hb : B.StaysIn h') (hs : s'.heap.UpToSlots h') : Un (frs outer) [] H H' s.heap h' /\ HOk P w H' h':=by
 refine ⟨⟨λ b o e n hb' _=>hb b o (k1 b o e n hb'),λ b o e n hb' _=>?_,un.free,λ b o e _=>?_,un.tups,un.frzs,un.tbls⟩,hok.trkd λ b u o e q=>?_⟩
 ·obtain ⟨sl,e1⟩:=un.slot b o e n hb' (by simp)
  obtain ⟨_,o3,e3,d3⟩:=hf.2.2.1.mem hb'
  rw [e1] at e3; cases e3
  obtain ⟨sl4,e4⟩:=hs b _ e1 d3
  exact ⟨sl4,e4⟩
 ·by_cases hb' : b ∈ frs outer
  ·obtain ⟨o1,e1⟩:=un.there b o e (by simp)
   obtain ⟨_,o3,e3,d3⟩:=hf.2.2.1.mem hb'
   rw [e1] at e3; cases e3
   obtain ⟨sl,e4⟩:=hs b _ e1 d3
   exact ⟨_,e4⟩
  ·obtain ⟨u,e1⟩:=k3 b o e hb'
   exact ⟨u,hb b u e1⟩
 ·obtain ⟨u',e'⟩:=k2 b o e
  have:=hf.1 b u' e'
  rw [q] at this; cases this
  exact hb b u e'
abbrev XS:=Value -> St -> Hp -> Prop
def PassX (P : Program) (w : World) (X : Cx) (Φ : XS) : Prop:=∀ (pins : List (Addr × Obj)) (σ : St) (H : Hp) (s : Shared) (e : Value) (s' : Shared),Inv X pins σ H s -> CX1 P w X.stack H s (λ c _ H'=>Φ c σ H') e s' -> X.xe e s'
def tCallX (sp : Sp) (dvs : List V) (Φ : XS) (t : TA) : TE:=λ σ H Q=>t σ H λ vs H1=>sp (vs ++ dvs) H1 Q λ c _ H'=>Φ c σ H'
section
variable {X : Cx} {P : Program} {w : World} {k : Nat} {f : Addr} {fd : FuncData} {ps : List Str} {sp : Sp} {dvs : List V} {ds : List Value} {Φ : XS} {x : Str} {p pos : Pos} {e : Expr} {es : List Expr} {t : TA}
theorem pe_callX (F : FnOk X.prog X.w X.K X.mg X.base (CX1 P w) k f fd ps sp) (hr : Room k X.A) (hg : Gl X x) (hm : X.mg x = some (.ref f)) (hk : PySem.W.keepIn X.K (.ref f) = true) (hb : Binds X.K fd ps ds) (hd : Vals dvs ds) (hx : PassX P w X Φ)
 (ha : PA X (e :: es) t) (hdb : (x == ("__debug__" : Str)) = false:=by decide) (he : starEach (e :: es) X.env = (false,eval e X.env) :: starEach es X.env:=by rfl) (hpl : (backTo pos (starEach es X.env)).any (·.1) = false:=by rfl) :
 PE X (.Call (.Name x p) (e :: es) [] pos) (tCallX sp dvs Φ t):=by
 intro pins s σ H Q I h
 refine wpAny_Call_Name_kw (ld_glob I hg hm ?_ hdb)
 refine PySem.W.callWith_K (h₀:=X.base) I.ok.mod.kin hk (thn (ha pos pins s σ H _ I h) λ us s1 ⟨vs,H1,I1,r,q⟩=>⟨I1.kIn,?_⟩) he hpl
 have r2 : Vals (vs ++ dvs) (us ++ ds):=r.append hd
 have hl : (us ++ ds).length = ps.length:=by rw [← r2.length]; exact F.len _ _ _ _ q
 refine wpAny_call (codeAny_mono (F.run X.A X.stack s1 H1 ⟨us,[]⟩ (us ++ ds) (vs ++ dvs) Q _ hr I1.env0 (hb s1 us I1.kIn hl) r2 q) λ r s' hq=>?_)
 cases r with
 | error e=>exact hx pins σ H1 s1 e s' I1 hq
 | ok fl =>
   cases fl with
   | ret u=>exact I1.after hq
   | next=>exact False.elim hq
   | brk=>exact False.elim hq
   | cont=>exact False.elim hq
end
def excO (a C : Addr) : HO:=.ext (XT.ExcAt a C)
def Ends.hand (D : Ends) (i : Nat) : Ends:={ nx:=λ σ H=>D.nx (σ.set i none) H,rt:=D.rt,bk:=λ σ H=>D.bk (σ.set i none) H,ct:=λ σ H=>D.ct (σ.set i none) H }
abbrev Pins:=List (Addr × Obj)
section
variable {X : Cx} {C : Addr} {i : Nat} {n x : Str} {body : List Stmt} {b₀ : Stmt} {suite : List Stmt} {np hpos pos : Pos} {tb : Pins -> (Value -> Shared -> Prop) -> XS -> TS} {th : Pins -> Value -> TS} {bmB : List Value} {newId : String}
end
end L2
set_option maxHeartbeats 4000000
namespace L2
open PySem PySem.Spec PyProof.Rows
section
variable {X : Cx}
theorem bits_of {x : Int} {m : Nat} (h : x.natAbs < 2 ^ m) : Builtin.Int.intBits x <= m:=PySem.intBits_le_iff.mpr h
def CMulL (i j : Int) : Prop:=i.natAbs < 2 ^ 100000 /\ j.natAbs < 2 ^ 100000
theorem log2_lt_of {n m : Nat} (hm : 0 < m) (h : n < 2 ^ m) : n.log2 < m:=by
 rcases Nat.eq_zero_or_pos n with h0 | hp
 ·rw [h0]; exact hm
 ·exact (Nat.log2_lt (Nat.ne_of_gt hp)).mpr h
def CDivL (_ j : Int) : Prop:=j ≠ 0 /\ j.natAbs < 2 ^ 8999
theorem op_fdivL : OpR X (binaryOp .FloorDiv) (rI CDivL λ i j=>.int (i.fdiv j)):=opI λ _ _ _ _ _ _ _ hc q=>floordiv_int hc.1 q (.inl (PyProof.noPylong_of_log2 (Nat.lt_trans (log2_lt_of (by decide) hc.2) (by decide))))
def rIsi (K : PySem.W.Frag) : List V -> Hp -> VK -> Prop:=λ xs H Q=>∃ x t T b,xs = [x,.ty T] /\ TyOf K H x t /\ PySem.W.kitOne K t (.type T) = some b /\ Q (.bl b) H
theorem call_isi : CallR X (.builtin "isinstance") (rIsi X.K):=by
 intro pins s σ H vs us Q I r h
 obtain ⟨x,t,T,b,rfl,ty,e,q⟩:=h
 obtain ⟨u,c,rfl,rx,rc⟩:=vals2 r
 cases (show c = Value.type T from rc)
 exact isinst_ok I rx ty e λ tk=>⟨.bl b,H,I.tok tk,rfl,q⟩
theorem kit_same (K : PySem.W.Frag) (t : Value) : PySem.W.kitOne K t t = some true:=by unfold PySem.W.kitOne; simp
theorem kit_int_bool (K : PySem.W.Frag) : PySem.W.kitOne K (.type "int") (.type "bool") = some false:=by
 unfold PySem.W.kitOne PySem.W.kitCls PySem.W.subIn; kernel_rfl
def rIsiE (K : PySem.W.Frag) : List V -> Hp -> VK -> Prop:=λ xs H Q=>∃ a C c b,xs = [.ref a,c] /\ H a = some (excO a C) /\ XT.ExcK K C /\
 ((∃ D,c = .ref D /\ PySem.W.kitOne K (.ref C) (.ref D) = some b) \/ (∃ T,c = .ty T /\ PySem.W.kitOne K (.ref C) (.type T) = some b) \/
   (∃ (p : Addr) (Ds : List Addr),c = .ref p /\ H p = some (.tup (Ds.map V.ref)) /\ PySem.W.kitAny K (.ref C) (Ds.map Value.ref) = some b)) /\ Q (.bl b) H
theorem vals_refs : ∀ {Ds : List Addr} {us : List Value},Vals (Ds.map V.ref) us -> us = Ds.map Value.ref
 | [],_,.nil=>rfl
 | _ :: _,_,.cons r t=>by
   cases (show _ = Value.ref _ from r)
   rw [vals_refs t]; rfl
theorem call_isiE : CallR X (.builtin "isinstance") (rIsiE X.K):=by
 intro pins s σ H vs us Q I r h
 obtain ⟨a,C,c,b,rfl,ha,Z,h,q⟩:=h
 obtain ⟨u,cv,rfl,rx,rc⟩:=vals2 r
 cases (show u = Value.ref a from rx)
 have hx : XT.ExcAt a C s.heap:=(I.hok a _ ha).1
 rcases h with ⟨D,rfl,e⟩ | ⟨T,rfl,e⟩ | ⟨p,Ds,rfl,hp,e⟩
 ·cases (show cv = Value.ref D from rc)
  exact PySem.W.kia_one (XT.kitx_exc Z) I.kIn hx e (λ z=>nomatch z) λ tk=>⟨.bl b,H,I.tok tk,rfl,q⟩
 ·cases (show cv = Value.type T from rc)
  exact PySem.W.kia_one (XT.kitx_exc Z) I.kIn hx e (λ z=>nomatch z) λ tk=>⟨.bl b,H,I.tok tk,rfl,q⟩
 ·cases (show cv = Value.ref p from rc)
  obtain ⟨_,its,rv,ot,h1,h2,n,h3⟩:=I.hok p _ hp
  obtain ⟨c0,dd,dat,sl⟩:=ot
  cases (show c0 = _ from h2)
  cases (show dat = _ from h3)
  rw [vals_refs rv] at h1
  exact PySem.W.kia_tup (XT.kitx_exc Z) I.kIn hx h1 e (λ z=>nomatch z) λ tk=>⟨.bl b,H,I.tok tk,rfl,q⟩
def eqVs : List V -> List V -> Bool
 | [],[]=>true
 | x :: xs,y :: ys=>eqV x y && eqVs xs ys
 | _,_=>false
theorem eqVs_len : ∀ {xs ys : List V},xs.length ≠ ys.length -> eqVs xs ys = false
 | [],[],h=>absurd rfl h
 | [],_ :: _,_=>rfl
 | _ :: _,[],_=>rfl
 | x :: xs,y :: ys,h=>by
   unfold eqVs
   rw [eqVs_len (λ z=>h (by simp [z]))]; simp
theorem eqVs_all : ∀ {xs ys : List V},xs.length = ys.length -> (List.range xs.length).all (λ j=>eqV (xs.getD j .non) (ys.getD j .non)) = eqVs xs ys
 | [],[],_=>rfl
 | [],_ :: _,h=>by simp at h
 | _ :: _,[],h=>by simp at h
 | x :: xs,y :: ys,h=>by
   have ih:=eqVs_all (xs:=xs) (ys:=ys) (by simpa using h)
   rw [List.length_cons,List.range_succ_eq_map,List.all_cons,List.all_map]
   unfold eqVs
   rw [← ih]
   rfl
theorem eqVs_refl : ∀ {xs : List V},xs.all flatV = true -> eqVs xs xs = true
 | [],_=>rfl
 | x :: xs,h=>by
   rw [List.all_cons,Bool.and_eq_true] at h
   unfold eqVs
   rw [eqVs_refl h.2,Bool.and_true]
   cases x <;> first | rfl | (simp [eqV]; done) | exact absurd (show false = true from h.1) Bool.false_ne_true
theorem eqAt_items {A : Around} {s : Shared} {xs ys : List V} {us ws : List Value} (r : Vals xs us) (q : Vals ys ws) (fx : xs.all flatV = true) (fy : ys.all flatV = true) (j : Nat) (h1 : j < us.toArray.size) (h2 : j < ws.toArray.size) :
 SeqAt.EqAt A s us.toArray[j] ws.toArray[j] (eqV (xs.getD j .non) (ys.getD j .non)):=by
 have l1:=r.length
 have l2:=q.length
 have h1' : j < xs.length:=by simpa [l1] using h1
 have h2' : j < ys.length:=by simpa [l2] using h2
 obtain ⟨u,hu,ru⟩:=r.get (i:=j) (x:=xs[j]) (List.getElem?_eq_getElem h1')
 obtain ⟨v,hv,rv⟩:=q.get (i:=j) (x:=ys[j]) (List.getElem?_eq_getElem h2')
 have e1 : us.toArray[j] = u:=by
  have:=List.getElem?_eq_some_iff.mp hu
  obtain ⟨_,z⟩:=this; simpa using z
 have e2 : ws.toArray[j] = v:=by
  have:=List.getElem?_eq_some_iff.mp hv
  obtain ⟨_,z⟩:=this; simpa using z
 rw [e1,e2,List.getD_eq_getElem?_getD,List.getD_eq_getElem?_getD,List.getElem?_eq_getElem h1',List.getElem?_eq_getElem h2']
 exact eqAt_V ru rv (List.all_eq_true.mp fx _ (List.getElem_mem h1')) (List.all_eq_true.mp fy _ (List.getElem_mem h2'))
def rEqL (K : PySem.W.Frag) : R2:=λ x y H Q=>∃ a b xs ys,x = .ref a /\ y = .ref b /\ SqL K H a xs /\ SqL K H b ys /\ xs.all flatV = true /\ ys.all flatV = true /\ Q (.bl (eqVs xs ys)) H
theorem op_eqL (hu : X.A.units < cLine) : OpR X (compareOp .Eq) (rEqL X.K):=by
 intro pins s σ H x y v u Q I rx ry h
 obtain ⟨a,b,xs,ys,rfl,rfl,ha,hb,fx,fy,q⟩:=h
 cases (show v = Value.ref a from rx)
 cases (show u = Value.ref b from ry)
 obtain ⟨its,rv,p,_⟩:=I.list ha
 obtain ⟨its2,rv2,p2,_⟩:=I.list hb
 have l1:=rv.length
 have l2:=rv2.length
 by_cases hz : xs.length = ys.length
 ·refine SeqAt.eq_listAt (e:=λ j=>eqV (xs.getD j .non) (ys.getD j .non)) p.isList p2.isList (by simp [← l1,← l2,hz]) hu (λ j h1 h2=>eqAt_items rv rv2 fx fy j h1 h2) ?_
  have e : (List.range its.toArray.size).all (λ j=>eqV (xs.getD j .non) (ys.getD j .non)) = eqVs xs ys:=by
   rw [← eqVs_all hz]; simp [← l1]
  rw [e]
  exact ⟨.bl _,H,I,rfl,q⟩
 ·rw [eqVs_len hz] at q
  exact SeqAt.eq_list_lengthsAt p.isList p2.isList (by simp [← l1,← l2,hz]) hu ⟨.bl _,H,I,rfl,q⟩
def Itrs (lo st : Int) (n : Nat) : It:=⟨λ i _=>i < n,λ i H x H'=>H' = H /\ x = .int (lo + i * st),λ i _=>n <= i⟩
theorem turn_ranges {P : Program} {w : World} {K : PySem.W.Frag} {tg : Expr} (it : Addr) (lo c : Int) (n : Nat) : Turn P w K tg (Itrs lo c n) [it] it (λ i h=>IsRangeIter h it (lo + (i : Nat) * c) ((n : Int) - (i : Nat)) c) where
 mem:=by simp
 obj:=λ i h st b hb=>by
  have e : b = it:=by simpa using hb
  subst e
  exact ⟨_,st,λ v z=>by
   have z' : Data.fields _ = Data.cell v:=z
   cases z'⟩
 keep:=λ i h h' st k=>k it (by simp) _ st
 item:=by
  intro X hP hw hK hc i pins s σ H E I hf st hg
  subst hP hw hK
  obtain ⟨f0,f1,f2,f3,f4,f5⟩:=hf it (by simp)
  have W:=Walks.range (prog:=X.prog) (w:=X.w) (I.ok.hd hc) it lo c n
  refine W.item i s _ _ hg st λ v h' tk hv st' kk=>?_
  obtain ⟨t,rfl⟩:=hv
  have I1 : Inv X pins σ H { s with heap:=h',toks:=tk }:=I.turned (λ b o hb e=>kk b o (by simpa using hb) e) f0 f1 f3 f4 f5
  exact ⟨_,rfl,go_of (s:={ s with heap:=h',toks:=tk }) (n := "range_iterator") st' rfl rfl (by decide) ⟨.int (lo + i * c),H,I1,⟨t,rfl⟩,⟨rfl,rfl⟩,st',λ b hb=>(hf b hb).1⟩⟩
 done:=by
  intro X hP hw hK hc i pins s σ H E I hf st hg
  subst hP hw hK
  obtain ⟨f0,f1,f2,f3,f4,f5⟩:=hf it (by simp)
  exact wpAny_pyNext_range_end (I.ok.hd hc) st (by have : n <= i:=hg; omega) λ h' eb=>⟨rfl,I.turned (t':=s.toks) (λ b o hb e=>eb b o hb e) f0 f1 f3 f4 f5⟩
 self:=λ _ _ _ _ _ st h=>wpAny_pyIter_rangeiter st h
variable {tg : Expr}
end
theorem for_ranges {lo st : Int} {n : Nat} {g : TG} {tb : TS} {D : Ends} {σ : St} {H : Hp} (Pv : Nat -> St -> Hp -> Prop) (h0 : Pv 0 σ H)
 (hs : ∀ i σ H,i < n -> Pv i σ H -> g (.int (lo + i * st)) σ H λ σ2 H2=>tb { D with nx:=Pv (i + 1),ct:=Pv (i + 1),bk:=D.nx } σ2 H2) (hd : ∀ σ H,Pv n σ H -> D.nx σ H) :
 ∃ W : Nat -> Nat -> St -> Hp -> Prop,(∃ m,W 0 m σ H) /\ ∀ i m σ H,W i m σ H ->
   ((Itrs lo st n).stop i H /\ D.nx σ H) \/ ((Itrs lo st n).go i H /\ ∃ N : St -> Hp -> Prop,(∀ σ' H',N σ' H' -> ∃ m',m' < m /\ W (i + 1) m' σ' H') /\ ∀ x H',(Itrs lo st n).yld i H x H' -> g x σ H' λ σ2 H2=>tb { D with nx:=N,ct:=N,bk:=D.nx } σ2 H2):=by
 refine ⟨λ i m σ H=>m = n - i /\ i <= n /\ Pv i σ H,⟨n,by simp,Nat.zero_le _,h0⟩,?_⟩
 rintro i m σ H ⟨rfl,hi,p⟩
 by_cases hlt : i < n
 ·refine .inr ⟨hlt,Pv (i + 1),λ σ' H' p'=>⟨n - (i + 1),by omega,rfl,hlt,p'⟩,λ x H' y=>?_⟩
  obtain ⟨e,y⟩:=y
  subst e y
  exact hs i σ _ hlt p
 ·have e : i = n:=by omega
  subst e
  exact .inl ⟨Nat.le_refl _,hd σ H p⟩
section
variable {P : Program} {w : World} {K : PySem.W.Frag} {mg : Str -> Option Value} {base : Heap}
theorem Fun.okx {x qual : Str} {st : Stmt} {f : Addr} {fd : FuncData} {N ps : List Str} {k : Nat} {sp : Sp} (F : Fun K x qual st f fd) (S : FnScope N ps (defScope st)) (len : ∀ vs H Q E,sp vs H Q E -> vs.length = ps.length)
 (hbody : ∀ (cdv : Value) (A : Around) (outer : List Env) (s : Shared) (H : Hp) (vs : List V) (Q : VK) (E : XK),Room k (A.deeper (envOfC qual (defScope st) s.heap.objs.size f cdv)) -> sp vs H Q E ->
  ∃ t,PSs (cxOf (CX1 P w) P w K mg base N qual (defScope st) f cdv A outer s H E) (defBody st) t /\ t { nx:=λ _ H'=>Q .non H',rt:=Q } (start N vs) H) : FnOk P w K mg base (CX1 P w) (k + 1) f fd ps sp:=by
 obtain ⟨oc,od,kV,doc,pm,an,cdv,ct,osl,rfl,lk,hcd⟩:=F.ex
 refine fn_of lk hcd S len λ A outer s H vs Q E hr hsp=>?_
 exact hbody cdv A outer s H vs Q E hr hsp
theorem Fun.okn {x qual : Str} {st : Stmt} {f : Addr} {fd : FuncData} {N ps : List Str} {k : Nat} {sp : Sp} (F : Fun K x qual st f fd) (S : FnScope N ps (defScope st)) (len : ∀ vs H Q E,sp vs H Q E -> vs.length = ps.length)
 (hbody : ∀ (cdv : Value) (A : Around) (outer : List Env) (s : Shared) (H : Hp) (vs : List V) (Q : VK) (E : XK),Room k (A.deeper (envOfC qual (defScope st) s.heap.objs.size f cdv)) -> sp vs H Q E ->
  ∃ t,PSs (cxOf (CX1 P w) P w K mg base N qual (defScope st) f cdv A outer s H E).nox (defBody st) t /\ t { nx:=λ _ H'=>Q .non H',rt:=Q } (start N vs) H) : FnOk P w K mg base (CX1 P w) (k + 1) f fd ps sp:=by
 obtain ⟨oc,od,kV,doc,pm,an,cdv,ct,osl,rfl,lk,hcd⟩:=F.ex
 refine fn_of lk hcd S len λ A outer s H vs Q E hr hsp=>?_
 obtain ⟨t,h,q⟩:=hbody cdv A outer s H vs Q E hr hsp
 exact ⟨t,h.nox,q⟩
end
end L2
set_option maxHeartbeats 4000000
namespace L2
open PySem PySem.Spec PyProof.Rows
section
variable {X : Cx}
def oLt:=(op_lt (X:=X)).or op_lt_str
def isiAny:=(call_isi (X:=X)).or call_isiE
def ixAny:=ix_seq (X:=X)
theorem mt_app : MtR X "list.append" rAppend:=mt_append (X:=X)
end
theorem cls_of_mro {K : PySem.W.Frag} {C : Addr} {b : Value} {r : Bool} (h : PySem.W.mroIn K C b = some r) : (PySem.W.clsIn K C).isSome = true:=by
 unfold PySem.W.mroIn at h
 cases q : PySem.W.clsIn K C with
 | none=>rw [q] at h; cases h
 | some c=>rfl
end L2
set_option maxHeartbeats 4000000
namespace L2
open PySem PySem.Spec PyProof.Rows
section
variable {X : Cx}
def cutL (xs : List Nat) (lo hi : Option Int) : List Nat:=(xs.drop (HT.sIx xs.length 0 lo)).take (HT.sIx xs.length xs.length hi - HT.sIx xs.length 0 lo)
def cutS (z : Str) (lo hi : Option Int) : Str:=⟨(cutL z.cps.toList lo hi).toArray⟩
theorem slice_cutS (z : Str) (lo hi : Option Int) : Txt.slice z lo hi = cutS z lo hi:=by
 obtain ⟨h1,h2,_⟩:=slice_bounds lo hi z.length
 have e : Builtin.Str.strSliceIndices lo hi 1 z.length = sliceRange (sliceBounds lo hi none z.length).1 (sliceBounds lo hi none z.length).2.1 1:=rfl
 have hl : z.cps.toList.length = z.length:=by rw [Array.length_toList]; rfl
 rw [h1,h2,sliceRange_one] at e
 have hb:=HT.sIx_le z.length z.length (Nat.le_refl _) hi
 unfold Txt.slice cutS cutL
 rw [e,pick_run,hl]
 split
 ·rename_i q
  rw [List.length_map,List.length_range] at q
  have q' : HT.sIx z.length z.length hi - HT.sIx z.length 0 lo = z.length:=by simpa using q
  obtain ⟨cps⟩:=z
  have hz : (⟨cps⟩ : Str).length = cps.size:=rfl
  have : (cps.toList.drop (HT.sIx (Str.length ⟨cps⟩) 0 lo)).take (HT.sIx (Str.length ⟨cps⟩) (Str.length ⟨cps⟩) hi - HT.sIx (Str.length ⟨cps⟩) 0 lo) = cps.toList:=by
   rw [q',hz]
   rcases Nat.eq_zero_or_pos cps.size with z0 | zp
   ·have : cps.toList = []:=List.eq_nil_of_length_eq_zero (by simpa using z0)
    rw [this]; simp
   ·have : HT.sIx cps.size 0 lo = 0:=by rw [hz] at q' hb; omega
    rw [this,List.drop_zero,List.take_of_length_le (by rw [Array.length_toList]; exact Nat.le_refl _)]
  show (⟨cps⟩ : Str) = ⟨((cps.toList.drop (HT.sIx (Str.length ⟨cps⟩) 0 lo)).take (HT.sIx (Str.length ⟨cps⟩) (Str.length ⟨cps⟩) hi - HT.sIx (Str.length ⟨cps⟩) 0 lo)).toArray⟩
  rw [this]
 ·rfl
def rSlS : V -> Option Int -> Option Int -> Hp -> VK -> Prop:=λ x lo hi H Q=>∃ z : Str,x = .str z /\ z.length <= sizeLine /\ Q (.str (cutS z lo hi)) H
theorem sl_str : SlR X rSlS:=by
 intro pins s σ H x v vl vu lo hi sl Q I rx hs pl pu h
 obtain ⟨z,rfl,hz,q⟩:=h
 obtain ⟨t,rfl⟩:=rx
 refine ⟨"str",_,F.slot_str_getitem.lookup,typeIs_str _ _ _,?_⟩
 rw [← slice_cutS] at q
 have fin : ∀ (t' : Tok) (k : Nat),EP X pins σ Q (.str (Txt.slice z lo hi) t') { s with toks:=k }:=λ t' k=>⟨.str _,H,I.tok k,⟨t',rfl⟩,q⟩
 have hl:=Nat.le_trans (Txt.slice_le z lo hi) hz
 cases pl with
 | none =>
   cases pu with
   | none=>exact wpAny_getItem_str_slice (l:=none) (u:=none) (st:=none) hs rfl (post_val_or_str ⟨hl,fin⟩)
   | int j tj=>exact wpAny_getItem_str_slice (l:=none) (u:=some (j,tj)) (st:=none) hs rfl (post_val_or_str ⟨hl,fin⟩)
 | int i ti =>
   cases pu with
   | none=>exact wpAny_getItem_str_slice (l:=some (i,ti)) (u:=none) (st:=none) hs rfl (post_val_or_str ⟨hl,fin⟩)
   | int j tj=>exact wpAny_getItem_str_slice (l:=some (i,ti)) (u:=some (j,tj)) (st:=none) hs rfl (post_val_or_str ⟨hl,fin⟩)
def slAny:=(sl_list (X:=X)).or sl_str
def Its (z : Str) : It:=⟨λ i _=>i < z.length,λ i H x H'=>H' = H /\ ∃ c,z.cps.toList[i]? = some c /\ x = .str ⟨#[c]⟩,λ i _=>z.length <= i⟩
theorem turn_str {P : Program} {w : World} {K : PySem.W.Frag} {nm : Str} {np : Pos} {ty : String} (it : Addr) (z : Str) (t : Tok)
 (hi : ∀ (A : Around) (s : Shared) (i c : Nat) (Q : Option Value -> Shared -> Prop) (E : Value -> Shared -> Prop),s.heap.IsStrIter it ty z t i -> z.cps[i]? = some c ->
  (∀ h',h'.IsStrIter it ty z t (i + 1) -> Heap.SameBut it s.heap h' -> Q (some (.str ⟨#[c]⟩ s.toks)) { s with heap:=h',toks:=s.toks + 1 }) -> wpAny (model P w) A (pyNext (.ref it)) Q E s)
 (he : ∀ (A : Around) (s : Shared) (i : Nat) (Q : Option Value -> Shared -> Prop) (E : Value -> Shared -> Prop),A.handled = none -> s.heap.IsStrIter it ty z t i -> z.cps[i]? = none ->
  (∀ h',Heap.ExtBut it s.heap h' -> Q none { s with heap:=h' }) -> wpAny (model P w) A (pyNext (.ref it)) Q E s)
 (hse : ∀ (A : Around) (s : Shared) (i : Nat) (Q : Value -> Shared -> Prop) (E : Value -> Shared -> Prop),s.heap.IsStrIter it ty z t i -> Q (.ref it) s -> wpAny (model P w) A (pyIter (.ref it)) Q E s) :
 Turn P w K (.Name nm np) (Its z) [it] it (λ i h=>h.IsStrIter it ty z t i) where
 mem:=by simp
 obj:=λ i h st b hb=>by
  have e : b = it:=by simpa using hb
  subst e
  obtain ⟨o,ho,_,hd⟩:=st
  exact ⟨o,ho,λ v q=>by rw [hd] at q; cases q⟩
 keep:=λ i h h' st k=>by
  obtain ⟨o,ho,r⟩:=st
  exact ⟨o,k it (by simp) o ho,r⟩
 item:=by
  intro X hP hw hK hc i pins s σ H E I hf st hg
  subst hP hw hK
  obtain ⟨f0,f1,f2,f3,f4,f5⟩:=hf it (by simp)
  have hg' : i < z.cps.size:=hg
  refine hi X.A s i z.cps[i] _ E st (by simp [hg']) λ h' st' sb=>?_
  have I1 : Inv X pins σ H { s with heap:=h',toks:=s.toks + 1 }:=I.turned (λ b o hb e=>(sb.2 b hb).trans e) f0 f1 f3 f4 f5
  exact ⟨_,rfl,wpAny_pure ⟨.str ⟨#[z.cps[i]]⟩,H,I1,⟨_,rfl⟩,⟨rfl,z.cps[i],by rw [Array.getElem?_toList]; simp [hg'],rfl⟩,st',λ b hb=>(hf b hb).1⟩⟩
 done:=by
  intro X hP hw hK hc i pins s σ H E I hf st hg
  subst hP hw hK
  obtain ⟨f0,f1,f2,f3,f4,f5⟩:=hf it (by simp)
  have hg' : z.cps.size <= i:=hg
  exact he X.A s i _ E (I.ok.hd hc) st (by simp [hg']) λ h' eb=>⟨rfl,I.turned (t':=s.toks) (λ b o hb e=>eb b o hb e) f0 f1 f3 f4 f5⟩
 self:=λ A i s Q E st h=>hse A s i Q E st h
theorem PI.or {tg iter : Expr} {te : TE} {f g : V -> Hp -> (It -> Hp -> Prop) -> Prop} (h : PI X tg iter (λ σ H R=>te σ H λ x H1=>f x H1 R)) (h' : PI X tg iter (λ σ H R=>te σ H λ x H1=>g x H1 R)) (he : PE X iter te)
 (hf : ∀ pins s σ H x v R,Inv X pins σ H s -> RelV x v -> f x H R -> wpAny (model X.prog X.w) X.A (pyIter v) (PIE X pins σ tg R) X.xe s)
 (hg : ∀ pins s σ H x v R,Inv X pins σ H s -> RelV x v -> g x H R -> wpAny (model X.prog X.w) X.A (pyIter v) (PIE X pins σ tg R) X.xe s) :
 PI X tg iter (λ σ H R=>te σ H λ x H1=>f x H1 R \/ g x H1 R):=by
 intro pins s σ H R I hq
 refine thn (he pins s σ H _ I hq) λ v s1 ⟨x,H1,I1,r1,q1⟩=>?_
 rcases q1 with q1 | q1
 ·exact hf pins s1 σ H1 x v R I1 r1 q1
 ·exact hg pins s1 σ H1 x v R I1 r1 q1
def repS (z : Str) (n : Int) : Str:=⟨(List.replicate n.toNat z.cps.toList).flatten.toArray⟩
theorem foldl_cps (a : Array Nat) : ∀ (k : Nat) (acc : Array Nat),(List.replicate k a).foldl (· ++ ·) acc = acc ++ ((List.replicate k a.toList).flatten).toArray
 | 0,acc=>by simp
 | k + 1,acc=>by
   rw [List.replicate_succ,List.foldl_cons,foldl_cps a k,List.replicate_succ,List.flatten_cons]
   apply Array.ext'
   simp [List.append_assoc]
theorem mul_repS {z : Str} {n : Int} : Txt.mul z n = repS z n:=by
 unfold Txt.mul repS
 by_cases h : n < 1
 ·rw [if_pos h,show n.toNat = 0 by omega]; rfl
 rw [if_neg h]
 split
 ·rename_i q
  obtain ⟨cps⟩:=z
  rw [Bool.or_eq_true] at q
  rcases q with q | q
  ·have : n = 1:=by simpa using q
   subst this
   show (⟨cps⟩ : Str) = ⟨([cps.toList].flatten).toArray⟩
   simp
  ·have : (⟨cps⟩ : Str).length = 0:=by simpa using q
   have : cps.size = 0:=this
   have e : cps.toList = []:=List.eq_nil_of_length_eq_zero (by simpa using this)
   have e2 : (List.replicate n.toNat cps.toList).flatten = []:=by rw [e]; simp
   show (⟨cps⟩ : Str) = ⟨((List.replicate n.toNat cps.toList).flatten).toArray⟩
   rw [e2,← e]
 ·rw [foldl_cps]; simp
theorem op_mul_str : OpR X (binaryOp .Mult) (λ x y H Q=>∃ z n,x = .str z /\ y = .int n /\ 0 <= n /\ n <= 4000 /\ z.length <= 4000 /\ Q (.str (repS z n)) H):=by
 intro pins s σ H x y v u Q I rx ry h
 obtain ⟨z,n,rfl,rfl,h0,h1,hz,q⟩:=h
 obtain ⟨t,rfl⟩:=rx
 obtain ⟨t',rfl⟩:=ry
 rw [← mul_repS] at q
 have hs : sizeLine = 16777216:=sizeLine_eq
 have hm : z.length * n.toNat <= 4000 * 4000:=Nat.mul_le_mul hz (by omega)
 refine SB.mul ⟨by rw [decide_eq_false (by omega),decide_eq_false (by omega)]; rfl,λ h _ hh=>?_,λ _ _=>?_⟩ λ t' k=>⟨.str _,H,I.tok k,⟨t',rfl⟩,q⟩
 ·have hn : 0 < n:=by
   rcases Int.lt_or_eq_of_le h0 with z | z
   ·exact z
   ·subst z; trivial
  have : (z.length : Int) <= (2 ^ 63 - 1) / n:=Int.le_ediv_of_mul_le hn (Int.le_trans (Int.mul_le_mul (Int.ofNat_le.mpr hz) h1 h0 (by omega)) (by decide))
  omega
 ·unfold Builtin.Str.tooLong
  rw [hs]
  exact decide_eq_false (by omega)
end
end L2
set_option maxHeartbeats 4000000
namespace L2
open PySem PySem.Spec PyProof.Rows
theorem closure_go {env : Env} : ∀ (names : List (Str × NameKind)) (acc : List (Str × Addr)),(∀ p ∈ names,p.2 = .free -> ∃ c,env.cells.lookup p.1 = some c) -> (∀ x c,acc.lookup x = some c -> env.cells.lookup x = some c) ->
 ∃ cl,(forIn names acc λ (x : Str × NameKind) (r : List (Str × Addr))=>if (x.2 == NameKind.free) = true then (cellOf env x.1 >>= λ c=>(pure (ForInStep.yield ((x.1,c) :: r)) : Sem _)) else (pure (ForInStep.yield r) : Sem _)) = pure cl /\
   (∀ x c,cl.lookup x = some c -> env.cells.lookup x = some c) /\ (∀ x c,acc.lookup x = some c -> ∃ c',cl.lookup x = some c') /\ ∀ x,(x,NameKind.free) ∈ names -> ∃ c,cl.lookup x = some c
 | [],acc,_,h2=>⟨acc,rfl,h2,λ x c e=>⟨c,e⟩,λ _ z=>nomatch z⟩
 | (n,k) :: r,acc,h1,h2=>by
   rw [List.forIn_cons]
   by_cases hk : k = .free
   ·subst hk
    obtain ⟨c,hc⟩:=h1 (n,.free) List.mem_cons_self rfl
    have e : cellOf env n = pure c:=by unfold cellOf; rw [hc]
    have sub : ∀ x c',((n,c) :: acc).lookup x = some c' -> env.cells.lookup x = some c':=λ x c' q=>by
     rw [List.lookup_cons] at q
     cases hx : x == n with
     | true=>rw [hx] at q; cases q; rw [eq_of_beq hx]; exact hc
     | false=>rw [hx] at q; exact h2 x c' q
    obtain ⟨cl,q1,q2,q3,q4⟩:=closure_go r ((n,c) :: acc) (λ p hp=>h1 p (List.mem_cons_of_mem _ hp)) sub
    refine ⟨cl,?_,q2,λ x c' e'=>?_,λ x hx=>?_⟩
    ·show ((if (NameKind.free == NameKind.free) = true then (cellOf env n >>= λ c=>pure (ForInStep.yield ((n,c) :: acc))) else pure (ForInStep.yield acc)) >>= _) = _
     rw [if_pos (show (NameKind.free == NameKind.free) = true by decide),e,pure_bind,pure_bind]; exact q1
    ·cases hx : x == n with
     | true=>exact q3 x c (by rw [List.lookup_cons,hx])
     | false=>exact q3 x c' (by rw [List.lookup_cons,hx]; exact e')
    ·rcases List.mem_cons.mp hx with z | z
     ·cases z; exact q3 n c (by rw [List.lookup_cons,beq_self_eq_true])
     ·exact q4 x z
   ·have hb : (k == NameKind.free) = false:=by simpa using hk
    obtain ⟨cl,q1,q2,q3,q4⟩:=closure_go r acc (λ p hp=>h1 p (List.mem_cons_of_mem _ hp)) h2
    refine ⟨cl,?_,q2,q3,λ x hx=>?_⟩
    ·show ((if (k == NameKind.free) = true then _ else pure (ForInStep.yield acc)) >>= _) = _
     rw [if_neg (by rw [hb]; exact Bool.false_ne_true),pure_bind]; exact q1
    ·rcases List.mem_cons.mp hx with z | z
     ·cases z; exact absurd rfl hk
     ·exact q4 x z
theorem closure_of {env : Env} {scope : Scope} (h : ∀ p ∈ scope.names,p.2 = .free -> ∃ c,env.cells.lookup p.1 = some c) :
 ∃ cl,closureFor scope env = pure cl /\ (∀ x c,cl.lookup x = some c -> env.cells.lookup x = some c) /\ ∀ x,(x,NameKind.free) ∈ scope.names -> ∃ c,cl.lookup x = some c:=by
 obtain ⟨cl,q1,q2,_,q4⟩:=closure_go scope.names [] h (λ _ _ z=>nomatch z)
 refine ⟨cl,?_,q2,q4⟩
 unfold closureFor
 dsimp only
 rw [q1]
 rfl
theorem lookup_mem' : ∀ {l : List (Str × NameKind)} {x : Str} {k : NameKind},l.lookup x = some k -> (x,k) ∈ l
 | (n,k') :: r,x,k,h=>by
   rw [List.lookup_cons] at h
   cases hx : x == n with
   | true=>rw [hx] at h; cases h; rw [eq_of_beq hx]; exact List.mem_cons_self
   | false=>rw [hx] at h; exact List.mem_cons_of_mem _ (lookup_mem' h)
theorem relabel_cell {scope : Scope} {env : Env} {x : Str} (hc : ∀ p ∈ scope.names,p.2 ≠ .cell) (h : (relabel scope env).names.lookup x = some .cell \/ (relabel scope env).names.lookup x = some .free) : (x,NameKind.free) ∈ scope.names:=by
 have : ∃ k,(x,k) ∈ (relabel scope env).names /\ (k = .cell \/ k = .free):=by
  rcases h with h | h
  ·exact ⟨_,lookup_mem' h,.inl rfl⟩
  ·exact ⟨_,lookup_mem' h,.inr rfl⟩
 obtain ⟨k,hm,hk⟩:=this
 obtain ⟨⟨n,k0⟩,hp,e⟩:=List.mem_map.mp hm
 dsimp only at e
 split at e
 ·rename_i q
  cases e
  have : k0 = .free:=by
   rw [Bool.and_eq_true,Bool.and_eq_true] at q
   exact eq_of_beq q.1.1
  rw [this] at hp; exact hp
 ·cases e
  rcases hk with rfl | rfl
  ·exact absurd rfl (hc _ hp)
  ·exact hp
theorem relabel_free {env : Env} : ∀ {names : List (Str × NameKind)} {x : Str},names.lookup x = some .free ->
 (names.map λ (n,k)=>if (k == NameKind.free && env.scope.kind == .function && env.kindOf n == some .cell) then (n,NameKind.cell) else (n,k)).lookup x ≠ some .local
 | [],_,h=>nomatch h
 | (n,k) :: r,x,h=>by
   rw [List.map_cons]
   rw [List.lookup_cons] at h
   dsimp only
   cases hx : x == n with
   | true =>
     rw [hx] at h
     cases h
     split
     ·rw [List.lookup_cons,hx]; intro z; cases z
     ·rw [List.lookup_cons,hx]; intro z; cases z
   | false =>
     rw [hx] at h
     split
     ·rw [List.lookup_cons,hx]; exact relabel_free h
     ·rw [List.lookup_cons,hx]; exact relabel_free h
structure CP where
 cl : List (Str × Addr)
 C : Addr
 s : Shared
 H : Hp
 fp : List Addr
def Cx.compC (X : Cx) (N : List Str) (scope : Scope) (c : CP) : Cx :=
 { X with N:=N,s₀:=c.s,H₀:=c.H,env:=compEnvC scope c.cl c.C X.env,outer:=X.stack,ex:=c.fp,fn:=λ _=>false,pn:=[],xe:=λ _ _=>False }
abbrev Cx.comp (X : Cx) (N : List Str) (scope : Scope) (cl : List (Str × Addr)) (C : Addr) (s : Shared) (H : Hp) (fp : List Addr) : Cx:=X.compC N scope ⟨cl,C,s,H,fp⟩
section
variable {X : Cx} {pins : List (Addr × Obj)} {σ : St} {H : Hp} {s : Shared} {N : List Str} {scope : Scope} {cl : List (Str × Addr)} {C : Addr} {fp : List Addr}
theorem Inv.compOk (I : Inv X pins σ H s) (hf : ∀ b ∈ fp,FpOk X pins H b) (hlt : ∀ b ∈ fp,b < s.heap.objs.size) (hC : s.heap.objs.size <= C) (hkind : scope.kind = .function) (hcell : ∀ p ∈ scope.names,p.2 ≠ .cell)
 (h1 : ∀ x c,cl.lookup x = some c -> X.env.cells.lookup x = some c) (h2 : ∀ x,(x,NameKind.free) ∈ scope.names -> ∃ c,cl.lookup x = some c) : (X.comp N scope cl C s H fp).Ok where
 mod:=I.ok.mod
 kind:=hkind
 glob:=I.ok.glob
 blt:=I.ok.blt
 above:=hC
 inj:=λ x y c e1 e2=>I.ok.inj x y c (h1 x c e1) (h1 y c e2)
 has:=λ x h=>h2 x (relabel_cell hcell h)
 cab:=λ _ _ z=>nomatch z
 hd:=I.ok.hd
 frames:=I.ok.frames
 stk:=.inl rfl
 exf:=λ b hb=>⟨λ z=>Nat.lt_irrefl _ (Nat.lt_of_lt_of_le (hlt b hb) (by rw [z]; exact hC)),λ x c e=>(hf b hb).2.2.2.2.1 x c (h1 x c e)⟩
 bs:=I.bs
 bsz:=Nat.le_trans I.ok.bsz I.sz
 noex:=λ b o e hb=>by
  rcases (hf b hb).2.2.2.1 with z | z
  ·exact I.ok.noex b o e z
  ·exact absurd (Nat.lt_of_lt_of_le (Heap.lt_size e) (Nat.le_trans I.ok.bsz z)) (Nat.lt_irrefl _)
 exfs:=λ b hb z=>by
  rcases List.mem_cons.mp (I.stkSub b z) with e | e
  ·exact (hf b hb).2.1 e
  ·exact (hf b hb).2.2.1 e
 funs:=I.stack
 frf:=I.stkFree
end
def compSt (cap : List (Option Nat)) (σ : St) : St:=cap.map λ o=>match o with
 | none=>none
 | some j=>(σ[j]?).join
def PIfs (X : Cx) (ifs : List Expr) (t : TT) : Prop:=∀ (pins : List (Addr × Obj)) (s : Shared) (σ : St) (H : Hp) (Q : Bool -> Hp -> Prop),Inv X pins σ H s -> t σ H Q ->
 wpAny (model X.prog X.w) X.A (forIn ifs true λ (c : Expr) (r : Bool)=>if r = true then (PySem.isTrue c X.env (eval c X.env) >>= λ ok=>(pure (ForInStep.yield ok) : Sem _)) else (pure (ForInStep.yield r) : Sem _)) (TP X pins σ Q) X.xe s
def tTrue : TT:=λ _ H Q=>Q true H
theorem pf_nil {X : Cx} : PIfs X [] tTrue:=λ pins s σ H Q I h=>wpAny_tests_nil ⟨H,I,h⟩
theorem pf_one {X : Cx} {c : Expr} {t : TT} (h : PT X c t) : PIfs X [c] t:=λ pins s σ H Q I hq=>wpAny_tests_one (h pins s σ H Q I hq)
theorem comp_loop {prog : Program} {w : World} {A : Around} {R : Result -> Shared -> Prop} {s : Shared} {elt tg iter : Expr} {ifs : List Expr} {scope : Scope} {pos : Pos} {it acc : Value} {env : Env} (J : Nat -> Shared -> Prop)
 (turn : ∀ n s,J n s -> wpAny (model prog w) A (pyNext it) (λ r s₁=>match r with
  | none=>R (.ok .next) s₁
  | some v=>wpAny (model prog w) A (letOwnedTupleGo tg it v) (λ _ s₂=>wpAny (model prog w) A (assign tg env v) (λ _ s₃ =>
   wpAny (model prog w) A (forIn ifs true λ (c : Expr) (r : Bool)=>if r = true then (PySem.isTrue c env (eval c env) >>= λ ok=>(pure (ForInStep.yield ok) : Sem _)) else (pure (ForInStep.yield r) : Sem _)) (λ ok s₄ =>
    if ok = true then wpAny (model prog w) A (eval elt env) (λ x s₅=>wpAny (model prog w) A (call (.builtin "list.append") [acc,x]) (λ _ s₆=>∃ m,m < n /\ J m s₆) (λ _ _=>False) s₅) (λ _ _=>False) s₄
    else ∃ m,m < n /\ J m s₄) (λ _ _=>False) s₃) (λ _ _=>False) s₂) (λ _ _=>False) s₁) (λ _ _=>False) s)
 (n : Nat) (h : J n s) : codeAny (model prog w) A (.compLoop (.ListComp elt [⟨tg,iter,ifs,0⟩] scope pos) 0 it acc env) R s:=by
 have off : ∀ {α : Type} {t : Sem α} {Q : α -> Shared -> Prop} {E : Value -> Shared -> Prop} {s : Shared},wpAny (model prog w) A t Q (λ _ _=>False) s -> wpAny (model prog w) A t Q E s:=λ h=>wpAny_mono h (λ _ _ q=>q) λ _ _ z=>z.elim
 refine codeAny_loop rfl J (λ n s hJ=>?_) n h
 show wpAny _ A ((compTurn (.ListComp elt [⟨tg,iter,ifs,0⟩] scope pos) 0 it acc env).onRaise (λ x=>do noteFrame x env; theTreesLotGoes x)) _ _ s
 refine wpAny_noted ?_
 rw [compTurn_list]
 refine wpAny_bind (wpAny_standAt (wpAny_bind (off (thn (turn n s hJ) λ r s₁ h₁=>?_))))
 cases r with
 | none=>exact wpAny_pure h₁
 | some v =>
   refine wpAny_bind (off (thn h₁ λ _ s₂ h₂=>wpAny_bind (off (thn h₂ λ _ s₃ h₃=>wpAny_bind (off (thn h₃ λ ok s₄ h₄=>?_))))))
   cases ok with
   | false=>exact wpAny_pure ⟨rfl,h₄⟩
   | true=>exact wpAny_bind (wpAny_bind (off (thn h₄ λ x s₅ h₅=>wpAny_bind (off (thn h₅ λ _ s₆ h₆=>wpAny_pure (wpAny_pure ⟨rfl,h₆⟩))))))
def LCgo (J : It) (g : TG) (tt : TT) (te : TE) (D : Addr) (σ : St) (H : Hp) (Q : VK) : Prop:=∃ W : Nat -> Nat -> St -> Hp -> Prop,(∃ m,W 0 m σ H) /\ ∀ i m σc Hc,W i m σc Hc ->
 (J.stop i Hc /\ Q (.ref D) Hc) \/ (J.go i Hc /\ ∃ N : St -> Hp -> Prop,(∀ σ' H',N σ' H' -> ∃ m',m' < m /\ W (i + 1) m' σ' H') /\ ∀ x H',J.yld i Hc x H' -> g x σc H' λ σ2 H2=>tt σ2 H2 λ b H3 =>
  if b = true then te σ2 H3 λ v H4=>∃ ys,H4 D = some (.lst ys) /\ ys.length < sizeLine /\ N σ2 (upd H4 D (.lst (ys ++ [v]))) else N σ2 H3)
def tLC (cap : List (Option Nat)) (wi : TI) (g : CP -> TG) (tt : CP -> TT) (te : CP -> TE) : TE:=λ σ H Q=>wi σ H λ J H1=>∀ D,H1 D = none -> ∀ c : CP,LCgo J (g c) (tt c) (te c) D (compSt cap σ) (upd H1 D (.lst [])) Q
section
variable {X : Cx} {N : List Str} {scope : Scope} {tg elt iter : Expr} {ifs : List Expr} {pos : Pos} {wi : TI} {g : CP -> TG} {tt : CP -> TT} {te : CP -> TE} {cap : List (Option Nat)}
structure CompParts (X : Cx) (N : List Str) (scope : Scope) (tg : Expr) (ifs : List Expr) (elt : Expr) (g : CP -> TG) (tt : CP -> TT) (te : CP -> TE) : Prop where
 tg : ∀ c,PG (X.compC N scope c) tg (g c)
 ifs : ∀ c,PIfs (X.compC N scope c) ifs (tt c)
 elt : ∀ c,PE (X.compC N scope c) elt (te c)
def CapOk (X : Cx) (N : List Str) (scope : Scope) (cap : List (Option Nat)) : Prop:=cap.length = N.length /\ ∀ (i : Nat) (x : Str) (j : Nat),N[i]? = some x -> cap[i]? = some (some j) -> X.N[j]? = some x /\ (X.env.kindOf x = some .cell \/ X.env.kindOf x = some .free) /\ scope.names.lookup x = some .free
theorem comp_block (hc : X.calm = true) (hkind : scope.kind = .function) (hcell : ∀ p ∈ scope.names,p.2 ≠ .cell) (hcap : CapOk X N scope cap) (B : CompParts X N scope tg ifs elt g tt te) {cl : List (Str × Addr)}
 (h1 : ∀ x c,cl.lookup x = some c -> X.env.cells.lookup x = some c) (h2 : ∀ x,(x,NameKind.free) ∈ scope.names -> ∃ c,cl.lookup x = some c) (hfk : X.env.scope.kind = .function)
 {pins : List (Addr × Obj)} {σ : St} {H : Hp} {s : Shared} {it : Addr} {fp : List Addr} {tn : Nat -> Heap -> Prop} {J : It} {Q : VK} {E : Value -> Shared -> Prop} {RR : Value -> Addr -> Result -> Shared -> Prop}
 (I : Inv X pins σ H s) (T : Turn X.prog X.w X.K tg J fp it tn) (st : tn 0 s.heap) (f : ∀ b ∈ fp,FpOk X pins H b)
 (h : ∀ D,H D = none -> ∀ c : CP,LCgo J (g c) (tt c) (te c) D (compSt cap σ) (upd H D (.lst [])) Q)
 (hR : ∀ D C H' s' m,Inv X pins σ H' s' -> Q (.ref D) H' -> s'.heap.Ns C m -> s.heap.objs.size <= C -> H' C = none -> RR (.ref D) C (.ok .next) s') :
 wpAny (model X.prog X.w) X.A (newList []) (λ acc s₃=>wpAny (model X.prog X.w) X.A (newFunctionEnv scope X.env.globals cl [] X.env.qual none .none (some X.env)) (λ cenv s₄ =>
  codeAny (model X.prog X.w) X.A (.compStart (.ListComp elt [⟨tg,iter,ifs,0⟩] scope pos) 0 (.ref it) acc { cenv with scope:=relabel scope X.env }) (RR acc cenv.locals) s₄) E s₃) E s:=by
 have hlt : ∀ b ∈ fp,b < s.heap.objs.size:=λ b hb=>by obtain ⟨o,e,_⟩:=T.obj _ _ st b hb; exact Heap.lt_size e
 refine wpAny_newObj_type (wpAny_newFunctionEnv hcell (by intro y hy; simp at hy) (λ h₁ hns₁ hsb₁=>?_) hkind)
 dsimp only at hns₁ hsb₁ ⊢
 generalize hD : s.heap.push { cls:=.type "list",dict:=none,data:=.seq ([] : List Value).toArray } = G at hns₁ hsb₁ ⊢
 have hC : G.objs.size = s.heap.objs.size + 1:=by rw [← hD,Heap.size_push]
 have hCle : s.heap.objs.size <= G.objs.size:=by rw [hC]; exact Nat.le_succ _
 have hDC : s.heap.objs.size ≠ G.objs.size:=by rw [hC]; exact Nat.ne_of_lt (Nat.lt_succ_self _)
 have old : ∀ b o,s.heap.get? b = some o -> h₁.get? b = some o:=λ b o e =>
  hsb₁.extBut b o (by have:=Heap.lt_size e; rw [hC]; exact Nat.ne_of_lt (Nat.lt_succ_of_lt this)) (Heap.get?_push_of_some _ (hD ▸ Heap.get?_push_of_some _ e))
 have hacc : h₁.get? s.heap.objs.size = some { cls:=.type "list",dict:=none,data:=.seq ([] : List Value).toArray }:=hsb₁.extBut _ _ hDC (Heap.get?_push_of_some _ (hD ▸ Heap.get?_push_size _ rfl))
 have hDn : H s.heap.objs.size = none:=I.hok.fresh (Nat.le_refl _)
 have hCn : H G.objs.size = none:=I.hok.fresh hCle
 obtain ⟨W,⟨m0,w0⟩,turn⟩:=h s.heap.objs.size hDn ⟨cl,G.objs.size,s,H,fp⟩
 have ok:=I.compOk (N:=N) (C:=G.objs.size) f hlt hCle hkind hcell h1 h2
 have tup' : ∀ b xs,H b = some (.tup xs) -> upd H s.heap.objs.size (.lst []) b = some (.tup xs):=λ b xs e=>by rw [upd_ne (ne_of_none e hDn)]; exact e
 have hok1 : HOk X.prog X.w (upd H s.heap.objs.size (.lst [])) h₁:=I.hok.laid old (Nat.le_refl _) ⟨Nat.zero_le _,[],_,.nil,hacc⟩
 have I1 : Inv (X.comp N scope cl G.objs.size s H fp) [] (compSt cap σ) (upd H s.heap.objs.size (.lst [])) { s with heap:=h₁,toks:=s.toks + ([] : List (Str × Value)).length }:=by
  refine ⟨ok,rfl,I.bare,Un.laid old (Nat.le_refl _) hDn,⟨_,hns₁,λ i x v e1 e2 e3=>?_⟩,λ x c e=>?_,?_,λ x c e=>?_,(λ p hp=>absurd (show p ∈ ([] : List (Addr × Obj)) from hp) (by simp)),hok1,?_⟩
  ·unfold compSt at e2
   rw [List.getElem?_map] at e2
   cases hj : cap[i]? with
   | none=>rw [hj] at e2; cases e2
   | some o =>
     cases o with
     | none=>rw [hj] at e2; cases e2
     | some j =>
       rw [hj] at e2
       have e2' : (σ[j]?).join = some v:=Option.some.inj e2
       have e4 : σ[j]? = some (some v):=by
        cases q : σ[j]? with
        | none=>rw [q] at e2'; cases e2'
        | some y=>rw [q] at e2'; exact congrArg some e2'
       obtain ⟨c1,c2,c3⟩:=hcap.2 i x j e1 hj
       obtain ⟨m,hn,hl⟩:=I.loc
       obtain ⟨u,r,l⟩:=hl j x v c1 e4 (.inr c2)
       refine ⟨u,r,?_⟩
       rcases l with ⟨k,_⟩ | ⟨_,c,hc',z⟩
       ·rcases c2 with c2 | c2
        ·rw [c2] at k; cases k
        ·rw [c2] at k; cases k
       ·have fm : (x,NameKind.free) ∈ scope.names:=lookup_mem' c3
        obtain ⟨c',hc2⟩:=h2 x fm
        have : c' = c:=by have:=h1 x c' hc2; rw [hc'] at this; exact (Option.some.inj this).symm
        subst this
        obtain ⟨oc,hoc,hd⟩:=z
        refine .inr ⟨?_,c',hc2,⟨oc,old _ _ hoc,hd⟩⟩
        rcases e3 with q | q | q
        ·exact absurd q (relabel_free c3)
        ·exact .inl q
        ·exact .inr q
  ·obtain ⟨v,oc,hoc,hd⟩:=I.cell x c (h1 x c e)
   exact ⟨v,oc,old _ _ hoc,hd⟩
  ·rw [show (X.comp N scope cl G.objs.size s H fp).env.locals = G.objs.size from rfl,upd_ne (Ne.symm hDC)]; exact hCn
  ·have z:=I.freeC x c (h1 x c e)
   obtain ⟨v,oc,hoc,hd⟩:=I.cell x c (h1 x c e)
   rw [upd_ne (Nat.ne_of_lt (Heap.lt_size hoc))]; exact z
  ·unfold compSt; rw [List.length_map]; exact hcap.1
 have fok : ∀ {H' : Hp},(∀ b ∈ fp,H' b = none) -> ∀ b ∈ fp,FpOk (X.comp N scope cl G.objs.size s H fp) [] H' b:=λ hn b hb =>
  ⟨hn b hb,(ok.exf b hb).1,ok.exfs b hb,.inl hb,(ok.exf b hb).2,(λ p hp=>absurd (show p ∈ ([] : List (Addr × Obj)) from hp) (by simp))⟩
 have st1 : tn 0 h₁:=T.keep _ _ _ st λ b _ o e=>old b o e
 have fr1 : ∀ b ∈ fp,upd H s.heap.objs.size (.lst []) b = none:=λ b hb=>by rw [upd_ne (Nat.ne_of_lt (hlt b hb))]; exact (f b hb).1
 have loop : ∀ s₃ : Shared,s₃ = { s with heap:=h₁,toks:=s.toks + ([] : List (Str × Value)).length } ->
  codeAny (model X.prog X.w) X.A (.compLoop (.ListComp elt [⟨tg,iter,ifs,0⟩] scope pos) 0 (.ref it) (.ref s.heap.objs.size) (compEnvC scope cl G.objs.size X.env)) (RR (.ref s.heap.objs.size) G.objs.size) s₃:=by
  rintro s₃ rfl
  refine comp_loop (λ n s'=>∃ i σ' H',Inv (X.comp N scope cl G.objs.size s H fp) [] σ' H' s' /\ tn i s'.heap /\ (∀ b ∈ fp,H' b = none) /\ W i n σ' H') ?_ m0 ⟨0,_,_,I1,st1,fr1,w0⟩
  rintro n s3 ⟨i,σ3,H3,I3,st3,fr3,w3⟩
  rcases turn i n σ3 H3 w3 with ⟨stop,q⟩ | ⟨go,N',hN,step⟩
  ·refine thn (T.done (X.comp N scope cl G.objs.size s H fp) rfl rfl rfl hc i [] s3 σ3 H3 _ I3 (fok fr3) st3 stop) λ r s4 ⟨hr,I4⟩=>?_
   subst hr
   obtain ⟨m,hn,_⟩:=I4.loc
   refine hR _ _ H3 s4 m (I.call' (ch:=fp) I4.os I4.base I4.hok I4.bare λ b hb=>?_) q hn hCle I4.free
   obtain ⟨_,z1,_,z3,z4,z5⟩:=f b hb
   exact ⟨z3,z1,z4,z5⟩
  ·refine thn (T.item (X.comp N scope cl G.objs.size s H fp) rfl rfl rfl hc i [] s3 σ3 H3 _ I3 (fok fr3) st3 go) λ r s4 ⟨u,hr,h4⟩=>?_
   subst hr
   refine thn h4 λ _ s5 ⟨x,H5,I5,r5,y5,st5,fr5⟩=>?_
   have I5':=I5.pinned (fok fr5) (T.obj _ _ st5)
   refine thn (B.tg ⟨cl,G.objs.size,s,H,fp⟩ _ s5 σ3 H5 x u _ I5' r5 (step x H5 y5)) λ _ s6 ⟨σ6,H6,I6,q6⟩=>?_
   refine thn (B.ifs ⟨cl,G.objs.size,s,H,fp⟩ _ s6 σ6 H6 _ I6 q6) λ ok7 s7 ⟨H7,I7,q7⟩=>?_
   have again : ∀ {s8 : Shared} {H8 : Hp},Inv (X.comp N scope cl G.objs.size s H fp) ([] ++ pinsAt fp s5.heap) σ6 H8 s8 -> N' σ6 H8 -> ∃ m,m < n /\ ∃ i σ' H',Inv (X.comp N scope cl G.objs.size s H fp) [] σ' H' s8 /\ tn i s8.heap /\ (∀ b ∈ fp,H' b = none) /\ W i m σ' H':=λ {s8 H8} I8 n8=>by
    obtain ⟨m',hm,w8⟩:=hN σ6 H8 n8
    have pn : ∀ b o,b ∈ fp -> s5.heap.get? b = some o -> s8.heap.get? b = some o /\ H8 b = none:=λ b o hb e =>
     let z:=I8.pin (b,o) (List.mem_append_right _ (List.mem_append_right _ (mem_pinsAt hb e))); ⟨z.1,z.2.1⟩
    refine ⟨m',hm,i + 1,σ6,H8,I8.unpinned,T.keep _ _ _ st5 λ b hb o e=>(pn b o hb e).1,λ b hb=>?_,w8⟩
    obtain ⟨o,e,d⟩:=T.obj _ _ st5 b hb
    exact (pn b o hb e).2
   cases ok7 with
   | false=>rw [if_neg Bool.false_ne_true] at q7 ⊢; exact again I7 q7
   | true =>
     rw [if_pos rfl] at q7 ⊢
     refine thn (B.elt ⟨cl,G.objs.size,s,H,fp⟩ _ s7 σ6 H7 _ I7 q7) λ v s8 ⟨y,H8,I8,r8,ys,hy,hs,n8⟩=>?_
     refine thn (mt_append (X:=X.comp N scope cl G.objs.size s H fp) _ s8 σ6 H8 (.ref s.heap.objs.size) [y] (.ref s.heap.objs.size) [v] (λ z H9=>z = .non /\ H9 = upd H8 s.heap.objs.size (.lst (ys ++ [y]))) I8 rfl (.cons r8 .nil) ⟨_,ys,y,rfl,rfl,hy,hs,rfl,rfl⟩) λ _ s9 ⟨z,H9,I9,_,_,e9⟩=>?_
     subst e9
     exact again I9 n8
 exact codeAny_compStart_list (loop _ rfl) (T.self _ 0 _ _ _ st1 (loop _ rfl))
end
end L2
set_option maxHeartbeats 4000000
namespace L2
open PySem PySem.Spec PyProof.Rows
section
variable {X : Cx} {N : List Str} {scope : Scope} {tg elt iter : Expr} {ifs : List Expr} {pos : Pos} {wi : TI} {g : CP -> TG} {tt : CP -> TT} {te : CP -> TE} {cap : List (Option Nat)}
structure CompSc (X : Cx) (N : List Str) (scope : Scope) (cap : List (Option Nat)) : Prop where
 kind : scope.kind = .function
 cell : ∀ p ∈ scope.names,p.2 ≠ .cell
 names : ∀ p ∈ scope.names,p.2 = .local -> scope.names.lookup p.1 = some .local
 free : ∀ p ∈ scope.names,p.2 = .free -> X.env.kindOf p.1 = some .cell \/ X.env.kindOf p.1 = some .free
 cap : CapOk X N scope cap
def compScB (XN : List Str) (xsc : Scope) (N : List Str) (scope : Scope) (cap : List (Option Nat)) : Bool :=
 scope.kind == .function && scope.names.all (λ p=>p.2 != .cell) && scope.names.all (λ p=>p.2 != .local || scope.names.lookup p.1 == some .local) &&
 scope.names.all (λ p=>p.2 != .free || (xsc.names.lookup p.1 == some .cell || xsc.names.lookup p.1 == some .free)) && cap.length == N.length &&
 (List.range N.length).all λ i=>match N[i]?,cap[i]? with
  | some x,some (some j)=>XN[j]? == some x && (xsc.names.lookup x == some .cell || xsc.names.lookup x == some .free) && scope.names.lookup x == some .free
  | _,_=>true
theorem compSc_of (h : compScB X.N X.env.scope N scope cap = true) : CompSc X N scope cap:=by
 unfold compScB at h
 simp only [Bool.and_eq_true] at h
 obtain ⟨⟨⟨⟨⟨h1,h2⟩,h3⟩,h4⟩,h5⟩,h6⟩:=h
 refine ⟨eq_of_beq h1,λ p hp z=>?_,λ p hp z=>?_,λ p hp z=>?_,eq_of_beq h5,λ i x j e1 e2=>?_⟩
 ·have:=List.all_eq_true.mp h2 p hp
  rw [z] at this; cases this
 ·have:=List.all_eq_true.mp h3 p hp
  rw [z] at this
  simpa using this
 ·have:=List.all_eq_true.mp h4 p hp
  rw [z] at this
  have e : (NameKind.free != NameKind.free) = false:=by decide
  rw [e,Bool.false_or,Bool.or_eq_true] at this
  rcases this with q | q
  ·exact .inl (eq_of_beq q)
  ·exact .inr (eq_of_beq q)
 ·have hi : i < N.length:=(List.getElem?_eq_some_iff.mp e1).1
  have:=List.all_eq_true.mp h6 i (List.mem_range.mpr hi)
  rw [e1,e2] at this
  simp only [Bool.and_eq_true] at this
  exact ⟨eq_of_beq this.1.1,(Bool.or_eq_true _ _ ▸ this.1.2 : _ \/ _).imp eq_of_beq eq_of_beq,eq_of_beq this.2⟩
theorem CompSc.clo {pins : List (Addr × Obj)} {σ : St} {H : Hp} {s : Shared} (S : CompSc X N scope cap) (I : Inv X pins σ H s) :
 ∃ cl,closureFor scope X.env = pure cl /\ (∀ x c,cl.lookup x = some c -> X.env.cells.lookup x = some c) /\ ∀ x,(x,NameKind.free) ∈ scope.names -> ∃ c,cl.lookup x = some c :=
 closure_of λ p hp z=>I.ok.has p.1 (S.free p hp z)
theorem Inv.letGo {pins : List (Addr × Obj)} {σ : St} {H H2 : Hp} {s s2 : Shared} {C : Addr} {h' : Heap} (I2 : Inv X pins σ H2 s2) (I : Inv X pins σ H s) (hC : s2.heap.objs.size <= C) (hn : H C = none) (hs : Heap.SameBut C s.heap h') : Inv X pins σ H { s with heap:=h' }:=by
 obtain ⟨f0,f1,f2,f3,f4,f5⟩:=I2.fpOk (H':=H) hC hn
 exact I.turned (t':=s.toks) (λ b o hb e=>hs.extBut b o hb e) f0 f1 f3 f4 f5
theorem pe_lc (S : CompSc X N scope cap) (hc : X.calm = true) (hi : PI X tg iter wi) (B : CompParts X N scope tg ifs elt g tt te) (hs : ∀ x,foldedSetIterable iter X.env x = pure x:=by intro _; rfl) :
 PE X (.ListComp elt [⟨tg,iter,ifs,0⟩] scope pos) (tLC cap wi g tt te):=by
 intro pins s σ H Q I h
 obtain ⟨cl,hcl,h1,h2⟩:=S.clo I
 rw [eval_ListComp]
 refine wpAny_comprehension_free (use:=none) rfl hs hcl S.kind S.names (thn (hi pins s σ H _ I h) λ v s1 q1=>thn q1 λ itv s2 ⟨it,fp,tn,J,H2,e,I2,T,st,f,q⟩=>?_)
 subst e
 refine comp_block (RR:=λ acc C=>compPost (model X.prog X.w) X.A X.xe none (EP X pins σ Q) acc C) hc S.kind S.cell S.cap B h1 h2 I2.ok.kind I2 T st f q λ D C H' s' m I' q' hn hC hCn=>?_
 exact ⟨m,hn,λ h' hs'=>⟨.ref D,H',I2.letGo I' hC hCn hs',rfl,q'⟩⟩
end
structure Walk (J : It) (xs : List V) (Ok : Hp -> Prop) : Prop where
 go : ∀ i H,i < xs.length -> Ok H -> J.go i H
 stop : ∀ i H,xs.length <= i -> Ok H -> J.stop i H
 yld : ∀ i H x H',i < xs.length -> Ok H -> J.yld i H x H' -> H' = H /\ xs[i]? = some x
theorem walk_list {K : PySem.W.Frag} {a : Addr} {xs : List V} : Walk (Itl K a) xs (λ H=>SqL K H a xs) where
 go:=λ i H h q=>⟨xs,xs[i],q,by simp [h]⟩
 stop:=λ i H h q=>⟨xs,q,h⟩
 yld:=λ i H x H' _ q y=>⟨y.1,y.2 xs q⟩
def chr1 (c : Nat) : V:=.str ⟨#[c]⟩
theorem walk_str {z : Str} : Walk (Its z) (z.cps.toList.map chr1) (λ _=>True) where
 go:=λ i H h _=>by
  rw [List.length_map,Array.length_toList] at h
  exact h
 stop:=λ i H h _=>by
  rw [List.length_map,Array.length_toList] at h
  exact h
 yld:=λ i H x H' _ _ y=>by
  obtain ⟨e,c,hc,rfl⟩:=y
  exact ⟨e,by rw [List.getElem?_map,hc]; rfl⟩
theorem for_walk {J : It} {xs : List V} {Ok : Hp -> Prop} (Wk : Walk J xs Ok) {g : TG} {tb : TS} {D : Ends} {σ : St} {H : Hp} (Pv : Nat -> St -> Hp -> Prop) (h0 : Pv 0 σ H) (hl : ∀ i σ H,i <= xs.length -> Pv i σ H -> Ok H)
 (hs : ∀ i x σ H,xs[i]? = some x -> Pv i σ H -> g x σ H λ σ2 H2=>tb { D with nx:=Pv (i + 1),ct:=Pv (i + 1),bk:=D.nx } σ2 H2) (hd : ∀ σ H,Pv xs.length σ H -> D.nx σ H) :
 ∃ W : Nat -> Nat -> St -> Hp -> Prop,(∃ m,W 0 m σ H) /\ ∀ i m σ H,W i m σ H ->
   (J.stop i H /\ D.nx σ H) \/ (J.go i H /\ ∃ N : St -> Hp -> Prop,(∀ σ' H',N σ' H' -> ∃ m',m' < m /\ W (i + 1) m' σ' H') /\ ∀ x H',J.yld i H x H' -> g x σ H' λ σ2 H2=>tb { D with nx:=N,ct:=N,bk:=D.nx } σ2 H2):=by
 refine ⟨λ i m σ H=>m = xs.length - i /\ i <= xs.length /\ Pv i σ H,⟨xs.length,by simp,Nat.zero_le _,h0⟩,?_⟩
 rintro i m σ H ⟨rfl,hi,p⟩
 have q:=hl i σ H hi p
 by_cases hlt : i < xs.length
 ·refine .inr ⟨Wk.go i H hlt q,Pv (i + 1),λ σ' H' p'=>⟨xs.length - (i + 1),by omega,rfl,hlt,p'⟩,λ x H' y=>?_⟩
  obtain ⟨e,y'⟩:=Wk.yld i H x H' hlt q y
  subst e
  exact hs i x σ _ y' p
 ·have e : i = xs.length:=by omega
  subst e
  exact .inl ⟨Wk.stop _ H (Nat.le_refl _) q,hd σ H p⟩
theorem lc_walk {J : It} {xs : List V} {Ok : Hp -> Prop} (Wk : Walk J xs Ok) {g : TG} {tt : TT} {te : TE} {σ : St} {H : Hp} {D : Addr} {Q : VK} (Pv : Nat -> St -> Hp -> Prop) (h0 : Pv 0 σ H) (hl : ∀ i σ H,i <= xs.length -> Pv i σ H -> Ok H)
 (hs : ∀ i x σ H,xs[i]? = some x -> Pv i σ H -> g x σ H λ σ2 H2=>tt σ2 H2 λ b H3=>if b = true then te σ2 H3 λ v H4=>∃ ys,H4 D = some (.lst ys) /\ ys.length < sizeLine /\ Pv (i + 1) σ2 (upd H4 D (.lst (ys ++ [v]))) else Pv (i + 1) σ2 H3)
 (hd : ∀ σ H,Pv xs.length σ H -> Q (.ref D) H) : LCgo J g tt te D σ H Q:=by
 refine ⟨λ i m σ H=>m = xs.length - i /\ i <= xs.length /\ Pv i σ H,⟨xs.length,by simp,Nat.zero_le _,h0⟩,?_⟩
 rintro i m σ H ⟨rfl,hi,p⟩
 have q:=hl i σ H hi p
 by_cases hlt : i < xs.length
 ·refine .inr ⟨Wk.go i H hlt q,Pv (i + 1),λ σ' H' p'=>⟨xs.length - (i + 1),by omega,rfl,hlt,p'⟩,λ x H' y=>?_⟩
  obtain ⟨e,y'⟩:=Wk.yld i H x H' hlt q y
  subst e
  exact hs i x σ _ y' p
 ·have e : i = xs.length:=by omega
  subst e
  exact .inl ⟨Wk.stop _ H (Nat.le_refl _) q,hd σ H p⟩
theorem lc_pure {J : It} {xs : List V} {Ok : Hp -> Prop} (Wk : Walk J xs Ok) {tt : TT} {te : TE} {H : Hp} {D : Addr} {Q : VK} {caps : St} (p : V -> Bool) (f : V -> V) (hl : ∀ ys,Ok (upd H D (.lst ys))) (hz : xs.length < sizeLine)
 (hs : ∀ (i : Nat) (x : V) (ys : List V) (R : Hp -> Prop),xs[i]? = some x -> ys.length < sizeLine -> (p x = true -> R (upd H D (.lst (ys ++ [f x])))) -> (p x = false -> R (upd H D (.lst ys))) ->
  tt (some x :: caps) (upd H D (.lst ys)) λ b H3=>if b = true then te (some x :: caps) H3 λ v H4=>∃ ys,H4 D = some (.lst ys) /\ ys.length < sizeLine /\ R (upd H4 D (.lst (ys ++ [v]))) else R H3)
 (hd : Q (.ref D) (upd H D (.lst ((xs.filter p).map f)))) : LCgo J (gName 0) tt te D (none :: caps) (upd H D (.lst [])) Q:=by
 refine lc_walk Wk (λ i σ H'=>∃ r,σ = r :: caps /\ H' = upd H D (.lst (((xs.take i).filter p).map f))) ⟨none,rfl,rfl⟩ (λ i σ H' _ ⟨_,_,e⟩=>by rw [e]; exact hl _) ?_ ?_
 ·rintro i x σ H' hx ⟨r,rfl,rfl⟩
  have hlen : (((xs.take i).filter p).map f).length < sizeLine:=by
   rw [List.length_map]
   have:=List.length_filter_le p (xs.take i)
   have h2 : (xs.take i).length <= xs.length:=List.length_take_le' _ _
   omega
  refine hs i x _ (λ H3=>∃ r,some x :: caps = r :: caps /\ H3 = upd H D (.lst (((xs.take (i + 1)).filter p).map f))) hx hlen (λ hp=>⟨_,rfl,?_⟩) (λ hp=>⟨_,rfl,?_⟩)
  ·rw [take_succ_filter p _ i x hx,hp,if_pos rfl,List.map_append]; rfl
  ·rw [take_succ_filter p _ i x hx,hp,if_neg Bool.false_ne_true,List.append_nil]
 ·rintro σ H' ⟨r,rfl,rfl⟩
  rw [List.take_length]; exact hd
end L2
set_option maxHeartbeats 4000000
namespace L2
open PySem PySem.Spec PyProof.Rows
def Small (n : Int) : Prop:=Builtin.Int.intBits n <= 1048576
theorem small_of {n : Int} (h : n.natAbs.log2 + 1 <= 1048576) : Small n:=PySem.intBits_le_iff.mpr (Nat.lt_of_lt_of_le Nat.lt_log2_self (Nat.pow_le_pow_right (by decide) h))
theorem small_zero : Small 0:=by unfold Small; decide
theorem Small.le {m n : Int} (h : Small n) (e : m.natAbs <= n.natAbs) : Small m:=PySem.intBits_le_iff.mpr (Nat.lt_of_le_of_lt e (PySem.intBits_le_iff.mp h))
theorem script_small : ∀ {ns : List Int} {w : Nat},PySem.W.WData.weightAll (ns.map PySem.W.WData.int) <= w -> w <= 1048576 -> ∀ n ∈ ns,Small n
 | [],_,_,_,_,h=>nomatch h
 | x :: r,w,h,hw,n,hn=>by
   rw [List.map_cons] at h
   unfold PySem.W.WData.weightAll at h
   rcases List.mem_cons.mp hn with e | e
   ·subst e
    unfold PySem.W.WData.weight at h
    by_cases z : n = 0
    ·rw [z]; exact small_zero
    ·rw [if_neg (by simpa using z)] at h
     exact small_of (by omega)
   ·exact script_small (ns:=r) (w:=w) (by omega) hw n e
theorem script_layable {ns : List Int} (h : PySem.W.WData.layableAll [PySem.W.WData.list (ns.map PySem.W.WData.int)] = true) : ∀ n ∈ ns,Small n:=by
 unfold PySem.W.WData.layableAll at h
 rw [List.all_cons,Bool.and_eq_true] at h
 have h1:=h.1
 unfold PySem.W.WData.layable at h1
 rw [Bool.and_eq_true] at h1
 have h2:=of_decide_eq_true h1.2
 unfold PySem.W.WData.weight at h2
 exact script_small h2 (by decide)
section
variable {X : Cx}
def CMulB (i j : Int) : Prop:=Builtin.Int.intBits i <= 4000000 /\ Builtin.Int.intBits j <= 4000000
end
end L2
set_option maxHeartbeats 4000000
namespace L2
open PySem PySem.Spec PyProof.Rows
def tx (l : List Nat) : Str:=⟨l.toArray⟩
theorem tx_cps (l : List Nat) : (tx l).cps.toList = l:=rfl
theorem tx_len (l : List Nat) : (tx l).length = l.length:=List.size_toArray ..
theorem tx_app (l m : List Nat) : tx l ++ tx m = tx (l ++ m):=by
 show (⟨l.toArray ++ m.toArray⟩ : Str) = ⟨(l ++ m).toArray⟩
 rw [List.append_toArray]
theorem tx_inj {l m : List Nat} (h : tx l = tx m) : l = m:=congrArg (λ z : Str=>z.cps.toList) h
theorem tx_rep (l : List Nat) (n : Int) : repS (tx l) n = tx (List.replicate n.toNat l).flatten:=rfl
theorem tx_in (c : Nat) (l : List Nat) : (!(Builtin.Str.occurrences (tx l) (tx [c]) 0 (tx l).length 1).isEmpty) = decide (c ∈ l):=StrLaws.found_one (tx l) c
abbrev vt (l : List Nat) : V:=.str (tx l)
theorem cut_to (l : List Nat) (k : Nat) : cutL l none (some (k : Int)) = l.take k:=by
 unfold cutL
 rw [HT.sIx_none,HT.sIx_nat,List.drop_zero,Nat.sub_zero]
 by_cases h : k <= l.length
 ·rw [Nat.min_eq_left h]
 ·rw [Nat.min_eq_right (by omega),List.take_length,List.take_of_length_le (by omega)]
theorem cut_from (l : List Nat) (k : Nat) : cutL l (some (k : Int)) none = l.drop k:=by
 unfold cutL
 rw [HT.sIx_none,HT.sIx_nat]
 by_cases h : k <= l.length
 ·rw [Nat.min_eq_left h,List.take_of_length_le (by rw [List.length_drop]; omega)]
 ·rw [Nat.min_eq_right (by omega),Nat.sub_self,List.take_zero,List.drop_of_length_le (by omega)]
section
variable {X : Cx}
def rIn1 (neg : Bool) : R2:=λ x y H Q=>∃ c l,x = vt [c] /\ y = vt l /\ Q (.bl (if neg then !decide (c ∈ l) else decide (c ∈ l))) H
theorem op_notIn1 : OpR X (compareOp .NotIn) (rIn1 true):=by
 intro pins s σ H x y v u Q I rx ry h
 obtain ⟨c,l,rfl,rfl,q⟩:=h
 exact op_notIn_str pins s σ H _ _ v u Q I rx ry ⟨_,_,rfl,rfl,by rw [tx_in]; exact q⟩
def oNotIn:=(op_notIn1 (X:=X)).or op_notIn_seq
def iAny (K : PySem.W.Frag) (te : TE) : TI:=λ σ H R=>te σ H λ x H1=>(∃ a xs,x = .ref a /\ SqL K H1 a xs /\ R (Itl K a) H1) \/ (∃ a xs,x = .ref a /\ SqT K H1 a xs /\ R (Itt K a) H1) \/ (∃ z,x = .str z /\ R (Its z) H1)
theorem piAny {e : Expr} {te : TE} {nm : Str} {np : Pos} (he : PE X e te) : PI X (.Name nm np) e (iAny X.K te):=by
 intro pins s σ H R I h
 refine thn (he pins s σ H _ I h) λ v s1 ⟨x,H1,I1,r1,q1⟩=>?_
 have fp : ∀ b ∈ [s1.heap.objs.size],FpOk X pins H1 b:=λ b hb=>by
  have e : b = s1.heap.objs.size:=by simpa using hb
  subst e
  exact I1.fpOk (Nat.le_refl _) (I1.hok.fresh (Nat.le_refl _))
 rcases q1 with ⟨a,xs,rfl,hq,q⟩ | ⟨a,xs,rfl,hq,q⟩ | ⟨z,rfl,q⟩
 ·cases r1
  obtain ⟨its,rv,p,hz⟩:=I1.list hq
  exact wpAny_pyIter_list p.isList ⟨s1.heap.objs.size,[s1.heap.objs.size],_,_,H1,rfl,I1.kept (t':=s1.toks) λ b o e=>Heap.get?_push_of_some _ e,turn_list a _,⟨_,Heap.get?_push_size _ rfl,rfl,rfl⟩,fp,q⟩
 ·cases r1
  obtain ⟨its,rv,p,hz⟩:=I1.tuple hq
  exact wpAny_pyIter_tuple (show s1.heap.IsTuple a its.toArray from p) ⟨s1.heap.objs.size,[s1.heap.objs.size],_,_,H1,rfl,I1.kept (t':=s1.toks) λ b o e=>Heap.get?_push_of_some _ e,turn_tuple a _,⟨_,Heap.get?_push_size _ rfl,rfl,rfl⟩,fp,q⟩
 ·obtain ⟨t,rfl⟩:=r1
  cases ha : z.cps.all (· < 128) with
  | false =>
    exact wpAny_pyIter_wide ha ⟨s1.heap.objs.size,[s1.heap.objs.size],_,_,H1,rfl,I1.kept (t':=s1.toks) λ b o e=>Heap.get?_push_of_some _ e,turn_str (ty := "str_iterator") _ z t (λ _ _ _ _ _ _ h1 h2 h3=>wpAny_pyNext_wide_item h1 h2 h3) (λ _ _ _ _ _ h0 h1 h2 h3=>wpAny_pyNext_wide_end h0 h1 h2 h3)
     (λ _ _ _ _ _ h1 h2=>wpAny_pyIter_striter_wide h1 h2),⟨_,Heap.get?_push_size _ rfl,rfl,rfl⟩,fp,q⟩
  | true =>
    exact wpAny_pyIter_ascii ha ⟨s1.heap.objs.size,[s1.heap.objs.size],_,_,H1,rfl,I1.kept (t':=s1.toks) λ b o e=>Heap.get?_push_of_some _ e,turn_str (ty := "str_ascii_iterator") _ z t (λ _ _ _ _ _ _ h1 h2 h3=>wpAny_pyNext_ascii_item h1 h2 h3) (λ _ _ _ _ _ h0 h1 h2 h3=>wpAny_pyNext_ascii_end h0 h1 h2 h3)
     (λ _ _ _ _ _ h1 h2=>wpAny_pyIter_striter_ascii h1 h2),⟨_,Heap.get?_push_size _ rfl,rfl,rfl⟩,fp,q⟩
theorem walk_tx (l : List Nat) : Walk (Its (tx l)) (l.map λ c=>vt [c]) (λ _=>True):=walk_str
theorem strsAre_of : ∀ {ls : List (List Nat)} {us : List Value},Vals (ls.map vt) us -> StrsAre us (ls.map tx)
 | [],_,.nil=>.nil
 | l :: ls,_,.cons r t=>by
   obtain ⟨k,rfl⟩:=r
   exact .cons _ _ (strsAre_of t)
theorem sum_lens (ls : List (List Nat)) : ((ls.map tx).map (·.length)).sum = ls.flatten.length:=by
 induction ls with
 | nil=>rfl
 | cons l r ih=>rw [List.map_cons,List.map_cons,List.sum_cons,ih,tx_len,List.flatten_cons,List.length_append]
def between (sep : List Nat) : List (List Nat) -> List Nat
 | []=>[]
 | [l]=>l
 | l :: m :: r=>l ++ sep ++ between sep (m :: r)
theorem between_nil (ls : List (List Nat)) : between [] ls = ls.flatten:=by
 induction ls with
 | nil=>rfl
 | cons l r ih =>
   cases r with
   | nil=>simp [between]
   | cons m r=>unfold between; rw [ih]; simp
theorem tx_join (sep : List Nat) : ∀ ls : List (List Nat),Txt.join (tx sep) (ls.map tx) = tx (between sep ls):=by
 intro ls
 show Builtin.Str.glued (tx sep) (ls.map tx) = _
 rw [StrLaws.glued_eq_join]
 induction ls with
 | nil=>rfl
 | cons l r ih =>
   cases r with
   | nil=>rfl
   | cons m r =>
     rw [List.map_cons,List.map_cons]
     show tx l ++ tx sep ++ Str.join (tx sep) (tx m :: r.map tx) = _
     rw [List.map_cons] at ih
     rw [ih,tx_app,tx_app]
     rfl
def rJoin (K : PySem.W.Frag) : V -> List V -> Hp -> VK -> Prop:=λ x vs H Q=>∃ sep p ls,x = vt sep /\ vs = [.ref p] /\ (SqL K H p (ls.map vt) \/ SqT K H p (ls.map vt)) /\ ls.flatten.length + ls.length * sep.length <= 16777216 /\ Q (vt (between sep ls)) H
theorem mt_join : MtR X "str.join" (rJoin X.K):=by
 intro pins s σ H x vs v us Q I rx rs h
 obtain ⟨sep,p,ls,rfl,rfl,hp,hz,q⟩:=h
 obtain ⟨t,rfl⟩:=rx
 obtain ⟨u,rfl,ru⟩:=vals1 rs
 cases (show u = Value.ref p from ru)
 rw [show vt (between sep ls) = .str (Txt.join (tx sep) (ls.map tx)) by rw [tx_join]] at q
 have hok : ((ls.map tx).map (·.length)).sum + (ls.map tx).length * (tx sep).length <= 16777216:=by rw [sum_lens,List.length_map,tx_len]; exact hz
 have fin : ∀ t' k,EP X pins σ Q (.str (Txt.join (tx sep) (ls.map tx)) t') { s with toks:=k }:=λ t' k=>⟨.str _,H,I.tok k,⟨t',rfl⟩,q⟩
 rcases hp with hp | hp
 ·obtain ⟨its,rv,p',_⟩:=I.list hp
  exact join_list p'.isList (by simpa using strsAre_of rv) hok fin
 ·obtain ⟨its,rv,p',_⟩:=I.tuple hp
  exact join_tuple p' (by simpa using strsAre_of rv) hok fin
def SignOk (z : Str) : Prop:=z.length <= 100000 /\ ∀ c ∈ z.cps.toList,c < 16 ^ 8
def PF (X : Cx) (e : Expr) (t : St -> Hp -> (Str -> Hp -> Prop) -> Prop) : Prop:=∀ (pins : List (Addr × Obj)) (s : Shared) (σ : St) (H : Hp) (Q : Str -> Hp -> Prop),Inv X pins σ H s -> t σ H Q ->
 wpAny (model X.prog X.w) X.A (eval e X.env) (λ u s'=>∃ z tk H',u = .str z tk /\ Inv X pins σ H' s' /\ Q z H') X.xe s
theorem pf_str {z : Str} {j pos} : PF X (.Constant (.str z) j pos) (λ _ H Q=>Q z H):=λ _ _ _ H _ I h=>Calls.Constant_str ⟨z,_,H,rfl,I.tok _,h⟩
theorem pf_repr {e : Expr} {te : TE} {pos : Pos} (he : PE X e te) : PF X (.FormattedValue e 114 none pos) (λ σ H Q=>te σ H λ x H1=>∃ z,x = .str z /\ SignOk z /\ ∀ y : Str,y.length <= 10 * z.length + 2 -> Q y H1):=by
 intro pins s σ H Q I h
 refine wpAny_FormattedValue_repr (thn (he pins s σ H _ I h) λ v s1 ⟨x,H1,I1,r1,z,e1,hz,q⟩=>?_)
 subst e1
 obtain ⟨t,rfl⟩:=r1
 have hl:=StrLaws.reprText_len z hz.2
 have hs : (PySem.reprText z).length <= sizeLine:=by have:=hz.1; rw [sizeLine_eq]; omega
 refine wpAny_pyReprObj_str ?_ hs
 exact wpAny_formatField_str ⟨_,_,H1,rfl,I1.tok _,q _ hl⟩ ⟨_,_,H1,rfl,I1.tok _,q _ hl⟩ hs
def PFs (X : Cx) (es : List Expr) (t : Str -> St -> Hp -> (Str -> Hp -> Prop) -> Prop) : Prop:=∀ (acc : Str) (pins : List (Addr × Obj)) (s : Shared) (σ : St) (H : Hp) (Q : Str -> Hp -> Prop),Inv X pins σ H s -> t acc σ H Q ->
 Joins (model X.prog X.w) X.A X.xe (evalEach es X.env) acc (λ out s'=>∃ H',Inv X pins σ H' s' /\ Q out H') s
theorem pfs_nil : PFs X [] (λ acc _ H Q=>Q acc H):=λ acc pins s σ H Q I h=>⟨H,I,h⟩
theorem pfs_cons {e : Expr} {es : List Expr} {t : St -> Hp -> (Str -> Hp -> Prop) -> Prop} {u : Str -> St -> Hp -> (Str -> Hp -> Prop) -> Prop} (he : PF X e t) (hs : PFs X es u) :
 PFs X (e :: es) (λ acc σ H Q=>t σ H λ z H1=>(acc ++ z).length <= sizeLine /\ u (acc ++ z) σ H1 Q):=by
 intro acc pins s σ H Q I h
 show wpAny _ _ (eval e X.env) _ _ s
 exact thn (he pins s σ H _ I h) λ v s1 ⟨z,tk,H1,e1,I1,hz,q⟩=>⟨z,tk,e1,hz,hs (acc ++ z) pins s1 σ H1 Q I1 q⟩
def tJoined (u : Str -> St -> Hp -> (Str -> Hp -> Prop) -> Prop) : TE:=λ σ H Q=>u Str.empty σ H λ out H1=>out.length <= sizeLine /\ Q (.str out) H1
theorem joins_mono {M : Model} {A : Around} {E : Value -> Shared -> Prop} : ∀ (ps : List (Sem Value)) (acc : Str) (Q Q' : Str -> Shared -> Prop) (s : Shared),(∀ z s,Q z s -> Q' z s) -> Joins M A E ps acc Q s -> Joins M A E ps acc Q' s
 | [],_,_,_,_,k,h=>k _ _ h
 | p :: ps,acc,Q,Q',s,k,h=>thn h λ v s1 ⟨y,t,e,hz,hr⟩=>⟨y,t,e,hz,joins_mono ps _ Q Q' s1 k hr⟩
theorem pe_joined {e1 e2 : Expr} {es : List Expr} {u : Str -> St -> Hp -> (Str -> Hp -> Prop) -> Prop} {pos : Pos} (h : PFs X (e1 :: e2 :: es) u) : PE X (.JoinedStr (e1 :: e2 :: es) pos) (tJoined u):=by
 intro pins s σ H Q I hq
 refine wpAny_JoinedStr (joins_mono _ _ _ _ _ (λ z s' ⟨H',I',hz,q⟩=>⟨hz,.str z,H',I'.tok _,⟨_,rfl⟩,q⟩) (h Str.empty pins s σ H _ I hq))
end
end L2
set_option maxHeartbeats 4000000
namespace L2
open PySem PySem.Spec PyProof.Rows
def addNew (acc : List Nat) (c : Nat) : List Nat:=if c ∈ acc then acc else acc ++ [c]
def firsts (l : List Nat) : List Nat:=l.foldl addNew []
def memb (l : List Nat) : Str -> Bool:=λ z=>decide (∃ c ∈ firsts l,z = tx [c])
def SignSet (P : Program) (w : World) (h : Heap) (a : Addr) (l : List Nat) : Prop:=h.SetOf (strKind P w) a (memb l) (firsts l).length
theorem SignSet.at {P : Program} {w : World} {h h' : Heap} {a : Addr} {l : List Nat} (S : SignSet P w h a l) (k : ∀ o,h.get? a = some o -> h'.get? a = some o) : SignSet P w h' a l:=by
 obtain ⟨o,es,ep,tb,ho,r⟩:=S
 exact ⟨o,es,ep,tb,k o ho,r⟩
section
variable {prog : Program} {w : World} {A : Around} {R : Result -> Shared -> Prop} {I : Addr} {fp wr : List Addr} {G : Array GenState -> Array GenState -> Prop} {l : List Nat} {St : Nat -> Shared -> Prop}
end
namespace SetF
end SetF
section
variable {prog : Program} {w : World} {A : Around} {E : Value -> Shared -> Prop} {s : Shared}
end
end L2
set_option maxHeartbeats 4000000
namespace L2
open PySem PySem.Spec PyProof.Rows
structure PAs (X : Cx) (es : List Expr) (t : TA) : Prop where
 h : PA X es t
theorem pas_nil {X : Cx} : PAs X [] tNil:=⟨pa_nil⟩
theorem pas_cons {X : Cx} {e : Expr} {te : TE} {es : List Expr} {t : TA} (ha : PE X e te) (hr : PAs X es t) (hs : starEach (e :: es) X.env = (false,eval e X.env) :: starEach es X.env:=by rfl) : PAs X (e :: es) (tCons te t):=⟨pa_cons ha hr.h hs⟩
section
variable {X : Cx}
theorem truth_at {bs : List Bool} {us : List Value} (r : Vals (bs.map V.bl) us) (A : Around) : TruthOf X.prog X.w A (λ i v=>us.toArray[i]? = some v) (λ i=>bs.getD i false):=by
 intro i v s Q E hv hq
 have hv' : us[i]? = some v:=by simpa using hv
 have hl:=r.length
 rw [List.length_map] at hl
 have hi : i < bs.length:=by have:=(List.getElem?_eq_some_iff.mp hv').1; omega
 obtain ⟨u,hu,ru⟩:=r.get (i:=i) (x:=.bl bs[i]) (by rw [List.getElem?_map,List.getElem?_eq_getElem hi]; rfl)
 rw [hv'] at hu; cases hu
 cases (show v = Value.bool bs[i] from ru)
 refine wpAny_truthy_bool ?_
 have e : bs.getD i false = bs[i]:=by rw [List.getD_eq_getElem?_getD,List.getElem?_eq_getElem hi]; rfl
 rw [← e]; exact hq
theorem all_range (bs : List Bool) : (List.range bs.length).all (λ i=>bs.getD i false) = bs.all id:=by
 induction bs with
 | nil=>rfl
 | cons b r ih =>
   rw [List.length_cons,List.range_succ_eq_map,List.all_cons,List.all_map,List.all_cons,← ih]
   rfl
theorem callAll (hc : X.calm = true) : CallR X (.builtin "all") (λ xs H Q=>∃ (p : Addr) (bs : List Bool),xs = [.ref p] /\ SqL X.K H p (bs.map V.bl) /\ Q (.bl (bs.all id)) H):=by
 intro pins s σ H vs us Q I r h
 obtain ⟨p,bs,rfl,hp,q⟩:=h
 obtain ⟨u,rfl,ru⟩:=vals1 r
 cases (show u = Value.ref p from ru)
 obtain ⟨its,rv,pl,_⟩:=I.list hp
 have hlen : its.toArray.size = bs.length:=by have:=rv.length; rw [List.length_map] at this; simp [this]
 have hne : p ≠ s.heap.objs.size:=by obtain ⟨o,ho,_⟩:=pl.isList; exact Nat.ne_of_lt (Heap.lt_size ho)
 have hh:=I.ok.hd hc
 refine call_all_walk (wpAny_pyIter_list pl.isList ⟨s.heap.objs.size,_,_,_,_,_,λ i=>bs.getD i false,rfl,Walks.list (by simp [hh]) _ p hne its.toArray,⟨⟨_,Heap.get?_push_size _ rfl,rfl,rfl⟩,pl.isList.push _⟩,truth_at rv _,λ h' tk k=>?_⟩)
 rw [hlen,all_range]
 refine ⟨.bl _,H,I.kept (t':=tk) λ b u e=>k b u ?_ (Heap.get?_push_of_some _ e),rfl,q⟩
 intro z
 exact absurd (Heap.lt_size e) (by rw [List.mem_singleton.mp z]; exact Nat.lt_irrefl _)
theorem vals_signs : ∀ (l : List Nat) (us : List Value),us.length = l.length -> (∀ (j : Nat) v,us[j]? = some v -> SignAt (tx l) j v) -> Vals (l.map λ c=>vt [c]) us:=by
 intro l us hl h
 have key : ∀ (us : List Value) (m : Nat),us.length + m = l.length -> (∀ (j : Nat) v,us[j]? = some v -> SignAt (tx l) (m + j) v) -> Vals ((l.drop m).map λ c=>vt [c]) us:=by
  intro us
  induction us with
  | nil=>intro m hm _; rw [List.drop_of_length_le (by simp at hm; omega)]; exact .nil
  | cons u r ih =>
    intro m hm hs
    rw [List.length_cons] at hm
    obtain ⟨c,tk,hc,rfl⟩:=hs 0 u rfl
    have hc' : l[m]? = some c:=by rw [← tx_cps l,Array.getElem?_toList]; exact hc
    obtain ⟨hlt,e⟩:=List.getElem?_eq_some_iff.mp hc'
    rw [List.drop_eq_getElem_cons hlt,e,List.map_cons]
    refine .cons ⟨tk,rfl⟩ (ih (m + 1) (by omega) λ j v hv=>?_)
    have:=hs (j + 1) v hv
    rw [show m + (j + 1) = m + 1 + j by omega] at this
    exact this
 have:=key us 0 (by omega) (λ j v hv=>by rw [Nat.zero_add]; exact h j v hv)
 rwa [List.drop_zero] at this
theorem callListS (hc : X.calm = true) : CallR X (.type "list") (λ xs H Q=>∃ l,xs = [vt l] /\ l.length <= sizeLine /\ ∀ p,H p = none -> Q (.ref p) (upd H p (.lst (l.map λ c=>vt [c])))):=by
 intro pins s σ H vs us Q I r h
 obtain ⟨l,rfl,hl,q⟩:=h
 obtain ⟨u,rfl,ru⟩:=vals1 r
 obtain ⟨t,rfl⟩:=ru
 have sz : (tx l).cps.size = l.length:=List.size_toArray ..
 refine call_list_str (I.ok.hd hc) (tx l) t (λ h' tk acc c' k e it=>?_) (by rw [sz]; exact hl)
 have hv:=vals_signs l acc.toList (by rw [Array.length_toList,it.1,sz]) λ j v hv=>it.2 j v (by simpa using hv)
 refine ⟨.ref s.heap.objs.size,_,I.laid (o:=.lst (l.map λ c=>vt [c])) k (Nat.le_refl _) ⟨by rw [List.length_map]; exact hl,acc.toList,c',hv,by simpa using e⟩,rfl,q _ (I.hok.fresh (Nat.le_refl _))⟩
def callList (hc : X.calm = true):=(call_list_of (X:=X)).or (callListS hc)
theorem eqVs_min {xs ys : List V} : ((List.range (min xs.length ys.length)).all (λ j=>eqV (xs.getD j .non) (ys.getD j .non)) && xs.length == ys.length) = eqVs xs ys:=by
 by_cases h : xs.length = ys.length
 ·rw [h,Nat.min_self,beq_self_eq_true,Bool.and_true,← h,eqVs_all h]
 ·rw [eqVs_len h,beq_eq_false_iff_ne.mpr h,Bool.and_false]
def rEqT (K : PySem.W.Frag) (neg : Bool) : R2:=λ x y H Q=>∃ a b xs ys,x = .ref a /\ y = .ref b /\ SqT K H a xs /\ SqT K H b ys /\ xs.all flatV = true /\ ys.all flatV = true /\ Q (.bl (if neg then !eqVs xs ys else eqVs xs ys)) H
theorem op_eqT (hu : X.A.units < cLine) : OpR X (compareOp .Eq) (rEqT X.K false):=by
 intro pins s σ H x y v u Q I rx ry h
 obtain ⟨a,b,xs,ys,rfl,rfl,ha,hb,fx,fy,q⟩:=h
 cases (show v = Value.ref a from rx)
 cases (show u = Value.ref b from ry)
 obtain ⟨its,rv,p,_⟩:=I.tuple ha
 obtain ⟨its2,rv2,p2,_⟩:=I.tuple hb
 refine SeqAt.eq_tupleAt (e:=λ j=>eqV (xs.getD j .non) (ys.getD j .non)) p p2 hu (λ j h1 h2=>eqAt_items rv rv2 fx fy j h1 h2) ?_
 refine ⟨.bl _,H,I,rfl,?_⟩
 rw [show its.toArray.size = xs.length by simp [rv.length],show its2.toArray.size = ys.length by simp [rv2.length],eqVs_min]
 exact q
theorem op_neT (hu : X.A.units < cLine) : OpR X (compareOp .NotEq) (rEqT X.K true):=by
 intro pins s σ H x y v u Q I rx ry h
 obtain ⟨a,b,xs,ys,rfl,rfl,ha,hb,fx,fy,q⟩:=h
 cases (show v = Value.ref a from rx)
 cases (show u = Value.ref b from ry)
 obtain ⟨its,rv,p,_⟩:=I.tuple ha
 obtain ⟨its2,rv2,p2,_⟩:=I.tuple hb
 refine SeqAt.RcNeAt.tuples (e:=λ j=>eqV (xs.getD j .non) (ys.getD j .non)) p p2 hu (λ j h1 h2=>eqAt_items rv rv2 fx fy j h1 h2) X.prog X.w X.xe _ ?_
 refine ⟨.bl _,H,I,rfl,?_⟩
 rw [show its.toArray.size = xs.length by simp [rv.length],show its2.toArray.size = ys.length by simp [rv2.length],eqVs_min]
 exact q
def oEqA (hu : X.A.units < cLine):=(op_eq (X:=X)).or ((op_eqL hu).or (op_eqT hu))
theorem Inv.big {pins : List (Addr × Obj)} {σ : St} {H : Hp} {s : Shared} (I : Inv X pins σ H s) : sysModules < s.heap.objs.size :=
 Nat.lt_trans (by decide) (I.mod.glob.keeps I.bk).lt
def tDNewK : TE:=λ _ H Q=>∀ p,H p = none -> Q (.ref p) (upd H p (.dK []))
theorem pe_dnewK {pos : Pos} : PE X (.Dict [] [] pos) tDNewK:=λ pins s σ H Q I h =>
 wpAny_Dict_empty ⟨.ref s.heap.objs.size,_,I.laid (a:=s.heap.objs.size) (o:=.dK []) (t':=s.toks) (λ _ _ q=>Heap.get?_push_of_some _ q) (Nat.le_refl _)
  ⟨Nat.zero_le _,beq_eq_false_iff_ne.mpr (Ne.symm (Nat.ne_of_lt I.big)),[],.nil,Heap.DictOf.new s.heap⟩,rfl,h _ (I.hok.fresh (Nat.le_refl _))⟩
end
end L2
namespace L2
open PySem PySem.Spec PyProof.Rows
section
variable {X : Cx}
theorem vals_intsAt : ∀ {ns : List Int} {us : List Value},Vals (ns.map V.int) us -> ∀ (j : Nat) v,us[j]? = some v -> ∃ t,v = .int (ns.getD j 0) t
 | [],_,r,j,v,h=>by
   cases r; cases h
 | n :: ns,_,r,j,v,h=>by
   cases r with
   | cons a r =>
     cases j with
     | zero=>cases h; obtain ⟨t,e⟩:=a; exact ⟨t,e⟩
     | succ j=>exact vals_intsAt r j v h
theorem preSum_list : ∀ (ns : List Int),PySem.preSum (λ j=>ns.getD j 0) ns.length = ns.sum:=by
 intro ns
 have go : ∀ (l : List Int) (k : Nat),k <= l.length -> PySem.preSum (λ j=>l.getD j 0) k = (l.take k).sum:=by
  intro l k
  induction k with
  | zero=>intro _; rw [List.take_zero]; rfl
  | succ k ih =>
    intro h
    show PySem.preSum _ k + l.getD k 0 = _
    rw [ih (by omega),List.take_add_one,List.sum_append_int,List.getElem?_eq_getElem (by omega),List.getD_eq_getElem?_getD,List.getElem?_eq_getElem (by omega)]
    simp
 rw [go ns _ (Nat.le_refl _),List.take_length]
theorem callSum (hc : X.calm = true) : CallR X (.builtin "sum") (λ xs H Q=>∃ (p : Addr) (ns : List Int),xs = [.ref p] /\ SqL X.K H p (ns.map V.int) /\ Q (.int ns.sum) H):=by
 intro pins s σ H vs us Q I r h
 obtain ⟨p,ns,rfl,hp,q⟩:=h
 obtain ⟨u,rfl,ru⟩:=vals1 r
 cases (show u = Value.ref p from ru)
 obtain ⟨its,rv,pl,_⟩:=I.list hp
 have hlen : its.toArray.size = ns.length:=by have:=rv.length; rw [List.length_map] at this; simp [this]
 have hl:=pl.isList
 obtain ⟨o,ho,_⟩:=id hl
 have hne : p ≠ s.heap.objs.size:=Nat.ne_of_lt (Heap.lt_size ho)
 have hh:=I.ok.hd hc
 have W:=(Walks.list (prog:=X.prog) (w:=X.w) (A:=X.A.in1) hh s.heap.objs.size p hne its.toArray).toS
 rw [hlen] at W
 refine call_sum_walkAnyS (wpAny_pyIter_list hl ?_)
 refine ⟨s.heap.objs.size,_,_,_,_,_,_,λ j=>ns.getD j 0,rfl,W,⟨⟨_,Heap.get?_push_size _ rfl,rfl,rfl⟩,hl.push _⟩,λ b hb=>?_,λ i v hP=>vals_intsAt rv i v (by simpa using hP),λ s' t' hm=>?_⟩
 ·rcases List.mem_cons.mp hb with rfl | hb
  ·exact Heap.lt_size (Heap.get?_push_size _ rfl)
  ·obtain rfl:=List.mem_singleton.mp hb
   exact Heap.lt_size (Heap.get?_push_of_some _ ho)
 ·obtain ⟨h',g',d',tk',os'⟩:=s'
  have e1 : g' = s.gens:=hm.gens
  have e2 : d' = s.drawn:=hm.drawn
  have e3 : os' = s.os:=hm.os
  subst e1 e2 e3
  rw [preSum_list]
  exact ⟨.int _,H,I.kept (t':=tk') λ b u e=>hm.heap b u (λ hb=>absurd (Heap.lt_size e) ((List.mem_singleton.mp hb) ▸ Nat.lt_irrefl _)) (Heap.get?_push_of_some _ e),⟨_,rfl⟩,q⟩
end
end L2
namespace L2
open PySem PySem.Spec PyProof.Rows
section
variable {K : PySem.W.Frag}
theorem same_new {H : Hp} {p : Addr} (h : H p = none) (o : HO) : Same H (upd H p o):=λ b u q=>by rw [upd_ne (ne_of_none q h)]; exact q
theorem same_over {H H3 : Hp} {p : Addr} (s : Same H H3) (h : H p = none) (o : HO) : Same H (upd H3 p o):=λ b u q=>by rw [upd_ne (ne_of_none q h)]; exact s b u q
theorem same_tup {H H' : Hp} {a : Addr} {xs : List V} (e : Same H H') (h : SqT K H a xs) : SqT K H' a xs:=by
 rcases h with (h | ⟨o,h⟩) | h
 ·exact .inl (.inl (e _ _ h))
 ·exact .inl (.inr ⟨o,e _ _ h⟩)
 ·exact .inr h
theorem same_lst {H H' : Hp} {a : Addr} {xs : List V} (e : Same H H') (h : SqL K H a xs) : SqL K H' a xs:=e.seq h
theorem same_at {H H' : Hp} {a : Addr} {o : HO} (e : Same H H') (h : H a = some o) : H' a = some o:=e _ _ h
theorem new_tup {H : Hp} {p a : Addr} {o : HO} {xs : List V} (n : H p = none) (h : SqT K H a xs) : SqT K (upd H p o) a xs:=same_tup (same_new n o) h
theorem new_lst {H : Hp} {p a : Addr} {o : HO} {xs : List V} (n : H p = none) (h : SqL K H a xs) : SqL K (upd H p o) a xs:=same_lst (same_new n o) h
theorem new_at {H : Hp} {p a : Addr} {o u : HO} (n : H p = none) (h : H a = some u) : upd H p o a = some u:=same_new n o _ _ h
theorem new_same {H H1 : Hp} {p : Addr} {o : HO} (n : H1 p = none) (h : Same H H1) : Same H (upd H1 p o):=h.trans (same_new n o)
theorem ne_at {H : Hp} {p a : Addr} {o u : HO} (n : a ≠ p) (h : H a = some u) : upd H p o a = some u:=by rw [upd_ne n]; exact h
theorem ne_tup {H : Hp} {p a : Addr} {o : HO} {xs : List V} (n : a ≠ p) (h : SqT K H a xs) : SqT K (upd H p o) a xs:=by
 rcases h with (h | ⟨u,h⟩) | h
 ·exact .inl (.inl (ne_at n h))
 ·exact .inl (.inr ⟨u,ne_at n h⟩)
 ·exact .inr h
theorem ne_lst {H : Hp} {p a : Addr} {o : HO} {xs : List V} (n : a ≠ p) (h : SqL K H a xs) : SqL K (upd H p o) a xs:=by
 rcases h with (h | ⟨u,h⟩) | h
 ·exact .inl (.inl (ne_at n h))
 ·exact .inl (.inr ⟨u,ne_at n h⟩)
 ·exact .inr h
theorem over_same {H H1 : Hp} {p : Addr} {o : HO} (n : H p = none) (h : Same H H1) : Same H (upd H1 p o):=same_over h n o
theorem ixL {H : Hp} {Q : VK} {p : Addr} {xs : List V} {i : Int} {v : V} (h : SqL K H p xs) (e : atI xs i = some v) (q : Q v H) : rIx K (.ref p) (.int i) H Q:=.inl ⟨p,xs,i,v,rfl,rfl,h,e,q⟩
theorem ixT {H : Hp} {Q : VK} {p : Addr} {xs : List V} {i : Int} {v : V} (h : SqT K H p xs) (e : atI xs i = some v) (q : Q v H) : rIx K (.ref p) (.int i) H Q:=.inr (.inl ⟨p,xs,i,v,rfl,rfl,h,e,q⟩)
theorem ixS {H : Hp} {Q : VK} {l : List Nat} {i : Int} {c : Nat} (h : l.length <= sizeLine) (e : atI l i = some c) (q : Q (vt [c]) H) : rIx K (vt l) (.int i) H Q:=.inr (.inr ⟨tx l,i,c,rfl,rfl,by rw [tx_len]; exact h,e,q⟩)
theorem appL {H : Hp} {Q : VK} {l : Addr} {xs : List V} {y : V} (h : H l = some (.lst xs)) (z : xs.length < sizeLine) (q : Q .non (upd H l (.lst (xs ++ [y])))) : rAppend (.ref l) [y] H Q:=⟨l,xs,y,rfl,rfl,h,z,q⟩
theorem tyL {H : Hp} {p : Addr} {xs : List V} (h : SqL K H p xs) : tyV K "list" (.ref p) H:=.inl ⟨rfl,_,h⟩
theorem cutT {H : Hp} {Q : VK} {l : List Nat} {lo hi : Option Int} (z : l.length <= sizeLine) (q : Q (vt (cutL l lo hi)) H) : rSlS (vt l) lo hi H Q:=⟨tx l,rfl,by rw [tx_len]; exact z,q⟩
theorem lenvS {H : Hp} {l : List Nat} (h : l.length <= sizeLine) : LenV K (vt l) H l.length:=⟨by rw [tx_len]; exact h,(tx_len l).symm⟩
theorem ifT {c A B : Prop} [Decidable c] (h : c) (a : A) : if decide c = true then A else B:=by rw [decide_eq_true h]; exact iteT a
theorem ifF {c A B : Prop} [Decidable c] (h : ¬ c) (b : B) : if decide c = true then A else B:=by rw [decide_eq_false h]; exact iteF b
theorem ifnT {c A B : Prop} [Decidable c] (h : ¬ c) (a : A) : if (!decide c) = true then A else B:=by rw [decide_eq_false h]; exact iteT a
theorem ifnF {c A B : Prop} [Decidable c] (h : c) (b : B) : if (!decide c) = true then A else B:=by rw [decide_eq_true h]; exact iteF b
theorem if2 {c A B : Prop} [Decidable c] (a : c -> A) (b : ¬ c -> B) : if decide c = true then A else B:=by
 by_cases h : c
 ·exact ifT h (a h)
 ·exact ifF h (b h)
theorem ifn2 {c A B : Prop} [Decidable c] (a : ¬ c -> A) (b : c -> B) : if (!decide c) = true then A else B:=by
 by_cases h : c
 ·exact ifnF h (b h)
 ·exact ifnT h (a h)
theorem vtx {l m : List Nat} : (vt l = vt m) ↔ l = m:=⟨λ h=>tx_inj (V.str.inj h),congrArg _⟩
theorem cdivK {i j : Int} (h : 0 < j) (h2 : j < 1000000000) : CDivL i j:=by
 refine ⟨by omega,Nat.lt_of_lt_of_le (show j.natAbs < 2 ^ 30 by omega) (Nat.pow_le_pow_right (by decide) (by decide))⟩
def MulOk (i j : Int) : Prop:=CMul i j \/ CMulL i j \/ CMulB i j
theorem mulN {X : Cx} : OpR X (binaryOp .Mult) (rI MulOk λ i j=>.int (i * j)):=opI λ _ _ _ _ _ _ _ hc q=>by
 rcases hc with hc | hc | hc
 ·exact mul_int q hc.ok
 ·exact mul_int q (PySem.IntMulOk.of_le (bits_of hc.1) (bits_of hc.2) (by decide))
 ·exact mul_int q (PySem.IntMulOk.of_le hc.1 hc.2 (by decide))
def rCatX : R2:=λ x y H Q=>∃ l m,x = vt l /\ y = vt m /\ l.length + m.length <= sizeLine /\ Q (vt (l ++ m)) H
theorem op_catX {X : Cx} : OpR X (binaryOp .Add) rCatX:=λ pins s σ H x y v u Q I rx ry h=>by
 obtain ⟨l,m,rfl,rfl,hz,q⟩:=h
 exact op_add_str pins s σ H _ _ v u Q I rx ry ⟨_,_,rfl,rfl,by rw [tx_len,tx_len]; exact hz,by rw [tx_app]; exact q⟩
theorem ip_catX {X : Cx} : OpR X (inplaceOp .Add) rCatX:=λ pins s σ H x y v u Q I rx ry h=>by
 obtain ⟨l,m,rfl,rfl,hz,q⟩:=h
 exact iop_add_str pins s σ H _ _ v u Q I rx ry ⟨_,_,rfl,rfl,by rw [tx_len,tx_len]; exact hz,by rw [tx_app]; exact q⟩
def rRepX : R2:=λ x y H Q=>∃ l n,x = vt l /\ y = .int n /\ (0 <= n /\ n <= 4000 /\ l.length <= 4000) /\ Q (vt (List.replicate n.toNat l).flatten) H
theorem op_repX {X : Cx} : OpR X (binaryOp .Mult) rRepX:=λ pins s σ H x y v u Q I rx ry h=>by
 obtain ⟨l,n,rfl,rfl,⟨h1,h2,h3⟩,q⟩:=h
 exact op_mul_str pins s σ H _ _ v u Q I rx ry ⟨_,_,rfl,rfl,h1,h2,by rw [tx_len]; exact h3,by rw [tx_rep]; exact q⟩
def oMulN {X : Cx}:=(mulN (X:=X)).or (op_repX.or op_rep)
def oAddN {X : Cx}:=(op_add (X:=X)).or (op_catX.or (op_cat.or op_catT))
theorem catX {H : Hp} {Q : VK} {l m : List Nat} (z : l.length + m.length <= sizeLine) (q : Q (vt (l ++ m)) H) : rCatX (vt l) (vt m) H Q:=⟨l,m,rfl,rfl,z,q⟩
theorem mulL {i j : Int} (h1 : -(2 ^ 64) < i) (h2 : i < 2 ^ 64) : MulOk i j:=.inl (.inl ⟨h1,h2⟩)
theorem mulR {i j : Int} (h1 : -(2 ^ 64) < j) (h2 : j < 2 ^ 64) : MulOk i j:=.inl (.inr ⟨h1,h2⟩)
theorem mulB {i j : Int} (h1 : i.natAbs < 2 ^ 100000) (h2 : j.natAbs < 2 ^ 100000) : MulOk i j:=.inr (.inl ⟨h1,h2⟩)
theorem ip_addN {X : Cx} : OpR X (inplaceOp .Add) (rI0 λ i j=>.int (i + j)):=opI0 λ _ _ _ _ _ _ _ q=>PyProof.Rows.iadd_int q
def ipAdd {X : Cx}:=(ip_addN (X:=X)).or ip_catX
theorem lc_vals {J : It} {xs : List V} {Ok : Hp -> Prop} (Wk : Walk J xs Ok) {te : TE} {H : Hp} {D : Addr} {Q : VK} {caps : St} (R : Nat -> V -> Prop) (hl : ∀ ys,Ok (upd H D (.lst ys))) (hz : xs.length < sizeLine)
 (hs : ∀ (i : Nat) (x : V) (ys : List V) (C : VK),xs[i]? = some x -> (∀ v,R i v -> C v (upd H D (.lst ys))) -> te (some x :: caps) (upd H D (.lst ys)) C)
 (hd : ∀ ys,ys.length = xs.length -> (∀ (j : Nat) v,ys[j]? = some v -> R j v) -> Q (.ref D) (upd H D (.lst ys))) : LCgo J (gName 0) tTrue te D (none :: caps) (upd H D (.lst [])) Q:=by
 refine lc_walk Wk (λ i σ H'=>∃ r ys,σ = r :: caps /\ H' = upd H D (.lst ys) /\ ys.length = i /\ ∀ (j : Nat) v,ys[j]? = some v -> R j v) ⟨none,[],rfl,rfl,rfl,λ j v h=>nomatch h⟩ (λ i σ H' _ ⟨_,_,_,e,_⟩=>by rw [e]; exact hl _) ?_ ?_
 ·rintro i x σ H' hx ⟨r,ys,rfl,rfl,hy,hR⟩
  have hi:=(List.getElem?_eq_some_iff.mp hx).1
  simp only [gName,tTrue,if_true]
  refine hs i x ys _ hx λ v hv=>⟨ys,upd_same,by omega,_,_,rfl,upd_upd,by rw [List.length_append,hy]; rfl,λ j u hu=>?_⟩
  by_cases z : j < ys.length
  ·rw [List.getElem?_append_left z] at hu; exact hR j u hu
  ·rw [List.getElem?_append_right (by omega)] at hu
   have : j - ys.length = 0:=by
    have:=(List.getElem?_eq_some_iff.mp hu).1
    simp at this; omega
   rw [this] at hu
   cases hu
   have : j = i:=by omega
   rw [this]; exact hv
 ·rintro σ H' ⟨r,ys,rfl,rfl,hy,hR⟩
  exact hd ys hy hR
end
end L2
namespace PySem
theorem wpAny_excMatches_up {M : Model} {A : Around} {E : Value -> Shared -> Prop} {nm q : Str} {R C N : Addr} {bs bm : List Value} {hdct : Bool} {sn : List Str} {sub : List Value} {ab : Bool} {col : Option Bool} {dd : Option Addr} {k0 k1 k2 k3 k5 : Option Value} {newId : String} {K : PySem.W.Frag} {h : Heap} {g : Array GenState} {d : Drawn} {t : Nat} {os : OsState} {e : Addr} {oe : Obj} {Q : Bool -> Shared -> Prop}
 (X : K.In h) (hup : PySem.W.mroIn K R (.ref C) = some true) (hC : h.get? C = some (excClassObj nm q C N bs bm hdct sn sub ab col dd k0 k1 k2 k3 k5 newId)) (he : h.get? e = some oe) (hcls : oe.cls = .ref R) (hbase : bm.contains (.type "BaseException") = true)
 (hq : Q true ⟨h,g,d,t,os⟩) : wpAny M A (excMatches (.ref e) (.ref C)) Q E ⟨h,g,d,t,os⟩:=by
 have hcB : (Value.ref C :: bm).contains (.type "BaseException") = true:=by rw [List.contains_cons,hbase,Bool.or_true]
 have f:=tc_notTuple
 unfold excMatches
 repeat (first | (with_reducible refine wpAny_loadPart_at he ?_; rw [hcls]) | with_reducible refine wpAny_loadPart_at hC ?_ | (with_reducible refine wpAny_isSubtype_exc hC ?_; rw [hcB]) | with_reducible refine XT.sub_K X hup ?_ | wp_step)
 exact hq
end PySem
namespace L2
open PySem PySem.Spec PyProof.Rows
def tTryU (K : PySem.W.Frag) (C : Addr) (i : Nat) (tb : Pins -> (Value -> Shared -> Prop) -> XS -> TS) (th : Pins -> Value -> TS) : TS:=λ D σ H=>∀ pins xe,
 tb pins xe (λ c σ' H'=>∃ R,c = .ref R /\ PySem.W.mroIn K R (.ref C) = some true /\ ∀ a,H' a = none -> ∀ ps e,th ps e (D.hand i) (σ'.set i (some (.ref a))) (upd H' a (excO a R))) D σ H
section
variable {X : Cx} {C : Addr} {i : Nat} {n x : Str} {body : List Stmt} {b₀ : Stmt} {suite : List Stmt} {np hpos pos : Pos} {tb : Pins -> (Value -> Shared -> Prop) -> XS -> TS} {th : Pins -> Value -> TS} {bmB : List Value} {newId : String}
theorem ps_tryU (hA : X.calm = true) (hex : X.ex = []) (hst : X.stack = X.env :: X.outer) (hfr : X.env.frame = some X.env.locals) (hN : X.N.Nodup) (hi : X.N[i]? = some n) (hk : X.env.kindOf n = some .local) (hg : Gl X x) (hm : X.mg x = some (.ref C))
 (hq : PySem.W.excIn X.K C bmB newId = true) (hbase : bmB.contains (.type "BaseException") = true)
 (hb : ∀ (pins : List (Addr × Obj)) (xe : Value -> Shared -> Prop) (Φ : XS),PassX X.prog X.w (X.tryX pins xe) Φ -> PSs (X.tryX pins xe) body (tb pins xe Φ))
 (hh : ∀ (pins : List (Addr × Obj)) (e : Value),PSs (X.handX pins e) (b₀ :: suite) (th pins e)) (hdb : (x == ("__debug__" : Str)) = false:=by decide) :
 PS X (.Try body [.ExceptHandler (some (.Name x np)) (some n) (b₀ :: suite) hpos] [] [] pos) (tTryU X.K C i tb th):=by
 intro pins s σ H D I h
 have ok:=I.ok
 refine wpAny_Try_except (thn (hb pins _ _ ?_ [] s σ H D (I.tryX _) (h _ _)) λ f s1 z=>?_)
 ·intro pins' σ1 H1 s1 e s2 I1 hc
  obtain ⟨a,Cv,H2,rfl,y,R,rfl,hup,hΦ⟩:=hc
  obtain ⟨B,a0,hf,k1,k2,k3⟩:=y.ex
  have hf : Heap.FlyingW B (X.env :: X.outer) a (.ref R) a0 s2.heap:=hst ▸ hf
  show wpAny _ _ (noteFrame _ _) _ _ _
  refine wpAny_looks_onW (by rw [ok.frames,hst]) hfr hf λ h4 hh4 hs4=>?_
  refine wpAny_landsW hh4 λ h5 hf5 hs5=>?_
  have mv:=Fly.move y.un y.hok (hst ▸ hf) k1 k2 k3 hf5.1 (hs4.trans hs5)
  have I5 : Inv X pins σ1 H2 { s2 with heap:=h5 }:=Inv.untry ok (Inv.call' (s':={ s2 with heap:=h5 }) (ch:=[]) I1 y.os mv.1 mv.2 y.bare λ b z=>absurd z (by simp))
  have J5:=I5.handX (.ref a)
  obtain ⟨ob,hob,hobc⟩:=hf5.there
  refine wpAny_handleBy_cons (codeAny_handlers_test ?_) (by intro q; cases q)
  refine ld_glob (X:=X.handX pins (.ref a)) J5 hg hm ?_ hdb
  obtain ⟨bm,N,nm,qn,bs,hdct,sn,sub,ab,col,dd,k0,k1',k2',k3',k5,mN,hC,hNs,hni,T⟩:=exc_obj I5.kIn hq
  refine wpAny_excMatches_up I5.kIn hup hC hob hobc (T.hasType hbase) (codeAny_handlers_suite_as ?_)
  refine lands_againW hf5 λ h6 hf6 hs6=>?_
  have mv6:=Fly.move y.un y.hok (hst ▸ hf) k1 k2 k3 hf6.1 ((hs4.trans hs5).trans hs6)
  have I6 : Inv X pins σ1 H2 { s2 with heap:=h6 }:=Inv.untry ok (Inv.call' (s':={ s2 with heap:=h6 }) (ch:=[]) I1 y.os mv6.1 mv6.2 y.bare λ b z=>absurd z (by simp))
  have lc : ∀ b o,s1.heap.get? b = some o -> b ≠ a:=λ b o e z=>by rw [z,y.new] at e; cases e
  have I7 : Inv X pins σ1 (upd H2 a (excO a R)) { s2 with heap:=h6 }:=by
   refine I6.adopt y.gone ?_ ?_ (λ x c e=>?_) (λ p hp=>?_) ?_
   ·cases q : X.s₀.heap.get? a with
    | none=>rfl
    | some o =>
      by_cases hx : a ∈ X.ex
      ·rw [hex] at hx; exact absurd hx (by simp)
      ·obtain ⟨o1,e1⟩:=I1.base.there a o q hx
       exact absurd rfl (lc a o1 e1)
   ·obtain ⟨m,⟨o,_,_,ho,_⟩,_⟩:=I1.loc
    exact lc _ o ho
   ·obtain ⟨v,o,ho,_⟩:=I1.cell x c e
    exact lc _ o ho
   ·exact lc _ _ (I1.pin p (List.mem_append_left _ hp)).1
   ·obtain ⟨o6,ho6,hc6⟩:=hf6.there
    exact ⟨⟨o6,ho6,hc6⟩,⟨o6,ho6⟩,λ h1 h2 ⟨o,e1,e2⟩ k=>⟨o,k o e1,e2⟩⟩
  refine store_ok (X:=X.handX pins (.ref a)) (v:=.ref a) (I7.handX (.ref a)) hN hi (.inl hk) rfl (λ s8 I8=>?_) (.inr hk)
  refine wpAny_mono (hh pins (.ref a) [] s8 _ _ _ I8 (hΦ a y.gone _ _)) (λ f s9 z=>?_) λ _ _ z=>z.elim
  cases f with
  | next=>obtain ⟨σ',H',J,q⟩:=z; exact name_gone (X:=X) (J.unhand ok) hN hi hk λ s' J'=>⟨_,H',J',q⟩
  | brk=>obtain ⟨σ',H',J,q⟩:=z; exact name_gone (X:=X) (J.unhand ok) hN hi hk λ s' J'=>⟨_,H',J',q⟩
  | cont=>obtain ⟨σ',H',J,q⟩:=z; exact name_gone (X:=X) (J.unhand ok) hN hi hk λ s' J'=>⟨_,H',J',q⟩
  | ret u=>obtain ⟨v,σ',H',J,r,q⟩:=z; exact name_gone (X:=X) (J.unhand ok) hN hi hk λ s' J'=>⟨v,_,H',J',r,q⟩
 ·cases f with
  | next=>exact wpAny_execs_nil (SP.untry ok z)
  | brk=>exact SP.untry ok z
  | cont=>exact SP.untry ok z
  | ret u=>exact SP.untry ok z
end
end L2
namespace PySem
namespace F
theorem owner_rev : Manifest.owners.lookup (String.ofList ['d','e','s','r','e','v','e','r'].reverse) = some Manifest.sig_reversed:=by kernel_rfl
theorem slot_rev_next : Slot "reversed" "__next__" "reversed.__next__" :=
 .of (owner := "reversed") (n := "__next__") (by rw [typeLookup_type,builtinLookup_eq_fast]; kernel_rfl) (by decide +kernel) (by decide +kernel) (by decide +kernel)
  (by first | exact .inl (by decide +kernel) | exact .inr (by decide +kernel)) (by rw [isSubtype_type]; kernel_rfl)
theorem entry_rev_next : entryFor table "reversed.__next__" = some Builtin.«reversed.__next__»:=entryFor_of_tree (by kernel_rfl)
theorem args_rev_next_1 (a : Value) : argsOk "reversed.__next__" ⟨[a],[]⟩:=by
 unfold argsOk; rw [signature?_of (id := "reversed.__next__") (n:=['_','_','t','x','e','n','_','_']) (o:=['d','e','s','r','e','v','e','r']) (by kernel_rfl) owner_rev]; kernel_rfl
theorem slot_rev_iter : Slot "reversed" "__iter__" "reversed.__iter__" :=
 .of (owner := "reversed") (n := "__iter__") (by rw [typeLookup_type,builtinLookup_eq_fast]; kernel_rfl) (by decide +kernel) (by decide +kernel) (by decide +kernel)
  (by first | exact .inl (by decide +kernel) | exact .inr (by decide +kernel)) (by rw [isSubtype_type]; kernel_rfl)
theorem args_rev_iter_1 (a : Value) : argsOk "reversed.__iter__" ⟨[a],[]⟩:=by
 unfold argsOk; rw [signature?_of (id := "reversed.__iter__") (n:=['_','_','r','e','t','i','_','_']) (o:=['d','e','s','r','e','v','e','r']) (by kernel_rfl) owner_rev]; kernel_rfl
theorem entry_rev_iter : entryFor table "reversed.__iter__" = some Builtin.«dict_keyiterator.__iter__» :=
 entryFor_alias (id' := "dict_keyiterator.__iter__") (by kernel_rfl) (by first | rfl | decide +kernel | (unfold String.splitOn; simp +decide [String.splitOnAux])) (by decide +kernel) (by kernel_rfl)
theorem slot_rev_hint : Slot "reversed" "__length_hint__" "reversed.__length_hint__" :=
 .of (owner := "reversed") (n := "__length_hint__") (by rw [typeLookup_type,builtinLookup_eq_fast]; kernel_rfl) (by decide +kernel) (by decide +kernel) (by decide +kernel)
  (by first | exact .inl (by decide +kernel) | exact .inr (by decide +kernel)) (by rw [isSubtype_type]; kernel_rfl)
theorem entry_rev_hint : entryFor table "reversed.__length_hint__" = some Builtin.«reversed.__length_hint__»:=entryFor_of_tree (by kernel_rfl)
theorem args_rev_hint_1 (a : Value) : argsOk "reversed.__length_hint__" ⟨[a],[]⟩:=by
 unfold argsOk; rw [signature?_of (id := "reversed.__length_hint__") (n:=['_','_','t','n','i','h','_','h','t','g','n','e','l','_','_']) (o:=['d','e','s','r','e','v','e','r']) (by kernel_rfl) owner_rev]; kernel_rfl
theorem slot_rev_init : Slot "reversed" "__init__" "object.__init__" :=
 .of (owner := "object") (n := "__init__") (by rw [typeLookup_type,builtinLookup_eq_fast]; kernel_rfl) (by decide +kernel) (by decide +kernel) (by decide +kernel)
  (by first | exact .inl (by decide +kernel) | exact .inr (by decide +kernel)) (by rw [isSubtype_type]; kernel_rfl)
theorem called_rev : TypeCalled "reversed" "reversed.__new__" "object.__init__" :=
 ⟨by decide +kernel,by decide +kernel,⟨_,_,mro_reversed⟩,made_reversed,by decide +kernel,by rw [isSubtype_type]; kernel_rfl,slot_rev_init⟩
theorem str_no_rev : typeLookup (.type "str") "__reversed__" = pure none:=by rw [typeLookup_type,builtinLookup_eq_fast]; kernel_rfl
theorem rev_no_len : typeLookup (.type "reversed") "__len__" = pure none:=by rw [typeLookup_type,builtinLookup_eq_fast]; kernel_rfl
theorem str_getitem : typeLookup (.type "str") "__getitem__" = pure (some (.builtin "str.__getitem__")):=by rw [typeLookup_type,builtinLookup_eq_fast]; kernel_rfl
end F
section
variable {prog : Program} {w : World} {A : Around} {E : Value -> Shared -> Prop} {s : Shared}
def revStrObj (x : Str) (t : Tok) (i : Int) : Obj:={ cls:=.type "reversed",data:=.fields #[.str x t,rawInt i] }
theorem code_reversed_str {x : Str} {t : Tok} {Q₁ : Value -> Shared -> Prop} (hx : x.length <= sizeLine)
 (h : ∀ tk,Q₁ (.ref s.heap.objs.size) { s with heap:=s.heap.push (revStrObj x t ((x.length : Int) - 1)),toks:=tk }) :
 codeAny (model prog w) A (.call (.builtin "reversed.__new__") ⟨[.type "reversed",.str x t],[]⟩) (wants Q₁ E) s:=by
 refine codeAny_of_tree ?_
 show wpAny _ A.in1 (do checkBuiltinCall "reversed.__new__" ⟨[.type "reversed",.str x t],[]⟩; again (.builtin "reversed.__new__" ⟨[.type "reversed",.str x t],[]⟩)) _ _ s
 refine wpAny_bind (wpAny_of_eq (F.newCall_reversed_1 _) (wpAny_pure ⟨plainId_quiet F.plain_reversed_new _,codeAny_builtin F.entry_reversed_new ?_⟩))
 rw [Around.under_plainId F.plain_reversed_new _]
 unfold Builtin.«reversed.__new__»
 refine wpAny_bind (wpAny_of_eq (newClass_reversed _) ?_)
 try dsimp only
 refine wpAny_bind (wpAny_of_eq (a:=()) (by first | rfl | kernel_rfl) ?_)
 refine wpAny_bind (wpAny_of_eq (a:=()) (by first | rfl | kernel_rfl) ?_)
 try dsimp only
 refine wpAny_bind (wpAny_specialOf (T := "str") (v:=.str x t) rfl F.str_no_rev ?_)
 try dsimp only
 refine wpAny_bind (wpAny_bind (wpAny_isInstance (T := "str") (v:=.str x t) (b:=false) rfl F.sub_str_dict ?_))
 rw [if_neg Bool.false_ne_true]
 refine wpAny_bind (wpAny_specialOf (T := "str") (v:=.str x t) rfl F.str_getitem ?_)
 dsimp only
 rw [if_pos (by decide)]
 refine wpAny_pure ?_
 rw [if_neg (by decide)]
 refine wpAny_bind (PyProof.Rows.len_str (by have:=sizeLine_eq; omega) ?_)
 refine wpAny_bind (m:=asInt? (.int _ _)) (wpAny_pure ?_)
 dsimp only
 unfold Builtin.SmallTypes.newRecord
 dsimp only
 refine wpAny_bind (wpAny_newObj_type ?_)
 exact wpAny_pure (h _)
theorem call_reversed_str {x : Str} {t : Tok} {Q : Value -> Shared -> Prop} (hx : x.length <= sizeLine)
 (h : ∀ tk,Q (.ref s.heap.objs.size) { s with heap:=s.heap.push (revStrObj x t ((x.length : Int) - 1)),toks:=tk }) : wpAny (model prog w) A (call (.type "reversed") [.str x t]) Q E s:=by
 refine callType_codes (Q₁:=λ obj s₁=>obj = .ref s.heap.objs.size /\ ∃ tk,s₁ = { s with heap:=s.heap.push (revStrObj x t ((x.length : Int) - 1)),toks:=tk }) F.called_rev (F.typeCall_reversed_1 _) F.entry_object_init (code_reversed_str hx λ tk=>⟨rfl,tk,rfl⟩) λ obj s₁ h₁=>?_
 obtain ⟨rfl,tk,rfl⟩:=h₁
 have ty : ({ s with heap:=s.heap.push (revStrObj x t ((x.length : Int) - 1)),toks:=tk } : Shared).TypeIs (.ref s.heap.objs.size) "reversed":=⟨_,Heap.get?_push_size _ rfl,rfl⟩
 exact ⟨ty,F.args_object_init_2 _ _,object_init_meets F.called_rev.init.lookup F.called_rev.made (by decide) prog w A.in1 _ _ ⟨ty,rfl,h tk⟩⟩
def Heap.IsRevStr (h : Heap) (a : Addr) (x : Str) (t : Tok) (i : Int) : Prop:=∃ o,h.get? a = some o /\ o.cls = .type "reversed" /\ o.data = .fields #[.str x t,rawInt i]
theorem Heap.IsRevStr.typeIs {a : Addr} {x : Str} {t : Tok} {i : Int} (z : s.heap.IsRevStr a x t i) : s.TypeIs (.ref a) "reversed":=let ⟨o,ho,hc,_⟩:=z; ⟨o,ho,hc⟩
theorem Heap.IsRevStr.at {h h' : Heap} {a : Addr} {x : Str} {t : Tok} {i : Int} (z : h.IsRevStr a x t i) (e : ∀ o,h.get? a = some o -> h'.get? a = some o) : h'.IsRevStr a x t i:=let ⟨o,ho,r⟩:=z; ⟨o,e _ ho,r⟩
theorem next_revStr_item {it : Addr} {x : Str} {t : Tok} {i c : Nat} {Q : Option Value -> Shared -> Prop} (hit : s.heap.IsRevStr it x t (i : Int)) (hc : x.cps[i]? = some c) (hx : x.length <= sizeLine)
 (hQ : ∀ h' u tk,h'.IsRevStr it x t ((i : Int) - 1) -> Heap.SameBut it s.heap h' -> Q (some (.str ⟨#[c]⟩ u)) { s with heap:=h',toks:=tk }) : wpAny (model prog w) A (pyNext (.ref it)) Q E s:=by
 obtain ⟨o,ho,hcl,hd⟩:=id hit
 unfold pyNext
 refine wpAny_bind (wpAny_attempt (wpAny_callSpecial?_slot (name:=Str.ofString "__next__") hit.typeIs F.slot_rev_next
  (wpAny_call_entry F.slot_rev_next hit.typeIs F.entry_rev_next ?_ (F.args_rev_next_1 _))))
 unfold Builtin.«reversed.__next__»
 refine wpAny_bind (wpAny_of_eq (a:=(Value.ref it,[])) rfl ?_)
 try dsimp only
 refine wpAny_bind (wpAny_field ho hd (x:=.str x t) rfl ?_)
 refine wpAny_bind (wpAny_field ho hd (x:=rawInt (i : Int)) rfl ?_)
 show wpAny _ _ (if (i : Int) < 0 then _ else _) _ _ s
 rw [if_neg (by omega)]
 refine wpAny_bind (wpAny_specialOf (T := "str") (v:=.str x t) rfl F.str_getitem ?_)
 rw [if_neg (by decide)]
 refine wpAny_bind (wpAny_mkInt ?_)
 have hi : i < x.cps.size:=by
  rcases Nat.lt_or_ge i x.cps.size with h | h
  ·exact h
  ·rw [Array.getElem?_eq_none h] at hc; cases hc
 have hs:=sizeLine_eq
 have hl : x.length = x.cps.size:=rfl
 refine wpAny_bind (wpAny_attempt (PyProof.Rows.getItem_str (c:=c) (i:=(i : Int)) (by
  have e1 : decide ((i : Int) < -(2 ^ 63 : Int)) = false:=decide_eq_false (by omega)
  have e2 : decide ((i : Int) >= 2 ^ 63) = false:=decide_eq_false (by omega)
  rw [e1,e2,Bool.or_false]) (by rw [seqIndex_of (by omega) (by omega),Int.toNat_natCast]; exact hc) ?_))
 dsimp only
 refine wpAny_bind (wpAny_field ho hd (x:=rawInt (i : Int)) rfl ?_)
 try dsimp only
 refine wpAny_bind (wpAny_setField ho hd (by simp) ?_)
 refine wpAny_pure ⟨_,rfl,wpAny_pure (hQ _ _ _ ?_ (Heap.SameBut.update ..))⟩
 exact ⟨_,Heap.get?_update_self _ ho (Obj.isFreed_of_fields (Obj.data_mapFields hd _)),(Obj.cls_mapFields ..).trans hcl,by
  rw [Obj.data_mapFields hd]; simp⟩
theorem next_revStr_end {it : Addr} {x : Str} {t : Tok} {Q : Option Value -> Shared -> Prop} (hh : A.handled = none) (hit : s.heap.IsRevStr it x t (-1))
 (hQ : ∀ h',Heap.ExtBut it s.heap h' -> Q none { s with heap:=h' }) : wpAny (model prog w) A (pyNext (.ref it)) Q E s:=by
 obtain ⟨o,ho,hc,hd⟩:=id hit
 unfold pyNext
 refine wpAny_bind (wpAny_attempt (wpAny_callSpecial?_slot (name:=Str.ofString "__next__") hit.typeIs F.slot_rev_next
  (wpAny_call_entry F.slot_rev_next hit.typeIs F.entry_rev_next ?_ (F.args_rev_next_1 _))))
 unfold Builtin.«reversed.__next__»
 refine wpAny_bind (wpAny_of_eq (a:=(Value.ref it,[])) rfl ?_)
 try dsimp only
 refine wpAny_bind (wpAny_field ho hd (x:=.str x t) rfl ?_)
 refine wpAny_bind (wpAny_field ho hd (x:=rawInt (-1)) rfl ?_)
 show wpAny _ _ (if (-1 : Int) < 0 then _ else _) _ _ s
 rw [if_pos (by decide)]
 refine wpAny_bind (wpAny_rule ?_)
 refine wpAny_bind ?_
 refine wpAny_bind (wpAny_setField ho hd (by simp) ?_)
 have ho2:=Heap.get?_update_self (Obj.mapFields λ f=>f.setIfInBounds 1 (rawInt (-1))) ho (Obj.isFreed_of_fields (Obj.data_mapFields hd _))
 refine wpAny_setField ho2 (Obj.data_mapFields hd _) (by simp) ?_
 refine wpAny_bind ?_
 first
 | show wpAny _ _ (newExc (.type "StopIteration") [] >>= _) _ _ _
 | (refine wpAny_bind ?_; show wpAny _ _ (newExc (.type "StopIteration") [] >>= _) _ _ _)
 refine wpAny_bind ?_
 simp only [newExc,newTuple]
 refine wpAny_bind (wpAny_newObj_type ?_ (by size_fits))
 refine wpAny_bind (m:=firstArgMember _ _) (wpAny_of_eq (a:=Value.none) (by first | rfl | (simp only [firstArgMember]; rfl)) ?_)
 refine wpAny_newObj_type ?_ (by size_fits)
 simp only [raiseNew]
 refine wpAny_bind (wpAny_handled ?_)
 first | rw [show A.in1.handled = none from hh] | rw [hh]
 refine wpAny_bind (wpAny_pure (wpAny_throw ?_))
 refine wpAny_bind (wpAny_isInstance (T := "StopIteration") (b:=true) ⟨_,Heap.get?_push_size _ rfl,rfl⟩ isSubtype_stop ?_)
 refine wpAny_pure (hQ _ ?_)
 refine Heap.ExtBut.push (Heap.ExtBut.push ?_ _) _
 intro b u hb e
 rw [Heap.get?_update_other _ _ (Ne.symm hb),Heap.get?_update_other _ _ (Ne.symm hb)]; exact e
theorem iter_revStr {it : Addr} {x : Str} {t : Tok} {i : Int} {Q : Value -> Shared -> Prop} (hit : s.heap.IsRevStr it x t i) (h : Q (.ref it) s) : wpAny (model prog w) A (pyIter (.ref it)) Q E s:=by
 refine wpAny_pyIter_slot hit.typeIs F.slot_rev_iter (wpAny_call_entry F.slot_rev_iter hit.typeIs F.entry_rev_iter ?_ (F.args_rev_iter_1 _))
 show wpAny _ _ (ret (.ref it)) _ _ s
 exact wpAny_pure ⟨_,rfl, "reversed",_,hit.typeIs,F.slot_rev_next.lookup,h⟩
end
theorem Walks.strRev {prog : Program} {w : World} {A : Around} (hh : A.handled = none) (I : Addr) (x : Str) (t : Tok) (hx : x.length <= sizeLine) :
 Walks prog w A I [I] [I] x.cps.size (λ i v=>∃ c u,x.cps[x.cps.size - 1 - i]? = some c /\ v = .str ⟨#[c]⟩ u) (λ i h=>i <= x.cps.size /\ h.IsRevStr I x t ((x.cps.size : Int) - 1 - (i : Int))) where
 sub:=λ b hb=>by simp at hb; simp [hb]
 frame:=λ _ _ _ z hk=>⟨z.1,z.2.at λ o e=>hk I (by simp) o e⟩
 item:=λ i s Q E hi z hQ=>by
  have e : (x.cps.size : Int) - 1 - (i : Int) = ((x.cps.size - 1 - i : Nat) : Int):=by omega
  have hit:=z.2
  rw [e] at hit
  have hc : x.cps[x.cps.size - 1 - i]? = some (x.cps[x.cps.size - 1 - i]'(by omega)):=Array.getElem?_eq_getElem (by omega)
  refine next_revStr_item hit hc hx λ h' u tk hit' hs'=>?_
  have e2 : ((x.cps.size - 1 - i : Nat) : Int) - 1 = (x.cps.size : Int) - 1 - ((i + 1 : Nat) : Int):=by omega
  rw [e2] at hit'
  exact hQ _ h' tk ⟨_,u,hc,rfl⟩ ⟨hi,hit'⟩ λ b o hb eo=>hs'.extBut b o (λ h=>hb (by simp [h])) eo
 done:=λ s Q E z hQ=>by
  have e : (x.cps.size : Int) - 1 - (x.cps.size : Int) = -1:=by omega
  have hit:=z.2
  rw [e] at hit
  exact next_revStr_end hh hit λ h' he'=>hQ h' s.toks λ b o hb eo=>he' b o (λ h=>hb (by simp [h])) eo
 self:=λ _ _ _ _ z hQ=>iter_revStr z.2 hQ
section
variable {prog : Program} {w : World} {A : Around} {E : Value -> Shared -> Prop} {s : Shared}
theorem call_hint_rev {it : Addr} {x : Str} {t : Tok} {i : Int} {Q : Value -> Shared -> Prop} (hit : s.heap.IsRevStr it x t i) (hx : x.length <= sizeLine) (hi : i + 1 <= x.length)
 (h : ∀ u tk,s.toks <= tk -> Q (.int (i + 1) u) { s with toks:=tk }) : wpAny (model prog w) A (call (.builtin "reversed.__length_hint__") [.ref it]) Q E s:=by
 obtain ⟨o,ho,hc,hd⟩:=id hit
 refine wpAny_call_entry F.slot_rev_hint hit.typeIs F.entry_rev_hint ?_ (F.args_rev_hint_1 _)
 unfold Builtin.«reversed.__length_hint__»
 refine wpAny_bind (wpAny_of_eq (a:=Value.ref it) (by first | rfl | kernel_rfl) ?_)
 refine wpAny_bind (wpAny_field ho hd (x:=.str x t) rfl ?_)
 rw [if_neg (show ¬ ((Value.str x t == Value.none) = true) from Bool.false_ne_true)]
 refine wpAny_bind (PyProof.Rows.len_str (by have:=sizeLine_eq; omega) ?_)
 refine wpAny_bind (m:=asInt? (.int _ _)) (wpAny_pure ?_)
 dsimp only
 refine wpAny_bind (wpAny_field ho hd (x:=rawInt i) rfl ?_)
 show wpAny _ A.in1 (if (x.length : Int) < i + 1 then _ else retInt (i + 1)) _ _ _
 rw [if_neg (by omega)]
 unfold retInt
 refine wpAny_bind (wpAny_mkInt ?_)
 exact wpAny_pure ⟨_,rfl,h _ _ (by show s.toks <= s.toks + 1 + 1 + 1; omega)⟩
theorem collect_rev {Q : List Value -> Shared -> Prop} {I : Addr} {x : Str} {t : Tok} (hh : A.handled = none) (hx : x.length <= sizeLine) (hit : s.heap.IsRevStr I x t ((x.length : Int) - 1))
 (hQ : ∀ s' acc,Moved [I] (λ a b=>b = a) s s' -> ItemsOf (λ i v=>∃ c u,x.cps[x.cps.size - 1 - i]? = some c /\ v = .str ⟨#[c]⟩ u) acc x.cps.size -> Q acc.toList s') : wpAny (model prog w) A (collect (.ref I)) Q E s:=by
 have hn : x.cps.size <= sizeLine:=hx
 have W:=(Walks.strRev (prog:=prog) (w:=w) (A:=A.in1) hh I x t hx).toS
 obtain ⟨o0,ho0,_⟩:=id hit
 have hlt:=Heap.lt_size ho0
 have hSI : s.heap.objs.size ≠ I:=Ne.symm (Nat.ne_of_lt hlt)
 have hSf : s.heap.objs.size ∉ [I]:=λ hm=>hSI (List.mem_singleton.mp hm)
 have e0 : (x.cps.size : Int) - 1 - ((0 : Nat) : Int) = (x.length : Int) - 1:=by show (x.cps.size : Int) - 1 - 0 = (x.cps.size : Int) - 1; omega
 have hst : (λ (i : Nat) (s : Shared)=>i <= x.cps.size /\ s.heap.IsRevStr I x t ((x.cps.size : Int) - 1 - (i : Int))) 0 s:=⟨Nat.zero_le _,by rw [e0]; exact hit⟩
 unfold collect
 refine wpAny_bind (wpAny_runValue (codeAny_builtin F.entry_proto_collect ?_))
 rw [Around.under_plainId F.plain_proto_collect _]
 show wpAny _ A.in1 (newList [] >>= λ l=>again (.builtin "list.__iadd__" ⟨[l,.ref I],[]⟩)) _ _ s
 refine wpAny_bind (wpAny_newObj_type ?_)
 refine wpAny_pure ⟨plainId_quiet F.plain_list_iadd _,codeAny_builtin F.entry_list_iadd ?_⟩
 rw [Around.under_plainId F.plain_list_iadd _]
 have hst₁:=W.frame 0 s (s.heap.push { cls:=.type "list",data:=.seq ([] : List Value).toArray }) s.toks hst (Nat.le_refl _) λ b _ o e=>Heap.get?_push_of_some _ e
 have hit₁ : (s.heap.push { cls:=.type "list",data:=.seq ([] : List Value).toArray }).IsRevStr I x t ((x.length : Int) - 1):=hit.at λ o e=>Heap.get?_push_of_some _ e
 have hS₁ : (s.heap.push { cls:=.type "list",data:=.seq ([] : List Value).toArray }).get? s.heap.objs.size = some { cls:=.type "list",data:=.seq ([] : List Value).toArray }:=Heap.get?_push_size _ rfl
 have h1 : Builtin.List.listSameRef (.ref s.heap.objs.size) (.ref I) = false:=by simp [Builtin.List.listSameRef,hSI]
 show wpAny _ A.in1 (Builtin.List.listExtendWith (.ref s.heap.objs.size) (.ref I) (.ref s.heap.objs.size)) _ _ _
 unfold Builtin.List.listExtendWith
 have hT₁ : ({ s with heap:=s.heap.push { cls:=.type "list",data:=.seq ([] : List Value).toArray } } : Shared).TypeIs (.ref I) "reversed":=Heap.IsRevStr.typeIs (s:={ s with heap:=s.heap.push { cls:=.type "list",data:=.seq ([] : List Value).toArray } }) hit₁
 refine wpAny_bind (wpAny_typeOf hT₁ ?_)
 rw [if_neg (by rw [h1]; decide)]
 refine wpAny_bind (iter_revStr (s:={ s with heap:=s.heap.push { cls:=.type "list",data:=.seq ([] : List Value).toArray } }) hit₁ ?_)
 refine wpAny_bind (wpAny_holding ?_)
 unfold Builtin.List.listLengthHint
 refine wpAny_bind (wpAny_specialOf hT₁ F.rev_no_len ?_)
 show wpAny _ A.in1 (specialOf (Value.ref I) (Str.ofString "__length_hint__") >>= _) _ _ _
 refine wpAny_bind (wpAny_specialOf hT₁ F.slot_rev_hint.lookup ?_)
 (generalize hid : ("reversed.__length_hint__" : String) = id0; (fail_if_success (clear hid id0)); wp_delta; rw [show splitId id0 = some ("reversed", "__length_hint__") from by subst hid; decide +kernel]; subst hid)
 refine wpAny_bind (wpAny_isInstance (b:=true) hT₁ (by rw [isSubtype_type]; kernel_rfl) ?_)
 rw [if_neg (by decide)]
 refine wpAny_bind (wpAny_rule ?_)
 refine wpAny_bind (wpAny_of_eq (F.slot_rev_hint.bind _) ?_)
 dsimp only
 refine wpAny_bind (wpAny_attempt (call_hint_rev (s:={ s with heap:=s.heap.push { cls:=.type "list",data:=.seq ([] : List Value).toArray } }) hit₁ hx (by omega) λ u tk htk=>?_))
 have hk : (x.length : Int) - 1 + 1 = (x.length : Int):=by omega
 rw [hk]
 have hs:=sizeLine_eq
 dsimp only
 have ha : asInt? (Value.int (x.length : Int) u) = pure (some (x.length : Int)):=rfl
 rw [ha,pure_bind]
 dsimp only
 have hfit : Builtin.List.listFitsIndex (x.length : Int) = true:=by unfold Builtin.List.listFitsIndex; simp only [Bool.and_eq_true,decide_eq_true_eq]; omega
 have hlong : Builtin.List.listTooLong (x.length : Int).toNat = false:=by unfold Builtin.List.listTooLong; rw [Int.toNat_natCast]; exact decide_eq_false (by omega)
 rw [hfit,if_neg (by decide),if_neg (by omega),hlong,if_neg (by decide)]
 refine wpAny_pure ?_
 clear hs
 have hst₂:=W.frame 0 _ _ tk hst₁ htk λ b _ o e=>e
 by_cases hz : x.length = 0
 ·rw [if_neg (by rw [hz]; decide)]
  refine wpAny_pure ⟨plainId_quiet F.plain_extend_loop _,codeAny_extend_loopS W hn _ hSf _ x.cps.size 0 _ _ _ rfl (Nat.zero_le _) hst₂ hS₁ (ItemsOf.nil _) λ s' acc' c' hm hS' hacc=>?_⟩
  show wpAny _ A (load s.heap.objs.size >>= _) _ _ s'
  refine wpAny_bind (wpAny_load hS' ?_)
  exact wpAny_pure (hQ s' acc' (Moved.drop_new (o:={ cls:=.type "list",data:=.seq ([] : List Value).toArray }) (tk:=tk) hm htk) hacc)
 ·rw [if_pos (by rw [show ((x.length : Int) != 0) = true from by simpa using hz]; rfl)]
  refine wpAny_bind (wpAny_rule ?_)
  refine wpAny_bind ?_
  show wpAny _ A.in1 (updateSeq s.heap.objs.size (·.push .none) >>= λ _=>updateSeq s.heap.objs.size (·.pop)) _ _ _
  refine wpAny_bind (wpAny_updateSeq hS₁ rfl ?_ (by show 0 <= sizeLine; exact Nat.zero_le _) (by show 1 <= sizeLine + 1; exact Nat.le_add_left _ _))
  have hS₂:=Heap.get?_update_self (Obj.mapSeq (·.push Value.none)) hS₁ rfl
  refine wpAny_updateSeq hS₂ rfl ?_ (by show 1 <= sizeLine; decide) (by show 0 <= sizeLine + 1; exact Nat.zero_le _)
  have hS₃:=Heap.get?_update_self (Obj.mapSeq (·.pop)) hS₂ rfl
  have oth : ∀ b o,b ≠ s.heap.objs.size -> (s.heap.push { cls:=.type "list",data:=.seq ([] : List Value).toArray }).get? b = some o ->
   (((s.heap.push { cls:=.type "list",data:=.seq ([] : List Value).toArray }).update s.heap.objs.size (Obj.mapSeq (·.push Value.none))).update s.heap.objs.size (Obj.mapSeq (·.pop))).get? b = some o :=
   λ b o hb e=>(Heap.get?_update_other _ _ (Ne.symm hb)).trans ((Heap.get?_update_other _ _ (Ne.symm hb)).trans e)
  refine wpAny_pure ⟨plainId_quiet F.plain_extend_loop _,codeAny_extend_loopS W hn _ hSf _ x.cps.size 0 _ _ _ rfl (Nat.zero_le _)
   (W.frame 0 ({ s with heap:=s.heap.push { cls:=.type "list",data:=.seq ([] : List Value).toArray },toks:=tk } : Shared) _ tk hst₂ (Nat.le_refl _) λ b hb o e=>oth b o (λ h=>hSf (h ▸ hb)) e) hS₃ (ItemsOf.nil _) λ s' acc' c' hm hS' hacc=>?_⟩
  show wpAny _ A (load s.heap.objs.size >>= _) _ _ s'
  refine wpAny_bind (wpAny_load hS' ?_)
  refine wpAny_pure (hQ s' acc' (Moved.drop_new (o:={ cls:=.type "list",data:=.seq ([] : List Value).toArray }) (tk:=tk) (Moved.trans W.gtrans ((Moved.refl (G:=λ a b=>b = a) W.grefl).then_heap (by first | exact Nat.le_refl _ | exact Nat.le_succ _ | omega) λ b o hb e=>?_) hm) htk) hacc)
  exact oth b o (λ h=>hb (h ▸ List.mem_cons_self)) e
theorem join_rev {I : Addr} {x sep : Str} {t t2 : Tok} {Q : Value -> Shared -> Prop} (hh : A.handled = none) (hx : x.length <= sizeLine) (hit : s.heap.IsRevStr I x t ((x.length : Int) - 1))
 (hq : ∀ s' (l : List (Str × Tok)),Moved [I] (λ a b=>b = a) s s' -> ItemsOf (λ i v=>∃ c u,x.cps[x.cps.size - 1 - i]? = some c /\ v = .str ⟨#[c]⟩ u) (strValues l).toArray x.cps.size ->
  JoinOk sep (l.map (·.1)) = true /\ ∀ t' k,Q (.str (Txt.join sep (l.map (·.1))) t') { s' with toks:=k }) :
 wpAny (model prog w) A (call (.builtin "str.join") [.str sep t2,.ref I]) Q E s:=by
 refine wpAny_call (codeAny_call_builtin F.slot_str_join.plain F.entry_str_join (F.slot_str_join.check _ _ _ _ _ _ _ _ (typeIs_str _ _ _) (F.args_str_join_2 _ _) ?_))
 rw [join_tree_other]
 refine wpAny_bind (wpAny_typeOf hit.typeIs ?_)
 show wpAny _ A.in1 ((pyIter (.ref I)).tryCatch _ >>= λ it=>collect it >>= λ items=>joinTail sep items) _ _ s
 refine wpAny_bind (wpAny_tryCatch (iter_revStr hit ?_))
 refine wpAny_bind (collect_rev (A:=A.in1) hh hx hit λ s' acc hm hacc=>?_)
 obtain ⟨l,hl⟩:=exists_strValues acc.toList λ v hv=>by
  obtain ⟨j,hj,rfl⟩:=Array.mem_iff_getElem.mp (Array.mem_toList_iff.mp hv)
  obtain ⟨c,u,_,e⟩:=hacc.2 j _ (Array.getElem?_eq_getElem hj)
  exact ⟨_,_,e⟩
 rw [← hl]
 have hacc' : ItemsOf (λ i v=>∃ c u,x.cps[x.cps.size - 1 - i]? = some c /\ v = .str ⟨#[c]⟩ u) (strValues l).toArray x.cps.size:=by rw [hl]; simpa using hacc
 obtain ⟨hok,hpost⟩:=hq s' l hm hacc'
 unfold JoinOk at hok
 rw [Bool.not_eq_true'] at hok
 have g : Gives (joinTail sep (strValues l)) (joinMade sep l):=by
  have g0:=gives_joinTail sep l hok
  cases l with
  | nil=>exact g0
  | cons p r=>cases r with
    | nil=>exact g0
    | cons q r'=>exact g0
 exact g prog w A (wants Q E) s' (post_join l ⟨joinFit_length hok,hpost⟩)
end
end PySem
namespace L2
open PySem PySem.Spec PyProof.Rows
section
variable {X : Cx}
theorem rev_items {l : List Nat} {ps : List (Str × Tok)} (h : ItemsOf (λ i v=>∃ c u,(tx l).cps[(tx l).cps.size - 1 - i]? = some c /\ v = Value.str ⟨#[c]⟩ u) (strValues ps).toArray (tx l).cps.size) : ps.map (·.1) = (l.reverse.map λ c=>[c]).map tx:=by
 have hz : (tx l).cps.size = l.length:=List.size_toArray ..
 have hlen : ps.length = l.length:=by have:=h.1; rw [List.size_toArray,hz] at this; simpa [strValues] using this
 refine List.ext_getElem? λ i=>?_
 rw [List.getElem?_map,List.getElem?_map,List.getElem?_map]
 by_cases hi : i < l.length
 ·have hp : i < ps.length:=by omega
  have e1 : (strValues ps).toArray[i]? = some (Value.str ps[i].1 ps[i].2):=by simp [strValues,hp]
  obtain ⟨c,u,hc,e⟩:=h.2 i _ e1
  rw [hz] at hc
  have hc' : l[l.length - 1 - i]? = some c:=by simpa [tx] using hc
  rw [List.getElem?_reverse hi,hc',List.getElem?_eq_getElem hp]
  have e2 : ps[i].1 = (⟨#[c]⟩ : Str):=(Value.str.inj e).1
  show some ps[i].1 = some (tx [c])
  rw [e2]; rfl
 ·rw [List.getElem?_eq_none (by omega),List.getElem?_eq_none (by rw [List.length_reverse]; omega)]; rfl
variable {o e : Expr} {to te : TE} {apos cpos rpos p2 : Pos}
def tJoinRev (to te : TE) : TE:=λ σ H Q=>to σ H λ x H1=>∃ sep,x = vt sep /\ te σ H1 λ y H2=>∃ l,y = vt l /\ (l.length <= 4000 /\ sep.length <= 1000) /\ Q (vt (between sep (l.reverse.map λ c=>[c]))) H2
theorem pe_joinRev (hc : X.calm = true) (hg : Gl X "reversed") (hmg : X.mg "reversed" = none) (hv : bootBuiltins "reversed" = some (.type "reversed")) (ho : PE X o to) (he : PE X e te)
 (hbase : attributeBase o "join" X.env (eval o X.env) = eval o X.env:=by rfl)
 (hfew : ((backTo cpos (starEach [.Call (.Name "reversed" p2) [e] [] rpos] X.env)).all (λ x=>!x.1) && (backToKw cpos (keywordEach [] X.env)).all (λ x=>x.1.isSome)
  && decide ([Expr.Call (.Name "reversed" p2) [e] [] rpos].length + ([] : List Keyword).length + (if ([] : List Keyword).isEmpty then 0 else 1) < 30)) = true:=by rfl)
 (hline : (apos.endLine == cpos.line) = true:=by rfl) (hs : starEach [Expr.Call (.Name "reversed" p2) [e] [] rpos] X.env = [(false,eval (.Call (.Name "reversed" p2) [e] [] rpos) X.env)]:=by rfl)
 (hs2 : starEach [e] X.env = [(false,eval e X.env)]:=by rfl) :
 PE X (.Call (.Attribute o "join" apos) [.Call (.Name "reversed" p2) [e] [] rpos] [] cpos) (tJoinRev to te):=by
 intro pins s σ H Q I h
 refine wpAny_Call_method_late hbase hfew hline rfl (thn (ho pins s σ H _ I h) λ v s1 ⟨x,H1,I1,r1,sep,ex,q1⟩=>?_)
 subst ex
 obtain ⟨t1,rfl⟩:=r1
 obtain ⟨h1,h2⟩:=tyV_is (T := "str") I1 (x:=vt sep) ⟨t1,rfl⟩ rfl
 refine ⟨"str", "str.join",PySem.F.plainAttrs_str,PySem.F.slot_str_join,PySem.F.type_str_join,h1,h2,?_⟩
 rw [hs]
 refine Calls.callWith_builtin rfl (Calls.evalArgs_plain ?_)
 show wpAny _ _ (spliced ((false,eval (.Call (.Name "reversed" p2) [e] [] rpos) X.env) :: backTo cpos [])) _ _ s1
 refine Calls.spliced_cons (wpAny_Call_Name_kw (ld_blt I1 hg hmg hv ?_ (by decide) (by decide)))
 refine PyProof.Rows.callWith_type1 (rest:=[]) ?_ hs2 rfl
 rw [hs2]
 show wpAny _ _ (spliced ((false,eval e X.env) :: backTo rpos [])) _ _ s1
 refine Calls.spliced_cons (thn (he pins s1 σ H1 _ I1 q1) λ u s2 ⟨y,H2,I2,r2,l,el,hz,q2⟩=>?_)
 subst el
 obtain ⟨t2,rfl⟩:=r2
 refine Calls.spliced_nil ?_
 have sz : (tx l).length = l.length:=tx_len l
 have hs0:=sizeLine_eq
 have hl : l.length <= sizeLine:=by omega
 refine call_reversed_str (by rw [sz]; exact hl) λ tk=>?_
 refine Calls.spliced_nil ?_
 refine join_rev (x:=tx l) (t:=t2) (I2.ok.hd hc) (by rw [sz]; exact hl) ⟨_,Heap.get?_push_size _ rfl,rfl,rfl⟩ λ s' ps hm hit'=>?_
 have ee:=rev_items hit'
 rw [ee]
 have hok : (((l.reverse.map λ c=>[c]).map tx).map (·.length)).sum + ((l.reverse.map λ c=>[c]).map tx).length * (tx sep).length <= 16777216:=by
  rw [sum_lens,List.length_map,List.length_map,List.length_reverse,tx_len]
  have e1 : (l.reverse.map λ c=>[c]).flatten.length = l.length:=by
   rw [List.length_flatten,List.map_map]
   show (l.reverse.map λ _=>1).sum = _
   rw [List.map_const',List.sum_replicate_nat,List.length_reverse]; omega
  rw [e1]
  have : l.length * sep.length <= 4000 * 1000:=Nat.mul_le_mul hz.1 hz.2
  omega
 refine ⟨joinOk_of hok,λ t' k=>?_⟩
 rw [tx_join]
 obtain ⟨h',g',d',tk',os'⟩:=s'
 have e1 : g' = s2.gens:=hm.gens
 have e2 : d' = s2.drawn:=hm.drawn
 have e3 : os' = s2.os:=hm.os
 subst e1 e2 e3
 exact ⟨.str _,H2,I2.kept (t':=k) λ b u e=>hm.heap b u (λ hb=>absurd (Heap.lt_size e) ((List.mem_singleton.mp hb) ▸ Nat.lt_irrefl _)) (Heap.get?_push_of_some _ e),⟨_,rfl⟩,q2⟩
def rNeL (K : PySem.W.Frag) : R2:=λ x y H Q=>∃ a b xs ys,x = .ref a /\ y = .ref b /\ SqL K H a xs /\ SqL K H b ys /\ xs.all flatV = true /\ ys.all flatV = true /\ Q (.bl (!eqVs xs ys)) H
theorem op_neL (hu : X.A.units < cLine) : OpR X (compareOp .NotEq) (rNeL X.K):=by
 intro pins s σ H x y v u Q I rx ry h
 obtain ⟨a,b,xs,ys,rfl,rfl,ha,hb,fx,fy,q⟩:=h
 cases (show v = Value.ref a from rx)
 cases (show u = Value.ref b from ry)
 obtain ⟨its,rv,p,_⟩:=I.list ha
 obtain ⟨its2,rv2,p2,_⟩:=I.list hb
 have l1:=rv.length
 have l2:=rv2.length
 by_cases hz : xs.length = ys.length
 ·refine SeqAt.RcNeAt.lists (e:=λ j=>eqV (xs.getD j .non) (ys.getD j .non)) p.isList p2.isList (by simp [← l1,← l2,hz]) hu (λ j h1 h2=>eqAt_items rv rv2 fx fy j h1 h2) X.prog X.w X.xe _ ?_
  have e : (List.range its.toArray.size).all (λ j=>eqV (xs.getD j .non) (ys.getD j .non)) = eqVs xs ys:=by
   rw [← eqVs_all hz]; simp [← l1]
  rw [e]
  exact ⟨.bl _,H,I,rfl,q⟩
 ·rw [eqVs_len hz] at q
  exact SeqAt.RcNeAt.lists_lengths p.isList p2.isList (by simp [← l1,← l2,hz]) hu X.prog X.w X.xe _ ⟨.bl _,H,I,rfl,q⟩
def oNeN (hu : X.A.units < cLine):=(op_ne (X:=X)).or ((op_neT hu).or (op_neL hu))
end
end L2
namespace L2
open PySem PySem.Spec PyProof.Rows
section
variable {κ : Type} [DecidableEq κ]
def valV (kvs : List (κ × V)) (k : κ) : Option V:=(kvs.find? λ kv=>decide (kv.1 = k)).map (·.2)
def putK (kvs : List (κ × V)) (k : κ) (v : V) : List (κ × V) :=
 if (kvs.any λ kv=>decide (kv.1 = k)) = true then kvs.map (λ kv=>if kv.1 = k then (kv.1,v) else kv) else kvs ++ [(k,v)]
def dropK (kvs : List (κ × V)) (k : κ) : List (κ × V):=kvs.filter λ kv=>decide (kv.1 ≠ k)
theorem valV_pos {p : κ × V} {r : List (κ × V)} {k : κ} (e : p.1 = k) : valV (p :: r) k = some p.2:=by simp [valV,List.find?_cons,e]
theorem valV_neg {p : κ × V} {r : List (κ × V)} {k : κ} (e : ¬ p.1 = k) : valV (p :: r) k = valV r k:=by simp [valV,List.find?_cons,e]
theorem valV_any (k : κ) : ∀ kvs : List (κ × V),(kvs.any λ kv=>decide (kv.1 = k)) = (valV kvs k).isSome
 | []=>rfl
 | p :: r=>by
   rw [List.any_cons]
   by_cases e : p.1 = k
   ·simp only [valV_pos e,decide_eq_true e,Bool.true_or,Option.isSome_some]
   ·rw [valV_neg e,decide_eq_false e,Bool.false_or]; exact valV_any k r
theorem valV_map (k j : κ) (y : V) : ∀ kvs : List (κ × V),valV (kvs.map λ kv=>if kv.1 = k then (kv.1,y) else kv) j = (valV kvs j).map λ x=>if j = k then y else x
 | []=>rfl
 | p :: r=>by
   have ih:=valV_map k j y r
   rw [List.map_cons]
   by_cases h : p.1 = k
   ·rw [if_pos h]
    by_cases e : p.1 = j
    ·rw [valV_pos (p:=(p.1,y)) e,valV_pos e,Option.map_some,if_pos (e.symm.trans h)]
    ·rw [valV_neg (p:=(p.1,y)) e,valV_neg e,ih]
   ·rw [if_neg h]
    by_cases e : p.1 = j
    ·rw [valV_pos (p:=p) e,valV_pos e,Option.map_some,if_neg (λ z=>h (e.trans z))]
    ·rw [valV_neg (p:=p) e,valV_neg e,ih]
theorem valV_snoc (k j : κ) (y : V) : ∀ kvs : List (κ × V),valV kvs k = none -> valV (kvs ++ [(k,y)]) j = if j = k then some y else valV kvs j
 | [],_=>by
   by_cases e : k = j
   ·rw [if_pos e.symm]; exact valV_pos (p:=(k,y)) e
   ·rw [if_neg (λ z=>e z.symm)]; exact valV_neg (p:=(k,y)) e
 | p :: r,hn=>by
   rw [List.cons_append]
   have hk : ¬ p.1 = k:=λ z=>by rw [valV_pos z] at hn; cases hn
   rw [valV_neg hk] at hn
   have ih:=valV_snoc k j y r hn
   by_cases e : p.1 = j
   ·rw [valV_pos e,valV_pos e,if_neg (λ z=>hk (e.trans z))]
   ·rw [valV_neg e,valV_neg e,ih]
theorem valV_put (kvs : List (κ × V)) (k j : κ) (y : V) : valV (putK kvs k y) j = if j = k then some y else valV kvs j:=by
 unfold putK
 by_cases a : (kvs.any λ kv=>decide (kv.1 = k)) = true
 ·rw [if_pos a,valV_map]
  rw [valV_any] at a
  by_cases e : j = k
  ·obtain ⟨x,hx⟩:=Option.isSome_iff_exists.mp a
   rw [if_pos e,e,hx,Option.map_some,if_pos rfl]
  ·rw [if_neg e]
   cases valV kvs j with
   | none=>rfl
   | some x=>rw [Option.map_some,if_neg e]
 ·rw [if_neg a]
  refine valV_snoc k j y kvs ?_
  rw [valV_any] at a
  cases q : valV kvs k with
  | none=>rfl
  | some x=>rw [q] at a; exact (a rfl).elim
theorem length_putK (kvs : List (κ × V)) (k : κ) (v : V) : (putK kvs k v).length <= kvs.length + 1:=by
 unfold putK
 split
 ·rw [List.length_map]; omega
 ·rw [List.length_append,List.length_cons,List.length_nil]; omega
theorem putK_new {kvs : List (κ × V)} {k : κ} (v : V) (h : valV kvs k = none) : putK kvs k v = kvs ++ [(k,v)]:=by
 unfold putK
 rw [valV_any,h]
 exact if_neg (by decide)
theorem RelO.isSome_eq {o : Option V} {u : Option Value} (r : RelO o u) : o.isSome = u.isSome:=by
 cases o with
 | none=>cases u with
   | none=>rfl
   | some _=>exact (show False from r).elim
 | some _=>cases u with
   | none=>exact (show False from r).elim
   | some _=>rfl
theorem RelO.getD {o : Option V} {u : Option Value} {d : V} {d' : Value} (r : RelO o u) (rd : RelV d d') : RelV (o.getD d) (u.getD d'):=by
 cases o with
 | none=>cases u with
   | none=>exact rd
   | some _=>exact (show False from r).elim
 | some _=>cases u with
   | none=>exact (show False from r).elim
   | some _=>exact r
theorem KV.val {kvs : List (κ × V)} {vs : List (κ × Value)} (r : KV kvs vs) (k : κ) : RelO (valV kvs k) (valueAt vs k):=by
 unfold KV at r
 induction r with
 | nil=>exact True.intro
 | @cons p q ps qs h t ih =>
   obtain ⟨h1,h2⟩:=h
   by_cases e : p.1 = k
   ·have e' : q.1 = k:=h1.symm.trans e
    have b : valueAt (q :: qs) k = some q.2:=by simp [valueAt,List.find?_cons,e']
    rw [valV_pos e,b]; exact h2
   ·have e' : ¬ q.1 = k:=λ z=>e (h1.trans z)
    have b : valueAt (q :: qs) k = valueAt qs k:=by simp [valueAt,List.find?_cons,e']
    rw [valV_neg e,b]; exact ih
theorem KV.any {kvs : List (κ × V)} {vs : List (κ × Value)} (r : KV kvs vs) (k : κ) : (kvs.any λ kv=>decide (kv.1 = k)) = vs.any λ kv=>decide (kv.1 = k):=by
 unfold KV at r
 induction r with
 | nil=>rfl
 | cons h t ih=>rw [List.any_cons,List.any_cons,ih,h.1]
theorem KV.repl {kvs : List (κ × V)} {vs : List (κ × Value)} (r : KV kvs vs) (k : κ) {y : V} {u : Value} (ry : RelV y u) :
 KV (kvs.map λ kv=>if kv.1 = k then (kv.1,y) else kv) (vs.map λ kv=>if kv.1 = k then (kv.1,u) else kv):=by
 unfold KV at r ⊢
 induction r with
 | nil=>exact .nil
 | @cons p q ps qs h t ih =>
   rw [List.map_cons,List.map_cons]
   refine .cons ?_ ih
   obtain ⟨h1,h2⟩:=h
   by_cases e : p.1 = k
   ·rw [if_pos e,if_pos (h1.symm.trans e)]; exact ⟨h1,ry⟩
   ·rw [if_neg e,if_neg (λ z=>e (h1.trans z))]; exact ⟨h1,h2⟩
theorem KV.put {kvs : List (κ × V)} {vs : List (κ × Value)} (r : KV kvs vs) (k : κ) {y : V} {u : Value} (ry : RelV y u) : KV (putK kvs k y) (stored vs k u):=by
 unfold putK stored
 rw [r.any k]
 by_cases e : (vs.any λ kv=>decide (kv.1 = k)) = true
 ·rw [if_pos e,if_pos e]; exact r.repl k ry
 ·rw [if_neg e,if_neg e]; exact Paired.snoc r ⟨rfl,ry⟩
theorem KV.drop {kvs : List (κ × V)} {vs : List (κ × Value)} (r : KV kvs vs) (k : κ) : KV (dropK kvs k) (without vs k):=by
 unfold KV at r ⊢
 unfold dropK without
 induction r with
 | nil=>exact .nil
 | @cons p q ps qs h t ih =>
   obtain ⟨h1,h2⟩:=h
   rw [List.filter_cons,List.filter_cons]
   by_cases e : p.1 = k
   ·have a : ¬ decide (p.1 ≠ k) = true:=by simp [e]
    have b : ¬ decide (q.1 ≠ k) = true:=by simp [h1.symm.trans e]
    rw [if_neg a,if_neg b]; exact ih
   ·have e' : ¬ q.1 = k:=λ z=>e (h1.trans z)
    have a : decide (p.1 ≠ k) = true:=by simp [e]
    have b : decide (q.1 ≠ k) = true:=by simp [e']
    rw [if_pos a,if_pos b]; exact .cons ⟨h1,h2⟩ ih
theorem KV.keys {kvs : List (κ × V)} {vs : List (κ × Value)} (r : KV kvs vs) : kvs.map (·.1) = vs.map (·.1):=by
 unfold KV at r
 induction r with
 | nil=>rfl
 | cons h t ih=>rw [List.map_cons,List.map_cons,ih,h.1]
theorem KV.length {kvs : List (κ × V)} {vs : List (κ × Value)} (r : KV kvs vs) : kvs.length = vs.length:=Paired.length r
end
theorem kV_is {P : Program} {w : World} {k : Key} {u : Value} (r : RelV (kV k) u) : (mixKind P w).is k u = true:=by
 cases k with
 | inl i=>obtain ⟨t,e⟩:=(show ∃ t,u = Value.int i t from r); subst e; exact mixKind_int P w i t
 | inr x=>obtain ⟨t,e⟩:=(show ∃ t,u = Value.str x t from r); subst e; exact mixKind_str P w x t
theorem items_are {P : Program} {w : World} : ∀ {ks : List Key} {us : List Value},Vals (ks.map kV) us -> ItemsAre (mixKind P w) ks us
 | [],_,r=>by rw [List.map_nil] at r; cases r; exact .nil
 | k :: ks,_,r=>by
   rw [List.map_cons] at r
   cases r with
   | cons h t=>exact .cons (kV_is h) (items_are t)
abbrev KT (H : Hp) : List (List Key × V) -> List (List Key × Addr × Value) -> Prop:=Paired λ p q=>p.1 = q.1 /\ H q.2.1 = some (.tup (p.1.map kV)) /\ RelV p.2 q.2.2
theorem KT.val {H : Hp} {kvs : List (List Key × V)} {xs : List (List Key × Addr × Value)} (r : KT H kvs xs) (k : List Key) : RelO (valV kvs k) ((atKey xs k).map (·.2)):=by
 induction r with
 | nil=>exact True.intro
 | @cons p q ps qs h t ih =>
   obtain ⟨h1,_,h2⟩:=h
   by_cases e : p.1 = k
   ·have e' : q.1 = k:=h1.symm.trans e
    have b : atKey (q :: qs) k = some q.2:=by simp [atKey,List.find?_cons,e']
    rw [valV_pos e,b]; exact h2
   ·have e' : ¬ q.1 = k:=λ z=>e (h1.trans z)
    have b : atKey (q :: qs) k = atKey qs k:=by simp [atKey,List.find?_cons,e']
    rw [valV_neg e,b]; exact ih
theorem KT.repl {H : Hp} {kvs : List (List Key × V)} {xs : List (List Key × Addr × Value)} (r : KT H kvs xs) (k : List Key) {y : V} {u : Value} (ry : RelV y u) :
 KT H (kvs.map λ kv=>if kv.1 = k then (kv.1,y) else kv) (xs.map (putAt k u)):=by
 induction r with
 | nil=>exact .nil
 | @cons p q ps qs h t ih =>
   rw [List.map_cons,List.map_cons]
   refine .cons ?_ ih
   obtain ⟨h1,h2,h3⟩:=h
   unfold putAt
   by_cases e : p.1 = k
   ·rw [if_pos e,if_pos (h1.symm.trans e)]; exact ⟨h1,h2,ry⟩
   ·rw [if_neg e,if_neg (λ z=>e (h1.trans z))]; exact ⟨h1,h2,h3⟩
theorem KT.put {H : Hp} {kvs : List (List Key × V)} {xs : List (List Key × Addr × Value)} (r : KT H kvs xs) (k : List Key) {b : Addr} {y : V} {u : Value} (hb : H b = some (.tup (k.map kV))) (ry : RelV y u) :
 KT H (putK kvs k y) (storedH xs k b u):=by
 have e : (kvs.any λ kv=>decide (kv.1 = k)) = (atKey xs k).isSome:=by
  rw [valV_any,(r.val k).isSome_eq,Option.isSome_map]
 unfold putK storedH
 rw [e]
 by_cases q : (atKey xs k).isSome = true
 ·rw [if_pos q,if_pos q]; exact r.repl k ry
 ·rw [if_neg q,if_neg q]; exact Paired.snoc r ⟨rfl,hb,ry⟩
theorem KT.keeps {H H' : Hp} {kvs : List (List Key × V)} {xs : List (List Key × Addr × Value)} (r : KT H kvs xs) (ht : ∀ b ys,H b = some (.tup ys) -> H' b = some (.tup ys)) : KT H' kvs xs :=
 Paired.mapP r λ _ _ z=>⟨z.1,ht _ _ z.2.1,z.2.2⟩
section
variable {P : Program} {w : World} {H : Hp} {h : Heap} {a : Addr}
theorem rd_of {u : HO} (ok : HOk P w H h) (e : Rd H a u) : ObjOk P w H h a u:=e.ok ok
theorem dk_rd {kvs : List (Key × V)} (ok : HOk P w H h) (e : Rd H a (.dK kvs)) : kvs.length <= sizeLine /\ (a == sysModules) = false /\ ∃ vs,KV kvs vs /\ h.DictOf (mixKind P w) a vs :=
 show ObjOk P w H h a (.dK kvs) from rd_of ok e
theorem dk_of {kvs : List (Key × V)} (ok : HOk P w H h) (e : H a = some (.dK kvs)) : kvs.length <= sizeLine /\ (a == sysModules) = false /\ ∃ vs,KV kvs vs /\ h.DictOf (mixKind P w) a vs:=dk_rd ok (.inl e)
theorem key_of {ks : List Key} (ok : HOk P w H h) (e : H a = some (.tup (ks.map kV))) : (tupleKind (mixKind P w)).is h ks a:=by
 obtain ⟨_,its,r,o,h1,h2,n,h3⟩:=(show ObjOk P w H h a (.tup (ks.map kV)) from ok a _ e)
 exact ⟨o,its.toArray,n,h1,h2,h3,by simpa using items_are r⟩
theorem dt_rd {kvs : List (List Key × V)} (ok : HOk P w H h) (e : Rd H a (.dT kvs)) : kvs.length <= sizeLine /\ (a == sysModules) = false /\
 ∃ xs,KT H kvs xs /\ h.DictOfH (tupleKind (mixKind P w)) a xs:=by
 obtain ⟨z,y,xs,r,o,es,ep,h1,h2,h3,h4,h5⟩:=(show ObjOk P w H h a (.dT kvs) from rd_of ok e)
 refine ⟨z,y,xs,r,o,es,ep,h1,h2,h3,h4,λ x hx=>?_,h5⟩
 have all : ∀ {l : List (List Key × V)} {m : List (List Key × Addr × Value)},KT H l m -> ∀ x ∈ m,(tupleKind (mixKind P w)).is h x.1 x.2.1:=by
  intro l m q
  induction q with
  | nil=>intro x hx; exact nomatch hx
  | @cons p q ps qs hq t ih =>
    intro x hx
    rcases List.mem_cons.mp hx with e | hx
    ·subst e
     exact key_of ok (by rw [← hq.1]; exact hq.2.1)
    ·exact ih x hx
 exact all r x hx
theorem dt_of {kvs : List (List Key × V)} (ok : HOk P w H h) (e : H a = some (.dT kvs)) : kvs.length <= sizeLine /\ (a == sysModules) = false /\
 ∃ xs,KT H kvs xs /\ h.DictOfH (tupleKind (mixKind P w)) a xs:=dt_rd ok (.inl e)
end
def DGet (H : Hp) (a : Addr) (y : V) (r : Option V) : Prop :=
 (∃ kvs k,Rd H a (.dK kvs) /\ y = kV k /\ r = valV kvs k) \/ ∃ kvs k b,Rd H a (.dT kvs) /\ y = .ref b /\ H b = some (.tup (k.map kV)) /\ r = valV kvs k
def DPut (H : Hp) (a : Addr) (y v : V) (H' : Hp) : Prop :=
 (∃ kvs k,H a = some (.dK kvs) /\ y = kV k /\ kvs.length < sizeLine /\ H' = upd H a (.dK (putK kvs k v))) \/
 ∃ kvs k b,H a = some (.dT kvs) /\ y = .ref b /\ H b = some (.tup (k.map kV)) /\ kvs.length < sizeLine /\ H' = upd H a (.dT (putK kvs k v))
theorem DGet.k {H : Hp} {a : Addr} {kvs : List (Key × V)} {k : Key} (e : H a = some (.dK kvs)) : DGet H a (kV k) (valV kvs k):=.inl ⟨kvs,k,.inl e,rfl,rfl⟩
theorem DGet.t {H : Hp} {a b : Addr} {kvs : List (List Key × V)} {k : List Key} (e : H a = some (.dT kvs)) (eb : H b = some (.tup (k.map kV))) : DGet H a (.ref b) (valV kvs k):=.inr ⟨kvs,k,b,.inl e,rfl,eb,rfl⟩
theorem DPut.k {H : Hp} {a : Addr} {kvs : List (Key × V)} {k : Key} {v : V} (e : H a = some (.dK kvs)) (hl : kvs.length < sizeLine) : DPut H a (kV k) v (upd H a (.dK (putK kvs k v))):=.inl ⟨kvs,k,e,rfl,hl,rfl⟩
theorem DPut.t {H : Hp} {a b : Addr} {kvs : List (List Key × V)} {k : List Key} {v : V} (e : H a = some (.dT kvs)) (eb : H b = some (.tup (k.map kV))) (hl : kvs.length < sizeLine) :
 DPut H a (.ref b) v (upd H a (.dT (putK kvs k v))):=.inr ⟨kvs,k,b,e,rfl,eb,hl,rfl⟩
section
variable {X : Cx} {pins : List (Addr × Obj)} {σ : St} {H : Hp} {s : Shared} {a : Addr} {y v : V} {u r : Value} {o : Option V} {A : Around} {E : Value -> Shared -> Prop}
theorem d_getItem {Q : Value -> Shared -> Prop} (hu : A.units + 1 < cLine) (I : Inv X pins σ H s) (g : DGet H a y (some v)) (ry : RelV y u) (h : ∀ w' s',Inv X pins σ H s' -> RelV v w' -> Q w' s') :
 wpAny (model X.prog X.w) A (getItem (.ref a) u) Q E s:=by
 rcases g with ⟨kvs,k,e,ey,l⟩ | ⟨kvs,k,b,e,ey,eb,l⟩
 ·subst ey
  obtain ⟨z,hd,vs,rel,dd⟩:=dk_rd I.hok e
  obtain ⟨w',hw,rw'⟩:=RelO.some_of (v:=v) (o:=valueAt vs k) (by rw [l]; exact rel.val k)
  exact wpAny_getItem_of (kV_is ry) dd.mapOf hw (h w' _ (I.tok _) rw')
 ·subst ey
  cases (show u = Value.ref b from ry)
  obtain ⟨z,hd,xs,rel,dd⟩:=dt_rd I.hok e
  obtain ⟨w',hw,rw'⟩:=RelO.some_of (v:=v) (o:=(atKey xs k).map (·.2)) (by rw [l]; exact rel.val k)
  obtain ⟨p,hp,hp2⟩:=Option.map_eq_some_iff.mp hw
  refine wpAny_getItem_heap (tupleKind_room_in1 hu) (key_of I.hok eb) dd hp ?_
  rw [hp2]
  exact h w' _ (I.tok _) rw'
theorem d_write {h' : Heap} {t' : Nat} {ob : HO} (I : Inv X pins σ H s) (mu : Mut (H a)) (hs : Heap.SameBut a s.heap h') (he : ∃ q,h'.get? a = some q) (new : ObjOk X.prog X.w (upd H a ob) h' a ob) :
 Inv X pins σ (upd H a ob) { s with heap:=h',toks:=t' } :=
 I.write (x:=a) (e:=a) mu (.inl rfl) (λ b q hb z=>(hs.2 b hb).trans z) he new
theorem dk_new {P : Program} {w : World} {H' : Hp} {h' : Heap} {kvs : List (Key × V)} {vs : List (Key × Value)} (z : kvs.length <= sizeLine) (hd : (a == sysModules) = false) (rel : KV kvs vs) (dd : h'.DictOf (mixKind P w) a vs) :
 ObjOk P w H' h' a (.dK kvs):=⟨z,hd,vs,rel,dd⟩
theorem d_setItem {H' : Hp} {Q : Unit -> Shared -> Prop} (hu : A.units + 1 < cLine) (I : Inv X pins σ H s) (g : DPut H a y v H') (ry : RelV y u) (rv : RelV v r) (h : ∀ s',Inv X pins σ H' s' -> Q () s') :
 wpAny (model X.prog X.w) A (setItem (.ref a) u r) Q E s:=by
 rcases g with ⟨kvs,k,e,ey,l,eH⟩ | ⟨kvs,k,b,e,ey,eb,l,eH⟩
 ·subst ey eH
  obtain ⟨z,hd,vs,rel,dd⟩:=dk_of I.hok e
  have hz : vs.length <= sizeLine:=by rw [← rel.length]; exact z
  have hl : (putK kvs k v).length <= sizeLine:=by have:=length_putK kvs k v; omega
  refine wpAny_setItem_pairs (hsz:=hz) (kV_is ry) dd λ h' dd' hs=>h _ ?_
  have he : ∃ q,h'.get? a = some q:=let ⟨q,_,_,hq,_⟩:=dd'; ⟨q,hq⟩
  exact d_write I (by rw [e]; exact True.intro) hs he (dk_new hl hd (rel.put k rv) dd')
 ·subst ey eH
  cases (show u = Value.ref b from ry)
  obtain ⟨z,hd,xs,rel,dd⟩:=dt_of I.hok e
  have hz : xs.length <= sizeLine:=by rw [← Paired.length rel]; exact z
  have hl : (putK kvs k v).length <= sizeLine:=by have:=length_putK kvs k v; omega
  refine wpAny_setItem_heap (hsz:=hz) (tupleKind_room_in1 hu) (key_of I.hok eb) dd λ h' dd' hs=>h _ ?_
  obtain ⟨q,es,ep,hq,h2,h3,h4,_,h5⟩:=dd'
  refine d_write I (by rw [e]; exact True.intro) hs ⟨q,hq⟩ ⟨hl,hd,_,(rel.put k eb rv).keeps λ c ys ec=>?_,q,es,ep,hq,h2,h3,h4,h5⟩
  rw [upd_ne (ne_of ec e (λ z=>nomatch z))]
  exact ec
end
section
variable {X : Cx} {pins : List (Addr × Obj)} {σ : St} {H : Hp} {s : Shared} {a : Addr} {kvs : List (Key × V)} {k : Key} {u : Value} {A : Around} {E : Value -> Shared -> Prop}
end
def NoSl (i : Expr) : Prop:=∀ ov iv,subscripted i false ov iv = operate [ov,iv] (getItem ov iv)
theorem subD_of {prog : Program} {w : World} {A : Around} {E : Value -> Shared -> Prop} {s : Shared} {env : Env} {value slice : Expr} {pos : Pos} {T id : String} {Q : Value -> Shared -> Prop}
 (hl : typeLookup (.type T) "__getitem__" = pure (some (.builtin id))) (hs : NoSl slice)
 (h : wpAny (model prog w) A (eval value env) (λ o s₁=>wpAny (model prog w) A (eval slice env) (λ i s₂=>s₂.TypeIs o T /\ wpAny (model prog w) A (getItem o i) Q E s₂) E s₁) E s) :
 wpAny (model prog w) A (eval (.Subscript value slice pos) env) Q E s:=by
 refine Subscript_ (wpAny_mono h (λ o s₁ h₁=>wpAny_mono h₁ (λ i s₂ h₂=>?_) λ _ _ x=>x) λ _ _ x=>x)
 obtain ⟨hT,h₂⟩:=h₂
 unfold subscriptTail
 refine wpAny_bind ?_
 rw [getitemInPython_of_ne hT.not_modules]
 refine wpAny_bind (wpAny_specialOf hT hl ?_)
 have fin : wpAny (model prog w) A (subscripted slice false o i) (λ r s₃=>wpAny (model prog w) A (letTemporaryGo value o r >>= λ _=>pure r) Q E s₃) E s₂:=by
  rw [hs o i]
  exact wpAny_operating (wpAny_mono h₂ (λ r s₃ h₃=>wpAny_bind (wpAny_letTemporaryGo (wpAny_pure h₃))) λ _ _ x=>x)
 first
  | exact wpAny_pure (wpAny_bind fin)
  | exact wpAny_bind (wpAny_pure (wpAny_bind fin))
  | exact wpAny_bind fin
theorem dict_typeIs {X : Cx} {pins : List (Addr × Obj)} {σ : St} {H : Hp} {s : Shared} {a : Addr} {y : V} {o : Option V} (I : Inv X pins σ H s) (g : DGet H a y o) : s.TypeIs (.ref a) "dict":=by
 rcases g with ⟨kvs,k,e,_,_⟩ | ⟨kvs,k,b,e,_,_,_⟩
 ·obtain ⟨_,_,vs,_,dd⟩:=dk_rd I.hok e
  exact dd.typeIs
 ·obtain ⟨_,_,xs,_,dd⟩:=dt_rd I.hok e
  exact dd.typeIs
def tDGet (td ty : TE) : TE:=λ σ H Q=>td σ H λ x H1=>ty σ H1 λ y H2=>∃ a v,x = .ref a /\ DGet H2 a y (some v) /\ Q v H2
def sDPut (td ty tv : TE) : TS:=λ D σ H=>tv σ H λ v H1=>td σ H1 λ x H2=>ty σ H2 λ y H3=>∃ a H4,x = .ref a /\ DPut H3 a y v H4 /\ D.nx σ H4
section
variable {X : Cx} {o i e value : Expr} {pos pos' tpos : Pos} {td ty tv : TE}
theorem pe_dget (hu : X.A.units + 1 < cLine) (ho : PE X o td) (hi : PE X i ty) (hs : NoSl i) : PE X (.Subscript o i pos) (tDGet td ty):=by
 intro pins s σ H Q I h
 refine subD_of PySem.F.slot_dict_getitem.lookup hs (thn (ho pins s σ H _ I h) λ u s1 ⟨x,H1,I1,rx,q1⟩=>thn (hi pins s1 σ H1 _ I1 q1) λ iv s2 ⟨y,H2,I2,ry,a,v,ex,g,q2⟩=>?_)
 subst ex
 obtain rfl : u = Value.ref a:=rx
 exact ⟨dict_typeIs I2 g,d_getItem hu I2 g ry λ w' s3 I3 rw'=>⟨v,H2,I3,rw',q2⟩⟩
theorem ps_dput (hu : X.A.units + 1 < cLine) (ho : PE X o td) (hi : PE X i ty) (hv : PE X value tv) (hs : swapsWith value (some (.Subscript o i pos')) pos.line X.env = pure false) :
 PS X (.Assign [.Subscript o i pos'] value pos) (sDPut td ty tv):=by
 intro pins s σ H D I h
 refine wpAny_Assign_Subscript (thn (hv pins s σ H _ I h) λ r s1 ⟨v,H1,I1,rv,q1⟩=>thn (ho pins s1 σ H1 _ I1 q1) λ u s2 ⟨x,H2,I2,rx,q2⟩=>thn (hi pins s2 σ H2 _ I2 q2) λ iv s3 ⟨y,H3,I3,ry,a,H4,ex,g,q3⟩=>?_) hs
 subst ex
 obtain rfl : u = Value.ref a:=rx
 exact d_setItem hu I3 g ry rv λ s4 I4=>⟨σ,H4,I4,q3⟩
end
section
variable {X : Cx} {pos : Pos}
end
def mergeK (kvs more : List (Key × V)) : List (Key × V):=more.foldl (λ acc kv=>putK acc kv.1 kv.2) kvs
theorem KV.merge : ∀ {more : List (Key × V)} {rs : List (Key × Value)} {kvs : List (Key × V)} {vs : List (Key × Value)},KV more rs -> KV kvs vs -> KV (mergeK kvs more) (merged vs rs):=by
 intro more rs kvs vs r
 unfold KV at r
 induction r generalizing kvs vs with
 | nil=>intro q; exact q
 | @cons p q ps qs h t ih =>
   intro r0
   have e : KV (putK kvs p.1 p.2) (stored vs q.1 q.2):=by
    have:=r0.put p.1 h.2
    rw [← h.1]; exact this
   exact ih e
structure M1 (X : Cx) (o : Expr) (m : Str) (apos : Pos) (e : Expr) (cpos : Pos) : Prop where
 base : attributeBase o m X.env (eval o X.env) = eval o X.env
 few : ((backTo cpos (starEach [e] X.env)).all (λ x=>!x.1) && (backToKw cpos (keywordEach [] X.env)).all (λ x=>x.1.isSome)
  && decide (([e] : List Expr).length + ([] : List Keyword).length + (if ([] : List Keyword).isEmpty then 0 else 1) < 30)) = true
 line : (apos.endLine == cpos.line) = true
 trees : backTo cpos (starEach [e] X.env) = [(false,eval e X.env)]
structure M2 (X : Cx) (o : Expr) (m : Str) (apos : Pos) (e f : Expr) (cpos : Pos) : Prop where
 base : attributeBase o m X.env (eval o X.env) = eval o X.env
 few : ((backTo cpos (starEach [e,f] X.env)).all (λ x=>!x.1) && (backToKw cpos (keywordEach [] X.env)).all (λ x=>x.1.isSome)
  && decide (([e,f] : List Expr).length + ([] : List Keyword).length + (if ([] : List Keyword).isEmpty then 0 else 1) < 30)) = true
 line : (apos.endLine == cpos.line) = true
 trees : backTo cpos (starEach [e,f] X.env) = [(false,eval e X.env),(false,eval f X.env)]
def IsD (H : Hp) (a : Addr) : Prop:=(∃ kvs,Rd H a (.dK kvs)) \/ ∃ kvs,Rd H a (.dT kvs)
theorem isD_at {X : Cx} {pins : List (Addr × Obj)} {σ : St} {H : Hp} {s : Shared} {a : Addr} (I : Inv X pins σ H s) (d : IsD H a) :
 s.TypeIs (.ref a) "dict" /\ (∀ b,Value.ref a = .ref b -> ∃ ob,s.heap.get? b = some ob /\ ob.dict = none) /\ (a == sysModules) = false:=by
 rcases d with ⟨kvs,e⟩ | ⟨kvs,e⟩
 ·obtain ⟨_,hd,vs,_,dd⟩:=dk_rd I.hok e
  refine ⟨dd.typeIs,λ b q=>?_,hd⟩
  cases q
  obtain ⟨ob,_,_,h1,h2,_⟩:=dd
  exact ⟨ob,h1,h2.2.1⟩
 ·obtain ⟨_,hd,xs,_,dd⟩:=dt_rd I.hok e
  refine ⟨dd.typeIs,λ b q=>?_,hd⟩
  cases q
  obtain ⟨ob,_,_,h1,h2,_⟩:=dd
  exact ⟨ob,h1,h2.2.1⟩
section
variable {X : Cx} {pins : List (Addr × Obj)} {σ : St} {H : Hp} {s : Shared} {a : Addr} {y d : V} {u r : Value} {o : Option V} {A : Around} {E : Value -> Shared -> Prop}
theorem d_get1 {Q : Value -> Shared -> Prop} (hu : A.units + 1 < cLine) (I : Inv X pins σ H s) (g : DGet H a y o) (ry : RelV y u) (h : ∀ w' s',Inv X pins σ H s' -> RelV (o.getD .non) w' -> Q w' s') :
 wpAny (model X.prog X.w) A (call (.builtin "dict.get") [.ref a,u]) Q E s:=by
 rcases g with ⟨kvs,k,e,ey,l⟩ | ⟨kvs,k,b,e,ey,eb,l⟩
 ·subst ey
  obtain ⟨z,hd,vs,rel,dd⟩:=dk_rd I.hok e
  refine call_meetsIn PySem.F.slot_dict_get dd.typeIs PySem.F.entry_dict_get (PySem.F.args_dict_get_2 _ _) (meets_dict_get (mixKind X.prog X.w) a (kV_is ry) hd) ⟨_,dd.mapOf,h _ _ (I.tok _) ?_⟩
  rw [l]
  exact (rel.val k).getD rfl
 ·subst ey
  cases (show u = Value.ref b from ry)
  obtain ⟨z,hd,xs,rel,dd⟩:=dt_rd I.hok e
  refine call_meetsIn PySem.F.slot_dict_get dd.typeIs PySem.F.entry_dict_get (PySem.F.args_dict_get_2 _ _) (meetsH_dict_get (tupleKind (mixKind X.prog X.w)) a b hd) ⟨tupleKind_room_in1 hu,k,xs,key_of I.hok eb,dd,h _ _ (I.tok _) ?_⟩
  rw [l]
  exact (rel.val k).getD rfl
theorem d_get2 {Q : Value -> Shared -> Prop} (hu : A.units + 1 < cLine) (I : Inv X pins σ H s) (g : DGet H a y o) (ry : RelV y u) (rd : RelV d r) (h : ∀ w' s',Inv X pins σ H s' -> RelV (o.getD d) w' -> Q w' s') :
 wpAny (model X.prog X.w) A (call (.builtin "dict.get") [.ref a,u,r]) Q E s:=by
 rcases g with ⟨kvs,k,e,ey,l⟩ | ⟨kvs,k,b,e,ey,eb,l⟩
 ·subst ey
  obtain ⟨z,hd,vs,rel,dd⟩:=dk_rd I.hok e
  refine call_meetsIn PySem.F.slot_dict_get dd.typeIs PySem.F.entry_dict_get (PySem.F.args_dict_get_3 _ _ _) (meets_dict_get_default (mixKind X.prog X.w) a (kV_is ry) hd r) ⟨_,dd.mapOf,h _ _ (I.tok _) ?_⟩
  rw [l]
  exact (rel.val k).getD rd
 ·subst ey
  cases (show u = Value.ref b from ry)
  obtain ⟨z,hd,xs,rel,dd⟩:=dt_rd I.hok e
  refine call_meetsIn PySem.F.slot_dict_get dd.typeIs PySem.F.entry_dict_get (PySem.F.args_dict_get_3 _ _ _) (meetsH_dict_get_default (tupleKind (mixKind X.prog X.w)) a b hd r) ⟨tupleKind_room_in1 hu,k,xs,key_of I.hok eb,dd,h _ _ (I.tok _) ?_⟩
  rw [l]
  exact (rel.val k).getD rd
end
def tDGet1 (td ty : TE) : TE:=λ σ H Q=>td σ H λ x H1=>∃ a,x = .ref a /\ IsD H1 a /\ ty σ H1 λ y H2=>∃ o,DGet H2 a y o /\ Q (o.getD .non) H2
def tDGet2 (td ty tx : TE) : TE:=λ σ H Q=>td σ H λ x H1=>∃ a,x = .ref a /\ IsD H1 a /\ ty σ H1 λ y H2=>tx σ H2 λ z H3=>∃ o,DGet H3 a y o /\ Q (o.getD z) H3
section
variable {X : Cx} {o e f : Expr} {apos cpos : Pos} {td ty tx : TE}
theorem pe_dget1 (hu : X.A.units + 1 < cLine) (ho : PE X o td) (he : PE X e ty) (m : M1 X o "get" apos e cpos) : PE X (.Call (.Attribute o "get" apos) [e] [] cpos) (tDGet1 td ty):=by
 intro pins s σ H Q I h
 refine wpAny_Call_method m.base m.few m.line PySem.F.plainAttrs_dict PySem.F.slot_dict_get PySem.F.type_dict_get (thn (ho pins s σ H _ I h) λ u s1 ⟨x,H1,I1,rx,a,ex,d,q1⟩=>?_)
 subst ex
 obtain rfl : u = Value.ref a:=rx
 obtain ⟨t1,t2,_⟩:=isD_at I1 d
 refine ⟨t1,t2,?_⟩
 rw [m.trees]
 refine Calls.callWith_builtin rfl (Calls.evalArgs_plain (Calls.spliced_cons (thn (he pins s1 σ H1 _ I1 q1) λ iv s2 ⟨y,H2,I2,ry,ov,g,q2⟩=>Calls.spliced_nil ?_)))
 exact d_get1 hu I2 g ry λ w' s3 I3 rw'=>⟨_,H2,I3,rw',q2⟩
theorem pe_dget2 (hu : X.A.units + 1 < cLine) (ho : PE X o td) (he : PE X e ty) (hf : PE X f tx) (m : M2 X o "get" apos e f cpos) : PE X (.Call (.Attribute o "get" apos) [e,f] [] cpos) (tDGet2 td ty tx):=by
 intro pins s σ H Q I h
 refine wpAny_Call_method m.base m.few m.line PySem.F.plainAttrs_dict PySem.F.slot_dict_get PySem.F.type_dict_get (thn (ho pins s σ H _ I h) λ u s1 ⟨x,H1,I1,rx,a,ex,d,q1⟩=>?_)
 subst ex
 obtain rfl : u = Value.ref a:=rx
 obtain ⟨t1,t2,_⟩:=isD_at I1 d
 refine ⟨t1,t2,?_⟩
 rw [m.trees]
 refine Calls.callWith_builtin rfl (Calls.evalArgs_plain (Calls.spliced_cons (thn (he pins s1 σ H1 _ I1 q1) λ iv s2 ⟨y,H2,I2,ry,q2⟩ =>
  Calls.spliced_cons (thn (hf pins s2 σ H2 _ I2 q2) λ fv s3 ⟨z,H3,I3,rz,ov,g,q3⟩=>Calls.spliced_nil ?_))))
 exact d_get2 hu I3 g ry rz λ w' s4 I4 rw'=>⟨_,H3,I4,rw',q3⟩
end
section
variable {X : Cx} {pins : List (Addr × Obj)} {σ : St} {H : Hp} {s : Shared} {a : Addr} {kvs : List (Key × V)} {A : Around} {E : Value -> Shared -> Prop}
end
section
variable {X : Cx} {pins : List (Addr × Obj)} {σ : St} {H : Hp} {s : Shared} {a : Addr} {y : V} {u : Value} {A : Around} {E : Value -> Shared -> Prop}
end
end L2
namespace L2
open PySem PySem.Spec PyProof.Rows
section
variable {X : Cx}
end
section
variable {κ : Type} [DecidableEq κ]
end
end L2
namespace L2
open PySem PySem.Spec PyProof.Rows
section
variable {X : Cx} {pins : List (Addr × Obj)} {σ : St} {H : Hp} {s : Shared} {h' : Heap}
end
section
variable {X : Cx}
end
end L2
namespace L2
open PySem PySem.Spec PyProof.Rows
section
variable {X : Cx}
def rIndex : V -> List V -> Hp -> VK -> Prop:=λ x vs H Q=>∃ l c,x = vt l /\ vs = [vt [c]] /\ c ∈ l /\ ∀ j : Nat,l[j]? = some c -> Q (.int (j : Int)) H
theorem mt_index : MtR X "str.index" rIndex:=by
 intro pins s σ H x vs v us Q I rx rs h
 obtain ⟨l,c,rfl,rfl,hc,q⟩:=h
 obtain ⟨t,rfl⟩:=rx
 obtain ⟨u,rfl,ru⟩:=vals1 rs
 obtain ⟨t2,rfl⟩:=ru
 have hf:=StrLaws.found_one (tx l) c
 rw [show (tx l).cps.toList = l from rfl,decide_eq_true hc] at hf
 cases ho : Builtin.Str.occurrences (tx l) (tx [c]) 0 (tx l).length 1 with
 | nil =>
   have : (Builtin.Str.occurrences (tx l) ⟨#[c]⟩ 0 (tx l).length 1) = []:=ho
   rw [this] at hf; cases hf
 | cons i rest =>
   have hi : i ∈ Builtin.Str.occurrences (tx l) ⟨#[c]⟩ 0 (tx l).length 1:=by
    rw [show Builtin.Str.occurrences (tx l) ⟨#[c]⟩ 0 (tx l).length 1 = i :: rest from ho]; exact List.mem_cons_self
   have hat:=(StrLaws.subAt_one (tx l) c i).mp (StrLaws.occ_spec _ _ _ _ _ i hi)
   exact call_gives PySem.F.slot_str_index (typeIs_str _ _ _) PySem.F.entry_str_index (PySem.F.args_str_index_2 _ _) (gives_str_index (tx l) (tx [c]) t t2 i rest ho) ⟨.int i,H,I.tok _,⟨_,rfl⟩,q i hat⟩
def rFind : V -> List V -> Hp -> VK -> Prop:=λ x vs H Q=>∃ l c,x = vt l /\ vs = [vt [c]] /\ c ∈ l /\ ∀ j : Nat,l[j]? = some c -> Q (.int (j : Int)) H
theorem mt_find : MtR X "str.find" rFind:=by
 intro pins s σ H x vs v us Q I rx rs h
 obtain ⟨l,c,rfl,rfl,hc,q⟩:=h
 obtain ⟨t,rfl⟩:=rx
 obtain ⟨u,rfl,ru⟩:=vals1 rs
 obtain ⟨t2,rfl⟩:=ru
 have hf:=StrLaws.found_one (tx l) c
 rw [show (tx l).cps.toList = l from rfl,decide_eq_true hc] at hf
 have g:=gives_str_find (tx l) (tx [c]) t t2
 cases ho : Builtin.Str.occurrences (tx l) (tx [c]) 0 (tx l).length 1 with
 | nil =>
   have : (Builtin.Str.occurrences (tx l) ⟨#[c]⟩ 0 (tx l).length 1) = []:=ho
   rw [this] at hf; cases hf
 | cons i rest =>
   have hi : i ∈ Builtin.Str.occurrences (tx l) ⟨#[c]⟩ 0 (tx l).length 1:=by
    rw [show Builtin.Str.occurrences (tx l) ⟨#[c]⟩ 0 (tx l).length 1 = i :: rest from ho]; exact List.mem_cons_self
   have hat:=(StrLaws.subAt_one (tx l) c i).mp (StrLaws.occ_spec _ _ _ _ _ i hi)
   rw [ho] at g
   exact call_gives PySem.F.slot_str_find (typeIs_str _ _ _) PySem.F.entry_str_find (PySem.F.args_str_find_2 _ _) g ⟨.int i,H,I.tok _,⟨_,rfl⟩,q i hat⟩
def rGetL (K : PySem.W.Frag) : V -> V -> Hp -> VK -> Prop:=λ x y H Q=>∃ p xs i v,x = .ref p /\ y = .int i /\ SqL K H p xs /\ 0 <= i /\ atI xs i = some v /\ Q v H
theorem get_list : PGet X (rGetL X.K):=by
 intro pins s σ H x y v u Q I rx ry h
 obtain ⟨p,xs,i,z,rfl,rfl,hq,h0,he,q⟩:=h
 cases rx
 obtain ⟨t,rfl⟩:=ry
 obtain ⟨its,r,pl,hz⟩:=I.list hq
 obtain ⟨j,h1,h2,h3,h4,h5⟩:=atI_get he
 obtain ⟨w,ew,rw'⟩:=r.get h2
 have hl:=r.length
 have hn:=line63
 have hj : i.toNat = j:=by
  rw [seqIndex_of h0 h5] at h1
  exact Option.some.inj h1
 exact wpAny_getItem_list pl.isList h0 (by omega) (by rw [hj]; simpa using ew) ⟨z,H,I,rw',q⟩
end
end L2
namespace L2
open PySem PySem.Spec PyProof.Rows
structure DEnt (o : Obj) (es : Array DictEntry) (ep : Nat) : Prop where
 ex : o.ExactDict
 da : o.data = .dict es ep
section
variable {prog : Program} {w : World} {A : Around} {E : Value -> Shared -> Prop} {s : Shared} {o : Obj} {es : Array DictEntry} {ep : Nat} {it d : Addr} {i : Nat}
theorem DEnt.typeIs (D : DEnt o es ep) (ho : s.heap.get? d = some o) : s.TypeIs (.ref d) "dict":=⟨o,ho,D.ex.1⟩
end
section
variable {X : Cx}
end
end L2
namespace L2
open PySem PySem.Spec PyProof.Rows
section
variable {X : Cx}
end
end L2
namespace L2
open PySem PySem.Spec PyProof.Rows
section
variable {X : Cx}
def rEqE (K : PySem.W.Frag) (neg : Bool) : R2:=λ x y H Q=>∃ a b xs,x = .ref a /\ y = .ref b /\ SqL K H a xs /\ SqL K H b [] /\ Q (.bl (if neg then !xs.isEmpty else xs.isEmpty)) H
theorem op_eqE (hu : X.A.units < cLine) : OpR X (compareOp .Eq) (rEqE X.K false):=by
 intro pins s σ H x y v u Q I rx ry h
 obtain ⟨a,b,xs,rfl,rfl,ha,hb,q⟩:=h
 cases (show v = Value.ref a from rx)
 cases (show u = Value.ref b from ry)
 obtain ⟨its,rv,p,_⟩:=I.list ha
 obtain ⟨its2,rv2,p2,_⟩:=I.list hb
 have l1:=rv.length
 have l2:=rv2.length
 cases xs with
 | nil =>
   exact op_eqL hu pins s σ H _ _ _ _ Q I rx ry ⟨a,b,[],[],rfl,rfl,ha,hb,rfl,rfl,q⟩
 | cons z zs =>
   exact SeqAt.eq_list_lengthsAt p.isList p2.isList (by simp [← l1,← l2]) hu ⟨.bl _,H,I,rfl,q⟩
theorem op_neE (hu : X.A.units < cLine) : OpR X (compareOp .NotEq) (rEqE X.K true):=by
 intro pins s σ H x y v u Q I rx ry h
 obtain ⟨a,b,xs,rfl,rfl,ha,hb,q⟩:=h
 cases (show v = Value.ref a from rx)
 cases (show u = Value.ref b from ry)
 obtain ⟨its,rv,p,_⟩:=I.list ha
 obtain ⟨its2,rv2,p2,_⟩:=I.list hb
 have l1:=rv.length
 have l2:=rv2.length
 cases xs with
 | nil =>
   exact op_neL hu pins s σ H _ _ _ _ Q I rx ry ⟨a,b,[],[],rfl,rfl,ha,hb,rfl,rfl,q⟩
 | cons z zs =>
   exact SeqAt.RcNeAt.lists_lengths p.isList p2.isList (by simp [← l1,← l2]) hu X.prog X.w X.xe _ ⟨.bl _,H,I,rfl,q⟩
def rEqS (K : PySem.W.Frag) : R2:=λ x y H Q=>∃ a xs,x = .ref a /\ y = .ref a /\ SqT K H a xs /\ Q (.bl true) H
theorem op_eqS (hu : X.A.units < cLine) : OpR X (compareOp .Eq) (rEqS X.K):=by
 intro pins s σ H x y v u Q I rx ry h
 obtain ⟨a,xs,rfl,rfl,ha,q⟩:=h
 cases (show v = Value.ref a from rx)
 cases (show u = Value.ref a from ry)
 obtain ⟨its,rv,p,_⟩:=I.tuple ha
 refine SeqAt.eq_tupleAt (e:=λ _=>true) p p hu (λ j h1 h2=>SeqAt.EqAt.same _) ?_
 refine ⟨.bl true,H,I,?_,q⟩
 show Value.bool _ = Value.bool true
 congr 1
 simp
def oEqW (hu : X.A.units < cLine):=(oEqA (X:=X) hu).or ((op_eqE hu).or (op_eqS hu))
def oNeW (hu : X.A.units < cLine):=(oNeN (X:=X) hu).or (op_neE hu)
end
end L2
namespace L2
open PySem PySem.Spec PyProof.Rows
section
variable {prog : Program} {w : World} {A : Around} {E : Value -> Shared -> Prop} {s : Shared} {it t : Addr} {i : Nat} {items : Array Value} {x : Value}
structure ZApart (z TI TO i1 i2 : Addr) : Prop where
 a1 : TI ≠ z
 a2 : TO ≠ z
 a3 : i1 ≠ z
 a4 : i2 ≠ z
 a5 : TI ≠ TO
 a6 : TI ≠ i1
 a7 : TI ≠ i2
 a8 : TO ≠ i1
 a9 : TO ≠ i2
 a0 : i1 ≠ i2
end
section
variable {X : Cx} {pins : List (Addr × Obj)} {σ : St} {H : Hp} {s : Shared} {h' : Heap}
end
section
variable {X : Cx}
theorem zn {n : Nat} {a b : Nat} (h : a ≠ b) : n + a ≠ n + b:=by omega
end
end L2
namespace L2
open PySem PySem.Spec PyProof.Rows
section
variable {X : Cx}
def iRngD (ta : TA) : TI:=λ σ H R=>ta σ H λ vs H1=>∃ i : Int,vs = [.int i,.int (-1),.int (-1)] /\ (-1 <= i /\ i < 2 ^ 60) /\ R (Itrs i (-1) (i + 1).toNat) H1
theorem rangeSize_dn {i : Int} (h1 : -1 <= i) (h2 : i < 2 ^ 60) : Builtin.Range.rangeSize i (-1) (-1) = i + 1 /\ Builtin.Range.small i (-1) (-1) = true:=by
 have e : Builtin.Range.rangeSize i (-1) (-1) = i + 1:=by
  unfold Builtin.Range.rangeSize
  rw [if_neg (by decide)]
  split <;> (try simp) <;> omega
 refine ⟨e,?_⟩
 unfold Builtin.Range.small
 rw [e]
 simp only [Builtin.Range.rangeFitsLong,Bool.and_eq_true,Bool.or_eq_true,decide_eq_true_eq,beq_iff_eq]
 simp
 omega
variable {tg : Expr}
theorem pi_rangeD {a b c : Expr} {ta : TA} {p pos : Pos} (hg : Gl X "range") (hm : X.mg "range" = none) (ha : PA X [a,b,c] ta) (hs : starEach [a,b,c] X.env = (false,eval a X.env) :: starEach [b,c] X.env:=by rfl) (hs2 : (backTo pos (starEach [b,c] X.env)).any (·.1) = false:=by rfl) :
 PI X tg (.Call (.Name "range" p) [a,b,c] [] pos) (iRngD ta):=by
 intro pins s σ H R I h
 refine Call_ (ld_blt I hg hm boot_range (PyProof.Rows.callWith_type1 (thn (ha pos pins s σ H _ I h) λ us s1 ⟨vs,H1,I1,r1,q1⟩=>?_) hs hs2))
 obtain ⟨i,e,⟨h1,h2⟩,q⟩:=q1
 subst e
 cases r1 with
 | cons r rr =>
   cases rr with
   | cons r' rr =>
     cases rr with
     | cons r'' rr =>
       cases rr
       obtain ⟨t,rfl⟩:=r
       obtain ⟨t',rfl⟩:=r'
       obtain ⟨t'',rfl⟩:=r''
       have z:=rangeSize_dn h1 h2
       refine call_range_3 (by decide) ?_ (.inl (PyProof.noPylong_small (by omega)))
       refine wpAny_pyIter_range (IsRange.new ..) z.2 ?_
       have I2 : Inv X pins σ H1 { s1 with heap:=s1.heap.push { cls:=.type "range",data:=.fields #[.int i t,.int (-1) t',.int (-1) t''] },toks:=s1.toks }:=I1.kept λ b o e=>Heap.get?_push_of_some _ e
       refine ⟨(s1.heap.push { cls:=.type "range",data:=.fields #[.int i t,.int (-1) t',.int (-1) t''] }).objs.size,[(s1.heap.push { cls:=.type "range",data:=.fields #[.int i t,.int (-1) t',.int (-1) t''] }).objs.size],_,_,H1,rfl,
        I2.kept (t':=s1.toks) λ b o e=>Heap.get?_push_of_some _ e,turn_ranges _ i (-1) (i + 1).toNat,?_,λ b hb=>?_,q⟩
       ·have e1 : i + ((0 : Nat) : Int) * (-1) = i:=by simp
        have e2 : (((i + 1).toNat : Nat) : Int) - ((0 : Nat) : Int) = Builtin.Range.rangeSize i (-1) (-1):=by rw [z.1]; omega
        show IsRangeIter _ _ (i + ((0 : Nat) : Int) * (-1)) ((((i + 1).toNat : Nat) : Int) - ((0 : Nat) : Int)) (-1)
        rw [e1,e2]
        exact Heap.get?_push_size _ rfl
       ·have e : b = (s1.heap.push { cls:=.type "range",data:=.fields #[.int i t,.int (-1) t',.int (-1) t''] }).objs.size:=by simpa using hb
        subst e
        exact I2.fpOk (Nat.le_refl _) (I2.hok.fresh (Nat.le_refl _))
end
end L2
namespace L2
open PySem PySem.Spec PyProof.Rows
section
variable {X : Cx}
theorem occ_count (l : List Nat) (c : Nat) : ∀ (m k : Nat) (st : Array Nat × Nat),k + m = l.length + 1 -> st.2 <= k -> st.1.size <= k ->
 ((forIn (List.range' k m) st (StrLaws.occBody (tx l) ⟨#[c]⟩ l.length (l.length + 1))).run.fst.size = st.1.size + (l.drop k).count c):=by
 intro m
 induction m with
 | zero =>
   intro k st hk _ _
   rw [List.drop_of_length_le (by omega)]
   rfl
 | succ m ih =>
   intro k st hk h1 h2
   rw [List.range'_succ,List.forIn_cons]
   have hiff:=StrLaws.subAt_one (tx l) c k
   have e1 : (tx l).length = l.length:=tx_len l
   rw [e1] at hiff
   have e2 : (⟨#[c]⟩ : Str).length = 1:=rfl
   by_cases z : l[k]? = some c
   ·have zz : (tx l).cps.toList[k]? = some c:=z
    obtain ⟨a1,a2⟩:=hiff.mpr zz
    have hk' : k < l.length:=(List.getElem?_eq_some_iff.mp z).1
    have eb : StrLaws.occBody (tx l) ⟨#[c]⟩ l.length (l.length + 1) k st = pure (ForInStep.yield (st.fst.push k,k + 1)):=by
     unfold StrLaws.occBody
     rw [if_pos ⟨⟨⟨by omega,h1⟩,a1⟩,a2⟩]; rfl
    rw [eb,pure_bind]
    show (Id.run (forIn (List.range' (k + 1) m) (st.fst.push k,k + 1) (StrLaws.occBody (tx l) ⟨#[c]⟩ l.length (l.length + 1)))).fst.size = _
    rw [ih (k + 1) _ (by omega) (Nat.le_refl _) (by rw [Array.size_push]; omega),Array.size_push]
    have ed : l.drop k = c :: l.drop (k + 1):=by
     rw [List.drop_eq_getElem_cons hk',(List.getElem?_eq_some_iff.mp z).2]
    rw [ed,List.count_cons_self]; omega
   ·have eb : StrLaws.occBody (tx l) ⟨#[c]⟩ l.length (l.length + 1) k st = pure (ForInStep.yield (st.fst,st.snd)):=by
     unfold StrLaws.occBody
     rw [if_neg]
     rintro ⟨⟨_,a1⟩,a2⟩
     exact z (hiff.mp ⟨a1,a2⟩)
    rw [eb,pure_bind]
    show (Id.run (forIn (List.range' (k + 1) m) (st.fst,st.snd) (StrLaws.occBody (tx l) ⟨#[c]⟩ l.length (l.length + 1)))).fst.size = _
    rw [ih (k + 1) _ (by omega) (by show st.2 <= _; omega) (by show st.1.size <= _; omega)]
    by_cases hk' : k < l.length
    ·have ed : l.drop k = l[k] :: l.drop (k + 1):=List.drop_eq_getElem_cons hk'
     rw [ed,List.count_cons_of_ne (λ e=>z (by rw [List.getElem?_eq_getElem hk',e]))]
    ·rw [List.drop_of_length_le (by omega),List.drop_of_length_le (by omega)]
def rCount : V -> List V -> Hp -> VK -> Prop:=λ x vs H Q=>∃ l c,x = vt l /\ vs = [vt [c]] /\ Q (.int ((l.count c : Nat) : Int)) H
theorem mt_count : MtR X "str.count" rCount:=by
 intro pins s σ H x vs v us Q I rx rs h
 obtain ⟨l,c,rfl,rfl,q⟩:=h
 obtain ⟨t,rfl⟩:=rx
 obtain ⟨u,rfl,ru⟩:=vals1 rs
 obtain ⟨t2,rfl⟩:=ru
 have g:=gives_str_count (tx l) (tx [c]) t t2
 have e : (Builtin.Str.occurrences (tx l) (tx [c]) 0 (tx l).length ((tx l).length + 1)).length = l.count c:=by
  rw [StrLaws.occ_eq,tx_len]
  have:=occ_count l c (l.length + 1) 0 (#[],0) (by omega) (Nat.le_refl _) (Nat.le_refl _)
  rw [List.drop_zero] at this
  rw [Array.length_toList]
  rw [show ((#[],0) : Array Nat × Nat).1.size = 0 from rfl,Nat.zero_add] at this
  exact this
 rw [e] at g
 exact call_gives PySem.F.slot_str_count (typeIs_str _ _ _) PySem.F.entry_str_count (PySem.F.args_str_count_2 _ _) g ⟨.int _,H,I.tok _,⟨_,rfl⟩,q⟩
theorem call_isiT : CallR X (.builtin "isinstance") (λ xs H Q=>∃ p vs,xs = [.ref p,.ty "tuple"] /\ SqT X.K H p vs /\ Q (.bl true) H):=by
 intro pins s σ H vs us Q I r h
 obtain ⟨p,xs,rfl,hp,q⟩:=h
 obtain ⟨u,c,rfl,rx,rc⟩:=vals2 r
 cases (show c = Value.type "tuple" from rc)
 cases (show u = Value.ref p from rx)
 obtain ⟨its,rv,pt,_⟩:=I.tuple hp
 obtain ⟨o,h1,h2,_⟩:=pt
 exact PySem.W.kia_one PySem.W.kitx_tuple I.kIn ⟨o,h1,h2⟩ (kit_same X.K _) (λ z=>nomatch z) λ tk=>⟨.bl true,H,I.tok tk,rfl,q⟩
def isiAnyT:=(isiAny (X:=X)).or call_isiT
end
end L2
namespace L2
open PySem PySem.Spec PyProof.Rows
section
variable {X : Cx}
end
end L2
namespace L2
open PySem PySem.Spec PyProof.Rows
theorem keyIs_rel {k : Key} {v : Value} (h : keyIs k v = true) : RelV (kV k) v:=by
 rcases keyIs_shape h with ⟨i,t,rfl,rfl⟩ | ⟨x,t,rfl,rfl⟩
 ·exact ⟨t,rfl⟩
 ·exact ⟨t,rfl⟩
section
variable {X : Cx}
end
end L2
namespace L2
open PySem PySem.Spec PyProof.Rows
end L2
namespace L2
open PySem PySem.Spec PyProof.Rows
section
variable {X : Cx}
end
end L2
namespace L2
open PySem PySem.Spec PyProof.Rows
structure FunD (K : PySem.W.Frag) (x qual : Str) (st : Stmt) (f : Addr) (fd : FuncData) (D : Addr) : Prop where
 ex : ∃ (oc : Value) (od : Option Addr) (kV doc pm : Value) (an : Option Addr) (cdv ct : Value) (osl : Array (Option Value)),
  fd = PySem.W.fnOf x qual (defArgs st) (defBody st) (defScope st) (.ref D) kV doc pm an cdv ct /\ K.lookup f = some ⟨oc,od,.func fd,osl⟩ /\ PySem.W.codeIn K cdv qual = true
 kp : PySem.W.keepIn K (.ref f) = true
section
variable {P : Program} {w : World} {K : PySem.W.Frag} {mg : Str -> Option Value} {base : Heap}
theorem FunD.okx {x qual : Str} {st : Stmt} {f D : Addr} {fd : FuncData} {N ps : List Str} {k : Nat} {sp : Sp} (F : FunD K x qual st f fd D) (S : FnScope N ps (defScope st)) (len : ∀ vs H Q E,sp vs H Q E -> vs.length = ps.length)
 (hbody : ∀ (cdv : Value) (A : Around) (outer : List Env) (s : Shared) (H : Hp) (vs : List V) (Q : VK) (E : XK),Room k (A.deeper (envOfC qual (defScope st) s.heap.objs.size f cdv)) -> sp vs H Q E ->
  ∃ t,PSs (cxOf (CX1 P w) P w K mg base N qual (defScope st) f cdv A outer s H E) (defBody st) t /\ t { nx:=λ _ H'=>Q .non H',rt:=Q } (start N vs) H) : FnOk P w K mg base (CX1 P w) (k + 1) f fd ps sp:=by
 obtain ⟨oc,od,kV,doc,pm,an,cdv,ct,osl,rfl,lk,hcd⟩:=F.ex
 refine fn_of lk hcd S len λ A outer s H vs Q E hr hsp=>?_
 exact hbody cdv A outer s H vs Q E hr hsp
theorem FunD.binds {x qual : Str} {st : Stmt} {f D : Addr} {fd : FuncData} {ps : List Str} {ds : List Value} {oc' : Value} {od' : Option Addr} {items : Array Value} {n : Nat} {sl' : Array (Option Value)} (F : FunD K x qual st f fd D) (ld : K.lookup D = some ⟨oc',od',.seq items n,sl'⟩)
 (h : ∀ (kV doc pm : Value) (an : Option Addr) (cdv ct : Value) (us : List Value),(us ++ ds).length = ps.length -> (∃ k,bindArgs (PySem.W.fnOf x qual (defArgs st) (defBody st) (defScope st) (.ref D) kV doc pm an cdv ct) ⟨us,[]⟩ = seqItems? (.ref D) >>= k /\ k (some items) = pure (ps.zip (us ++ ds))) \/ bindArgs (PySem.W.fnOf x qual (defArgs st) (defBody st) (defScope st) (.ref D) kV doc pm an cdv ct) ⟨us,[]⟩ = pure (ps.zip (us ++ ds))) : Binds K fd ps ds:=by
 obtain ⟨oc,od,kV,doc,pm,an,cdv,ct,osl,rfl,lk,hcd⟩:=F.ex
 intro s us KX hl
 rcases h kV doc pm an cdv ct us hl with ⟨k,h1,h2⟩ | h1
 ·exact BindsTo.of_defaults (T:=D) rfl (KX _ _ ld) rfl h1 h2
 ·exact .of_eq h1
end
section
variable {X : Cx}
end
end L2
namespace L2
open PySem PySem.Spec PyProof.Rows
section
variable {X : Cx} {C : Addr} {x : Str} {body : List Stmt} {b₀ : Stmt} {suite : List Stmt} {np hpos pos : Pos} {tb : Pins -> (Value -> Shared -> Prop) -> XS -> TS} {th : Pins -> Value -> TS} {bmB : List Value} {newId : String}
end
end L2
namespace L2
open PySem PySem.Spec PyProof.Rows
def put (A' H A : Hp) : Hp:=λ b=>match A' b with
 | some o=>some o
 | none=>match A b with
   | some _=>none
   | none=>H b
theorem put_new {A' H A : Hp} {b : Addr} {o : HO} (h : A' b = some o) : put A' H A b = some o:=by unfold put; rw [h]
theorem put_old {A' H A : Hp} {b : Addr} (h : A' b = none) (h2 : A b = none) : put A' H A b = H b:=by unfold put; rw [h,h2]
structure Part (A H : Hp) : Prop where
 sub : Same A H
 tup : ∀ b xs,H b = some (.tup xs) -> A b = some (.tup xs)
 own : ∀ a b o,H b = some (.own a) -> A a = some o -> A b = some (.own a)
 wno : ∀ a b o,H a = some o -> A a = none -> (∀ xs,o ≠ .lst xs) -> H b = some (.own a) -> A b = none
structure Aft (A A' H : Hp) : Prop where
 free : ∀ b o,H b = some o -> A b = none -> A' b = none
 tup : ∀ b xs,A b = some (.tup xs) -> A' b = some (.tup xs)
section
variable {P : Program} {w : World} {K : PySem.W.Frag} {mg : Str -> Option Value} {base : Heap} {A A' H : Hp} {h h' : Heap}
theorem Part.none (p : Part A H) {b : Addr} (e : H b = none) : A b = none:=by
 cases q : A b with
 | none=>rfl
 | some o=>rw [p.sub b o q] at e; cases e
theorem Part.hok (p : Part A H) (x : HOk P w H h) : HOk P w A h:=λ a o e =>
 (x a o (p.sub a o e)).stay (λ _ _ _ q=>q) (λ b q=>p.own a b o q e) p.tup
theorem Aft.sub (x : Aft A A' H) : Same A' (put A' H A):=λ b o e=>put_new e
theorem Aft.rest (x : Aft A A' H) {b : Addr} {o : HO} (e : H b = some o) (n : A b = none) : put A' H A b = some o:=by
 rw [put_old (x.free b o e n) n]; exact e
end
end L2
namespace L2
open PySem PySem.Spec PyProof.Rows
section
variable {X : Cx}
end
end L2
namespace L2
open PySem PySem.Spec PyProof.Rows
def isIns : HO -> Bool
 | .ins ..=>true
 | .frz _ u=>isIns u
 | _=>false
section
variable {P : Program} {w : World} {K : PySem.W.Frag} {mg : Str -> Option Value} {base : Heap} {A A' H H' : Hp} {h h' : Heap}
theorem ObjOk.swap {a : Addr} : ∀ {o : HO},ObjOk P w H h a o -> isIns o = false -> (∀ b xs,H b = some (.tup xs) -> H' b = some (.tup xs)) -> ObjOk P w H' h a o
 | .lst _,x,_,_=>x
 | .tup _,x,_,_=>x
 | .dK _,x,_,_=>x
 | .dT _,x,_,ht=>by
   obtain ⟨z,y,xs,r,ob,es,ep,e,c⟩:=x
   exact ⟨z,y,xs,Paired.mapP r λ p q z=>⟨z.1,ht _ _ z.2.1,z.2.2⟩,ob,es,ep,e,c⟩
 | .set _ _,x,_,_=>x
 | .ins ..,_,h,_=>by cases h
 | .own _,x,_,_=>x
 | .xd _,x,_,_=>x
 | .rng _ _,x,_,_=>x
 | .frz _ u,x,h,ht=>⟨x.1,ObjOk.swap (o:=u) x.2 h ht⟩
 | .tbl _,x,_,_=>x
 | .met _ _,x,_,_=>x
 | .ext _,x,_,_=>x
def noOwn (H : Hp) : Hp:=λ b=>match H b with
 | some (.own _)=>none
 | o=>o
theorem noOwn_tup {b : Addr} {xs : List V} (h : H b = some (.tup xs)) : noOwn H b = some (.tup xs):=by unfold noOwn; rw [h]
theorem noOwn_back {b : Addr} {o : HO} (h : noOwn H b = some o) : H b = some o:=by
 unfold noOwn at h
 cases q : H b with
 | none=>rw [q] at h; cases h
 | some u=>rw [q] at h; cases u <;> first | exact h | cases h
theorem noOwn_own {b x : Addr} (h : noOwn H b = some (.own x)) : False:=by
 have:=noOwn_back h
 unfold noOwn at h
 rw [this] at h; cases h
theorem ObjOk.stay3 {a : Addr} {o : HO} (x : ObjOk P w H h a o) (k : ∀ u,h.get? a = some u -> h'.get? a = some u) (ki : isIns o = true -> ∀ b u,H b = some (.own a) -> h.get? b = some u -> h'.get? b = some u)
 (ho : isIns o = true -> ∀ b,H b = some (.own a) -> H' b = some (.own a)) (ht : ∀ b xs,H b = some (.tup xs) -> H' b = some (.tup xs)) : ObjOk P w H' h' a o:=by
 by_cases z : isIns o = true
 ·exact x.stay (λ b u hb q=>by
   rcases hb with rfl | hb
   ·exact k u q
   ·exact ki z b u hb q) (ho z) ht
 ·have z' : isIns o = false:=by simpa using z
  have x2 : ObjOk P w (noOwn H) h a o:=x.swap z' λ b xs e=>noOwn_tup e
  have x3 : ObjOk P w (noOwn H) h' a o:=x2.stay (λ b u hb q=>by
   rcases hb with rfl | hb
   ·exact k u q
   ·exact (noOwn_own hb).elim) (λ b q=>q) λ b xs q=>q
  exact x3.swap z' λ b xs e=>ht b xs (noOwn_back e)
structure Prt (A H : Hp) : Prop where
 sub : Same A H
 tup : ∀ b xs,H b = some (.tup xs) -> A b = some (.tup xs)
 own : ∀ a b o,isIns o = true -> H b = some (.own a) -> A a = some o -> A b = some (.own a)
 wno : ∀ a b o,isIns o = true -> H a = some o -> A a = none -> H b = some (.own a) -> A b = none
theorem Prt.none (p : Prt A H) {b : Addr} (e : H b = none) : A b = none:=by
 cases q : A b with
 | none=>rfl
 | some o=>rw [p.sub b o q] at e; cases e
theorem Prt.hok (p : Prt A H) (x : HOk P w H h) : HOk P w A h:=λ a o e =>
 (x a o (p.sub a o e)).stay3 (λ _ q=>q) (λ _ _ _ _ q=>q) (λ i b q=>p.own a b o i q e) p.tup
end
section
variable {X : Cx}
variable {e st : Expr} {te tst : TE} {pos p2 : Pos}
end
end L2
namespace L2
open PySem PySem.Spec PyProof.Rows
section
variable {X : Cx} {P : Program} {w : World} {k : Nat} {f C : Addr} {fd : FuncData} {ps : List Str} {sp : Sp} {dvs : List V} {ds : List Value} {Φ : XS} {m : Str} {apos pos : Pos} {o e : Expr} {es : List Expr} {t : TA} {ta : TE}
end
end L2
namespace L2
open PySem PySem.Spec PyProof.Rows
section
variable {X : Cx} {o e f : Expr} {apos cpos : Pos} {td ty tx : TE}
end
end L2
namespace PyProof.Rows
open PySem
def gallop' : Bool -> Keyed -> Array Keyed -> Nat -> Nat -> Nat -> StateT SortSt Sem (Option Nat):=sortPriv% PySem.Builtin.gallop
def mergeLo' : Array Keyed -> Array Keyed -> StateT SortSt Sem (Array Keyed):=sortPriv% PySem.Builtin.mergeLo
def mergeHi' : Array Keyed -> Array Keyed -> StateT SortSt Sem (Array Keyed):=sortPriv% PySem.Builtin.mergeHi
section
variable {prog : Program} {w : World} {A : Around} {E : Value -> Shared -> Prop} {s : Shared}
structure Asks (prog : Program) (w : World) (A : Around) (E : Value -> Shared -> Prop) (s : Shared) (O : KeyOrd) (k : Keyed -> O.α) (P : Keyed -> Prop) : Prop where
 lt : ∀ (x y : Keyed) (st : SortSt) (Q : Option Bool -> SortSt -> Prop),P x -> P y -> kindOf st = oneType' -> Q (some (O.blt (k x) (k y))) st -> wpS (model prog w) A E s (lt' x y) Q st
variable {O : KeyOrd} {k : Keyed -> O.α} {P : Keyed -> Prop}
def bey (O : KeyOrd) (k : Keyed -> O.α) (left : Bool) (key x : Keyed) : Bool:=if left = true then O.blt (k x) (k key) else !(O.blt (k key) (k x))
theorem bey_ok {left : Bool} {key x : Keyed} {arr : Array Keyed} {j : Nat} {st : SortSt} {Q : Option Bool -> SortSt -> Prop} (a : Asks prog w A E s O k P) (hk : kindOf st = oneType') (pk : P key) (hx : arr[j]? = some x) (px : P x) (h : Q (some (bey O k left key x)) st) :
 wpS (model prog w) A E s (elem' arr j >>= λ x=>if left = true then lt' x key else lt' key x >>= λ r=>pure (r.map λ b=>!b)) Q st:=by
 rw [elem'_eq,hx]
 refine wpS_bind (wpS_pure ?_)
 unfold bey at h
 cases left with
 | true=>exact a.lt x key st Q px pk hk h
 | false=>exact wpS_bind (a.lt key x st _ pk px hk (wpS_pure h))
theorem gallop_ok {left : Bool} {key : Keyed} {arr : Array Keyed} {base n hint : Nat} {st : SortSt} {Q : Option Nat -> SortSt -> Prop} (F : Nat -> Bool) (a : Asks prog w A E s O k P) (hk : kindOf st = oneType') (pk : P key) (h0 : hint < n)
 (hF : ∀ i,i < n -> ∃ x,arr[base + i]? = some x /\ P x /\ bey O k left key x = F i) (mono : ∀ i j,i <= j -> j < n -> F j = true -> F i = true)
 (h : ∀ r,r <= n -> (∀ i,i < r -> F i = true) -> (∀ i,r <= i -> i < n -> F i = false) -> Q (some r) st) : wpS (model prog w) A E s (gallop' left key arr base n hint) Q st:=by
 have ask : ∀ (i : Nat) (R : Option Bool -> SortSt -> Prop),i < n -> R (some (F i)) st -> wpS (model prog w) A E s (elem' arr (base + i) >>= λ x=>if left = true then lt' x key else lt' key x >>= λ r=>pure (r.map λ b=>!b)) R st:=λ i R hi hr=>by
  obtain ⟨x,h1,h2,h3⟩:=hF i hi
  exact bey_ok a hk pk h1 h2 (by rw [h3]; exact hr)
 refine wpS_bind (ask hint _ h0 ?_)
 dsimp only
 cases e0 : F hint with
 | true =>
   simp only [if_true]
   refine wpS_bind (wpS_mono (wpS_forRange (I:=λ x c st'=>st' = st /\ ∃ p q,c = (none,p,q) /\ p < q /\ x + 1 <= q /\ hint + p < n /\ F (hint + p) = true)
    (Q:=λ c st'=>st' = st /\ ∃ p q,c = (none,p,q) /\ p < q /\ hint + p < n /\ F (hint + p) = true /\ (n <= hint + q \/ F (hint + q) = false)) ?step ?fin ⟨rfl,0,1,rfl,by omega,by omega,by omega,e0⟩) ?post)
   case fin =>
    rintro c st' ⟨rfl,p,q,rfl,h1,h2,h3,h4⟩
    exact ⟨rfl,p,q,rfl,h1,h3,h4,.inl (by omega)⟩
   case step =>
    rintro x c st' _ hxn ⟨rfl,p,q,rfl,h1,h2,h3,h4⟩
    dsimp only
    by_cases hq : q >= n - hint
    ·rw [if_pos hq]
     exact wpS_pure ⟨rfl,p,q,rfl,h1,h3,h4,.inl (by omega)⟩
    ·rw [if_neg hq]
     refine wpS_bind (ask (hint + q) _ (by omega) ?_)
     dsimp only
     cases e1 : F (hint + q) with
     | true =>
       simp only [Bool.not_true,Bool.false_eq_true,if_false]
       exact wpS_pure ⟨rfl,q,2 * q + 1,rfl,by omega,by omega,by omega,e1⟩
     | false =>
       simp only [Bool.not_false,if_true]
       exact wpS_pure ⟨rfl,p,q,rfl,h1,h3,h4,.inr e1⟩
   case post =>
    rintro c st' ⟨rfl,p,q,rfl,h1,h3,h4,h5⟩
    dsimp only
    refine wpS_bind (wpS_mono (wpS_forRange (I:=λ x c st''=>st'' = st' /\ ∃ lo hi,c = (none,lo,hi) /\ lo <= hi /\ hi <= n /\ hi - lo <= n - x /\ (∀ i,i < lo -> F i = true) /\ ∀ i,hi <= i -> i < n -> F i = false)
     (Q:=λ c st''=>st'' = st' /\ ∃ lo hi,c = (none,lo,hi) /\ hi <= n /\ (∀ i,i < hi -> F i = true) /\ ∀ i,hi <= i -> i < n -> F i = false) ?bstep ?bfin ⟨rfl,hint + p + 1,hint + min q (n - hint),rfl,by omega,by omega,by omega,λ i hi=>mono i (hint + p) (by omega) h3 h4,λ i g1 g2=>by
     rcases h5 with z | z
     ·omega
     ·cases e2 : F i with
      | false=>rfl
      | true=>rw [mono (hint + q) i (by omega) g2 e2] at z; cases z⟩) ?bpost)
    case bfin =>
     rintro c st'' ⟨rfl,lo,hi,rfl,g1,g2,g3,g4,g5⟩
     have : lo = hi:=by omega
     subst this
     exact ⟨rfl,lo,lo,rfl,g2,g4,g5⟩
    case bstep =>
     rintro x c st'' _ hxn ⟨rfl,lo,hi,rfl,g1,g2,g3,g4,g5⟩
     dsimp only
     by_cases hq : lo >= hi
     ·rw [if_pos hq]
      have : lo = hi:=by omega
      subst this
      exact wpS_pure ⟨rfl,lo,lo,rfl,g2,g4,g5⟩
     ·rw [if_neg hq]
      refine wpS_bind (ask (lo + (hi - lo) / 2) _ (by omega) ?_)
      dsimp only
      cases e1 : F (lo + (hi - lo) / 2) with
      | true =>
        simp only [if_true]
        exact wpS_pure ⟨rfl,lo + (hi - lo) / 2 + 1,hi,rfl,by omega,g2,by omega,λ i hi'=>mono i (lo + (hi - lo) / 2) (by omega) (by omega) e1,g5⟩
      | false =>
        simp only [Bool.false_eq_true,if_false]
        refine wpS_pure ⟨rfl,lo,lo + (hi - lo) / 2,rfl,by omega,by omega,by omega,g4,λ i h1 h2=>?_⟩
        cases e2 : F i with
        | false=>rfl
        | true=>rw [mono _ i h1 h2 e2] at e1; cases e1
    case bpost =>
     rintro c st'' ⟨rfl,lo,hi,rfl,g2,g4,g5⟩
     exact wpS_pure (h hi g2 g4 g5)
 | false =>
   simp only [Bool.false_eq_true,if_false]
   refine wpS_bind (wpS_mono (wpS_forRange (I:=λ x c st'=>st' = st /\ ∃ p q,c = (none,p,q) /\ p < q /\ x + 1 <= q /\ p <= hint /\ F (hint - p) = false)
    (Q:=λ c st'=>st' = st /\ ∃ p q,c = (none,p,q) /\ p < q /\ p <= hint /\ F (hint - p) = false /\ (hint + 1 <= q \/ (q <= hint /\ F (hint - q) = true))) ?step ?fin ⟨rfl,0,1,rfl,by omega,by omega,by omega,e0⟩) ?post)
   case fin =>
    rintro c st' ⟨rfl,p,q,rfl,h1,h2,h3,h4⟩
    exact ⟨rfl,p,q,rfl,h1,h3,h4,.inl (by omega)⟩
   case step =>
    rintro x c st' _ hxn ⟨rfl,p,q,rfl,h1,h2,h3,h4⟩
    dsimp only
    by_cases hq : q >= hint + 1
    ·rw [if_pos hq]
     exact wpS_pure ⟨rfl,p,q,rfl,h1,h3,h4,.inl hq⟩
    ·rw [if_neg hq]
     refine wpS_bind (ask (hint - q) _ (by omega) ?_)
     dsimp only
     cases e1 : F (hint - q) with
     | true =>
       simp only [if_true]
       exact wpS_pure ⟨rfl,p,q,rfl,h1,h3,h4,.inr ⟨by omega,e1⟩⟩
     | false =>
       simp only [Bool.false_eq_true,if_false]
       exact wpS_pure ⟨rfl,q,2 * q + 1,rfl,by omega,by omega,by omega,e1⟩
   case post =>
    rintro c st' ⟨rfl,p,q,rfl,h1,h3,h4,h5⟩
    dsimp only
    refine wpS_bind (wpS_mono (wpS_forRange (I:=λ x c st''=>st'' = st' /\ ∃ lo hi,c = (none,lo,hi) /\ lo <= hi /\ hi <= n /\ hi - lo <= n - x /\ (∀ i,i < lo -> F i = true) /\ ∀ i,hi <= i -> i < n -> F i = false)
     (Q:=λ c st''=>st'' = st' /\ ∃ lo hi,c = (none,lo,hi) /\ hi <= n /\ (∀ i,i < hi -> F i = true) /\ ∀ i,hi <= i -> i < n -> F i = false) ?bstep ?bfin ⟨rfl,hint + 1 - min q (hint + 1),hint - p,rfl,by omega,by omega,by omega,λ i hi=>by
     rcases h5 with z | ⟨z1,z2⟩
     ·omega
     ·exact mono i (hint - q) (by omega) (by omega) z2,λ i g1 g2=>by
     cases e2 : F i with
     | false=>rfl
     | true=>rw [mono (hint - p) i (by omega) g2 e2] at h4; cases h4⟩) ?bpost)
    case bfin =>
     rintro c st'' ⟨rfl,lo,hi,rfl,g1,g2,g3,g4,g5⟩
     have : lo = hi:=by omega
     subst this
     exact ⟨rfl,lo,lo,rfl,g2,g4,g5⟩
    case bstep =>
     rintro x c st'' _ hxn ⟨rfl,lo,hi,rfl,g1,g2,g3,g4,g5⟩
     dsimp only
     by_cases hq : lo >= hi
     ·rw [if_pos hq]
      have : lo = hi:=by omega
      subst this
      exact wpS_pure ⟨rfl,lo,lo,rfl,g2,g4,g5⟩
     ·rw [if_neg hq]
      refine wpS_bind (ask (lo + (hi - lo) / 2) _ (by omega) ?_)
      dsimp only
      cases e1 : F (lo + (hi - lo) / 2) with
      | true =>
        simp only [if_true]
        exact wpS_pure ⟨rfl,lo + (hi - lo) / 2 + 1,hi,rfl,by omega,g2,by omega,λ i hi'=>mono i (lo + (hi - lo) / 2) (by omega) (by omega) e1,g5⟩
      | false =>
        simp only [Bool.false_eq_true,if_false]
        refine wpS_pure ⟨rfl,lo,lo + (hi - lo) / 2,rfl,by omega,by omega,by omega,g4,λ i h1 h2=>?_⟩
        cases e2 : F i with
        | false=>rfl
        | true=>rw [mono _ i h1 h2 e2] at e1; cases e1
    case bpost =>
     rintro c st'' ⟨rfl,lo,hi,rfl,g2,g4,g5⟩
     exact wpS_pure (h hi g2 g4 g5)
end
end PyProof.Rows
namespace PyProof.Rows
open PySem
section
variable {prog : Program} {w : World} {A : Around} {E : Value -> Shared -> Prop} {s : Shared}
variable {O : KeyOrd} {k : Keyed -> O.α} {P : Keyed -> Prop}
abbrev Ord (O : KeyOrd) (k : Keyed -> O.α) (l : List Keyed) : Prop:=l.Pairwise λ x y=>O.kle (k x) (k y)
structure Mg (O : KeyOrd) (k : Keyed -> O.α) (T ol ra rb : List Keyed) : Prop where
 perm : (ol ++ (ra ++ rb)).Perm T
 so : Ord O k ol
 sa : Ord O k ra
 sb : Ord O k rb
 le : ∀ x ∈ ol,∀ y ∈ ra ++ rb,O.kle (k x) (k y)
theorem Mg.as {T ol zs ra rb : List Keyed} (h : Mg O k T ol (zs ++ ra) rb) (hz : ∀ z ∈ zs,∀ y ∈ rb,O.kle (k z) (k y)) : Mg O k T (ol ++ zs) ra rb:=by
 have hs:=h.sa
 unfold Ord at hs
 rw [List.pairwise_append] at hs
 refine ⟨?_,?_,hs.2.1,h.sb,λ x hx y hy=>?_⟩
 ·refine List.Perm.trans (List.Perm.of_eq ?_) h.perm
  simp only [List.append_assoc]
 ·unfold Ord
  rw [List.pairwise_append]
  exact ⟨h.so,hs.1,λ x hx y hy=>h.le x hx y (List.mem_append_left _ (List.mem_append_left _ hy))⟩
 ·rcases List.mem_append.mp hx with hx | hx
  ·refine h.le x hx y ?_
   rcases List.mem_append.mp hy with hy | hy
   ·exact List.mem_append_left _ (List.mem_append_right _ hy)
   ·exact List.mem_append_right _ hy
  ·rcases List.mem_append.mp hy with hy | hy
   ·exact hs.2.2 x hx y hy
   ·exact hz x hx y hy
theorem Mg.bs {T ol zs ra rb : List Keyed} (h : Mg O k T ol ra (zs ++ rb)) (hz : ∀ z ∈ zs,∀ y ∈ ra,O.kle (k z) (k y)) : Mg O k T (ol ++ zs) ra rb:=by
 have hs:=h.sb
 unfold Ord at hs
 rw [List.pairwise_append] at hs
 refine ⟨?_,?_,h.sa,hs.2.1,λ x hx y hy=>?_⟩
 ·refine List.Perm.trans ?_ h.perm
  rw [List.append_assoc]
  refine List.Perm.append_left _ ?_
  rw [← List.append_assoc,← List.append_assoc]
  exact List.Perm.append_right _ List.perm_append_comm
 ·unfold Ord
  rw [List.pairwise_append]
  exact ⟨h.so,hs.1,λ x hx y hy=>h.le x hx y (List.mem_append_right _ (List.mem_append_left _ hy))⟩
 ·rcases List.mem_append.mp hx with hx | hx
  ·refine h.le x hx y ?_
   rcases List.mem_append.mp hy with hy | hy
   ·exact List.mem_append_left _ hy
   ·exact List.mem_append_right _ (List.mem_append_right _ hy)
  ·rcases List.mem_append.mp hy with hy | hy
   ·exact hz x hx y hy
   ·exact hs.2.2 x hx y hy
theorem Mg.fin {T ol ra : List Keyed} (h : Mg O k T ol ra []) : (ol ++ ra).Perm T /\ Ord O k (ol ++ ra):=by
 have h1:=h.perm
 rw [List.append_nil] at h1
 refine ⟨h1,?_⟩
 unfold Ord
 rw [List.pairwise_append]
 exact ⟨h.so,h.sa,λ x hx y hy=>h.le x hx y (List.mem_append_left _ hy)⟩
structure Like (st st' : SortSt) : Prop where
 kind : kindOf st' = kindOf st
 arr : arrOf st' = arrOf st
 pend : pendingOf st' = pendingOf st
 fail : failedOf st' = failedOf st
theorem Like.refl (st : SortSt) : Like st st:=⟨rfl,rfl,rfl,rfl⟩
theorem Like.trans {a b c : SortSt} (h : Like a b) (g : Like b c) : Like a c:=⟨g.kind.trans h.kind,g.arr.trans h.arr,g.pend.trans h.pend,g.fail.trans h.fail⟩
def setG' : Nat -> StateT SortSt Sem Unit:=sortPriv% PySem.Builtin.setMinGallop
theorem setG_ok {g : Nat} {st : SortSt} {Q : Unit -> SortSt -> Prop} (h : ∀ st',Like st st' -> Q () st') : wpS (model prog w) A E s (setG' g) Q st:=wpS_modify (h _ ⟨rfl,rfl,rfl,rfl⟩)
theorem elem_ok {arr : Array Keyed} {i : Nat} {x : Keyed} {st : SortSt} {Q : Keyed -> SortSt -> Prop} (hx : arr[i]? = some x) (h : Q x st) : wpS (model prog w) A E s (elem' arr i) Q st:=by
 rw [elem'_eq,hx]
 exact wpS_pure h
theorem drop_at {a : Array Keyed} {i : Nat} (h : i < a.size) : a.toList.drop i = a[i] :: a.toList.drop (i + 1):=by
 rw [List.drop_eq_getElem_cons (by simpa using h)]; simp
theorem get_at {a : Array Keyed} {i : Nat} (h : i < a.size) : a[i]? = some a[i]:=getElem?_pos a i h
def GoodR (O : KeyOrd) (k : Keyed -> O.α) (T : List Keyed) (r : Array Keyed) : Prop:=r.toList.Perm T /\ Ord O k r.toList
structure Lo (O : KeyOrd) (k : Keyed -> O.α) (a b out : Array Keyed) (ia ib : Nat) : Prop where
 ha : ia + 1 < a.size
 hb : ib < b.size
 mg : Mg O k (a.toList ++ b.toList) out.toList (a.toList.drop ia) (b.toList.drop ib)
theorem ext_list (a : Array Keyed) (i j : Nat) : (a.extract i j).toList = (a.toList.drop i).take (j - i):=by
 rw [Array.toList_extract,List.extract_eq_drop_take]
theorem ext_all (a : Array Keyed) (i : Nat) : (a.extract i a.size).toList = a.toList.drop i:=by
 rw [ext_list]
 refine List.take_of_length_le ?_
 rw [List.length_drop,Array.length_toList]; omega
theorem good_done {T : List Keyed} {a b out : Array Keyed} {ia ib : Nat} (h : Mg O k T out.toList (a.toList.drop ia) (b.toList.drop ib)) (hi : ib = b.size) : GoodR O k T (out ++ a.extract ia a.size ++ b.extract ib b.size):=by
 have e : b.toList.drop ib = []:=by rw [hi,← Array.length_toList,List.drop_length]
 rw [e] at h
 unfold GoodR
 rw [Array.toList_append,Array.toList_append,ext_all,ext_all,e,List.append_nil]
 exact h.fin
theorem good_last {T : List Keyed} {a b out : Array Keyed} {ia ib : Nat} (h : Mg O k T out.toList (a.toList.drop ia) (b.toList.drop ib)) (hz : ∀ z ∈ b.toList.drop ib,∀ y ∈ a.toList.drop ia,O.kle (k z) (k y)) : GoodR O k T (out ++ b.extract ib b.size ++ a.extract ia a.size):=by
 have h2 : Mg O k T out.toList (a.toList.drop ia) (b.toList.drop ib ++ []):=by rw [List.append_nil]; exact h
 have h3:=(h2.bs hz).fin
 unfold GoodR
 rw [Array.toList_append,Array.toList_append,ext_all,ext_all]
 exact h3
theorem mem_drop_at {a : Array Keyed} {i : Nat} {y : Keyed} (h : y ∈ a.toList.drop i) : ∃ j,i <= j /\ ∃ hj : j < a.size,a[j] = y:=by
 obtain ⟨j,hj⟩:=List.getElem?_of_mem h
 rw [List.getElem?_drop] at hj
 obtain ⟨h1,h2⟩:=List.getElem?_eq_some_iff.mp hj
 exact ⟨i + j,by omega,by simpa using h1,by simpa using h2⟩
theorem ord_at {a : Array Keyed} (h : Ord O k a.toList) {i j : Nat} (hij : i <= j) (hj : j < a.size) : O.kle (k a[i]) (k a[j]):=by
 rcases Nat.lt_or_ge i j with z | z
 ·have:=List.pairwise_iff_getElem.mp h i j (by simp; omega) (by simpa using hj) z
  simpa using this
 ·have : i = j:=by omega
  subst this
  exact KeyOrd.kle_refl _
theorem Mg.pushB {T : List Keyed} {a b out : Array Keyed} {ia ib : Nat} (mg : Mg O k T out.toList (a.toList.drop ia) (b.toList.drop ib)) (sa : Ord O k a.toList) (hib : ib < b.size) (hle : ∀ hia : ia < a.size,O.kle (k b[ib]) (k a[ia])) : Mg O k T (out.push b[ib]).toList (a.toList.drop ia) (b.toList.drop (ib + 1)):=by
 rw [drop_at hib] at mg
 rw [Array.toList_push]
 refine Mg.bs (zs:=[b[ib]]) mg λ z hz y hy=>?_
 cases List.mem_singleton.mp hz
 obtain ⟨j,hj,hj2,rfl⟩:=mem_drop_at hy
 exact KeyOrd.kle_trans (hle (by omega)) (ord_at sa hj hj2)
theorem Mg.pushA {T : List Keyed} {a b out : Array Keyed} {ia ib : Nat} (mg : Mg O k T out.toList (a.toList.drop ia) (b.toList.drop ib)) (sb : Ord O k b.toList) (hia : ia < a.size) (hle : ∀ hib : ib < b.size,O.kle (k a[ia]) (k b[ib])) : Mg O k T (out.push a[ia]).toList (a.toList.drop (ia + 1)) (b.toList.drop ib):=by
 rw [drop_at hia] at mg
 rw [Array.toList_push]
 refine Mg.as (zs:=[a[ia]]) mg λ z hz y hy=>?_
 cases List.mem_singleton.mp hz
 obtain ⟨j,hj,hj2,rfl⟩:=mem_drop_at hy
 exact KeyOrd.kle_trans (hle (by omega)) (ord_at sb hj hj2)
theorem run_list (a : Array Keyed) (i r : Nat) : a.toList.drop i = (a.toList.drop i).take r ++ a.toList.drop (i + r):=by
 rw [← List.drop_drop,List.take_append_drop]
theorem mem_take_at {a : Array Keyed} {i r : Nat} {y : Keyed} (h : y ∈ (a.toList.drop i).take r) : ∃ j,j < r /\ ∃ hj : i + j < a.size,a[i + j] = y:=by
 obtain ⟨j,hj⟩:=List.getElem?_of_mem h
 rw [List.getElem?_take] at hj
 split at hj
 ·rename_i hjr
  rw [List.getElem?_drop] at hj
  obtain ⟨h1,h2⟩:=List.getElem?_eq_some_iff.mp hj
  exact ⟨j,hjr,by simpa using h1,by simpa using h2⟩
 ·cases hj
theorem Mg.runA {T : List Keyed} {a b out : Array Keyed} {ia ib r : Nat} (mg : Mg O k T out.toList (a.toList.drop ia) (b.toList.drop ib)) (sb : Ord O k b.toList) (hle : ∀ i,i < r -> ∀ (h1 : ia + i < a.size) (h2 : ib < b.size),O.kle (k a[ia + i]) (k b[ib])) : Mg O k T (out ++ a.extract ia (ia + r)).toList (a.toList.drop (ia + r)) (b.toList.drop ib):=by
 rw [run_list a ia r] at mg
 rw [Array.toList_append,ext_list,Nat.add_sub_cancel_left]
 refine mg.as λ z hz y hy=>?_
 obtain ⟨i,hi,h1,rfl⟩:=mem_take_at hz
 obtain ⟨j,hj,hj2,rfl⟩:=mem_drop_at hy
 exact KeyOrd.kle_trans (hle i hi h1 (by omega)) (ord_at sb hj hj2)
theorem Mg.runB {T : List Keyed} {a b out : Array Keyed} {ia ib r : Nat} (mg : Mg O k T out.toList (a.toList.drop ia) (b.toList.drop ib)) (sa : Ord O k a.toList) (hle : ∀ j,j < r -> ∀ (h1 : ib + j < b.size) (h2 : ia < a.size),O.kle (k b[ib + j]) (k a[ia])) : Mg O k T (out ++ b.extract ib (ib + r)).toList (a.toList.drop ia) (b.toList.drop (ib + r)):=by
 rw [run_list b ib r] at mg
 rw [Array.toList_append,ext_list,Nat.add_sub_cancel_left]
 refine mg.bs λ z hz y hy=>?_
 obtain ⟨i,hi,h1,rfl⟩:=mem_take_at hz
 obtain ⟨j,hj,hj2,rfl⟩:=mem_drop_at hy
 exact KeyOrd.kle_trans (hle i hi h1 (by omega)) (ord_at sa hj hj2)
theorem mergeLo_ok {a b : Array Keyed} {st : SortSt} {Q : Array Keyed -> SortSt -> Prop} (asks : Asks prog w A E s O k P) (hk : kindOf st = oneType') (ha : 1 <= a.size) (hb : 1 <= b.size) (pa : ∀ x ∈ a.toList,P x) (pb : ∀ x ∈ b.toList,P x) (sa : Ord O k a.toList) (sb : Ord O k b.toList)
 (h1 : ∀ y ∈ a.toList,O.kle (k b[0]) (k y)) (hl : ∀ z ∈ b.toList,O.klt (k z) (k a[a.size - 1])) (h : ∀ r st',Like st st' -> GoodR O k (a.toList ++ b.toList) r -> Q r st') : wpS (model prog w) A E s (mergeLo' a b) Q st:=by
 have qa : ∀ {i} (hi : i < a.size),P a[i]:=λ hi=>pa _ (by simp)
 have qb : ∀ {i} (hi : i < b.size),P b[i]:=λ hi=>pb _ (by simp)
 have lastA : ∀ {ia ib : Nat},ia + 1 = a.size -> ∀ z ∈ b.toList.drop ib,∀ y ∈ a.toList.drop ia,O.kle (k z) (k y):=λ {ia ib} e z hz y hy=>by
  obtain ⟨j,hj,hj2,rfl⟩:=mem_drop_at hy
  have : j = a.size - 1:=by omega
  subst this
  exact KeyOrd.kle_of_klt (hl z (List.mem_of_mem_drop hz))
 refine wpS_bind (wpS_lift (wpAny_rule ⟨rfl,?_⟩))
 try dsimp only
 refine wpS_bind (elem_ok (get_at (show 0 < b.size by omega)) ?_)
 have m0 : Mg O k (a.toList ++ b.toList) (#[b[0]] : Array Keyed).toList (a.toList.drop 0) (b.toList.drop 1):=by
  have h0 : Mg O k (a.toList ++ b.toList) [] a.toList ([b[0]] ++ b.toList.drop 1):=by
   have e : [b[0]] ++ b.toList.drop 1 = b.toList:=(drop_at (a:=b) (i:=0) (by omega)).symm
   rw [e]
   exact ⟨List.Perm.refl _,List.Pairwise.nil,sa,sb,λ x hx=>nomatch hx⟩
  exact h0.bs λ z hz y hy=>by cases List.mem_singleton.mp hz; exact h1 y hy
 by_cases e1 : b.size = 1
 ·rw [if_pos (by simp [e1])]
  exact wpS_pure (h _ _ (Like.refl _) (good_done m0 e1.symm))
 rw [if_neg (by simp; omega)]
 by_cases e2 : a.size = 1
 ·rw [if_pos (by simp [e2])]
  exact wpS_pure (h _ _ (Like.refl _) (good_last m0 (lastA (ia:=0) e2.symm)))
 rw [if_neg (by simp; omega)]
 refine wpS_bind (wpS_get ?_)
 try dsimp only
 have inst : ∀ {out : Array Keyed} {ia ib : Nat},Lo O k a b out ia ib -> ia + ib < a.size + b.size:=λ h=>by have:=h.ha; have:=h.hb; omega
 refine wpS_bind (wpS_mono (wpS_forRange (I:=λ x c st'=>Like st st' /\ ∃ out ia ib mg,c = (none,out,ia,ib,mg) /\ Lo O k a b out ia ib /\ x + 1 <= ia + ib)
  (Q:=λ c st'=>Like st st' /\ ∃ r out ia ib mg,c = (some r,out,ia,ib,mg) /\ GoodR O k (a.toList ++ b.toList) r) ?step ?fin ⟨Like.refl _,_,0,1,_,rfl,⟨by omega,by omega,m0⟩,by omega⟩) ?post)
 case fin =>
  rintro c st' ⟨_,out,ia,ib,mg,rfl,hL,hx⟩
  have:=inst hL
  omega
 case post =>
  rintro c st' ⟨hst,r,out,ia,ib,mg,rfl,hr⟩
  exact wpS_pure (h r st' hst hr)
 case step =>
  rintro x c st' _ hx ⟨hst,out,ia,ib,mg,rfl,hL,hx2⟩
  try dsimp only
  refine wpS_bind (wpS_mono (wpS_forRange (I:=λ y c st''=>st'' = st' /\ ∃ out2 ia2 ib2 ac bc,c = (none,out2,ia2,ib2,ac,bc) /\ Lo O k a b out2 ia2 ib2 /\ ia + ib + y <= ia2 + ib2)
   (Q:=λ c st''=>st'' = st' /\ ∃ out2 ia2 ib2 ac bc,(c = (none,out2,ia2,ib2,ac,bc) /\ Lo O k a b out2 ia2 ib2 /\ ia + ib <= ia2 + ib2) \/ ∃ r,c = (some r,out2,ia2,ib2,ac,bc) /\ GoodR O k (a.toList ++ b.toList) r) ?istep ?ifin ⟨rfl,out,ia,ib,0,0,rfl,hL,by omega⟩) ?ipost)
  case ifin =>
   rintro c st'' ⟨rfl,out2,ia2,ib2,ac,bc,rfl,hL2,hy⟩
   have:=inst hL2
   omega
  case istep =>
   rintro y c st'' _ hy ⟨rfl,out2,ia2,ib2,ac,bc,rfl,hL2,hy2⟩
   try dsimp only
   have hia:=hL2.ha
   have hib:=hL2.hb
   refine wpS_bind (elem_ok (get_at hib) (wpS_bind (elem_ok (get_at (show ia2 < a.size by omega)) (wpS_bind (asks.lt _ _ _ _ (qb hib) (qa _) (by rw [hst.kind]; exact hk) ?_)))))
   try dsimp only
   cases e : O.blt (k b[ib2]) (k a[ia2]) with
   | true =>
     simp only [if_true]
     refine wpS_bind (elem_ok (get_at hib) ?_)
     have mg':=hL2.mg.pushB sa hib λ _=>KeyOrd.kle_of_klt e
     try dsimp only
     by_cases z : ib2 + 1 = b.size
     ·rw [if_pos (by simp [z])]
      exact wpS_pure ⟨rfl,_,_,_,_,_,.inr ⟨_,rfl,good_done mg' z⟩⟩
     ·rw [if_neg (by simpa using z)]
      by_cases z2 : bc + 1 >= mg
      ·rw [if_pos z2]
       exact wpS_pure ⟨rfl,_,_,_,_,_,.inl ⟨rfl,⟨hia,by omega,mg'⟩,by omega⟩⟩
      ·rw [if_neg z2]
       exact wpS_pure ⟨rfl,_,_,_,_,_,rfl,⟨hia,by omega,mg'⟩,by omega⟩
   | false =>
     simp only [Bool.false_eq_true,if_false]
     refine wpS_bind (elem_ok (get_at (show ia2 < a.size by omega)) ?_)
     have mg':=hL2.mg.pushA sb (show ia2 < a.size by omega) λ _=>e
     try dsimp only
     by_cases z : ia2 + 1 + 1 = a.size
     ·rw [if_pos (by simp [z])]
      exact wpS_pure ⟨rfl,_,_,_,_,_,.inr ⟨_,rfl,good_last mg' (lastA z)⟩⟩
     ·rw [if_neg (by simpa using z)]
      by_cases z2 : ac + 1 >= mg
      ·rw [if_pos z2]
       exact wpS_pure ⟨rfl,_,_,_,_,_,.inl ⟨rfl,⟨by omega,hib,mg'⟩,by omega⟩⟩
      ·rw [if_neg z2]
       exact wpS_pure ⟨rfl,_,_,_,_,_,rfl,⟨by omega,hib,mg'⟩,by omega⟩
  case ipost =>
   rintro c st'' ⟨rfl,out2,ia2,ib2,ac,bc,⟨rfl,hL2,hy⟩ | ⟨r,rfl,hr⟩⟩
   rotate_left
   ·exact wpS_pure ⟨hst,r,_,_,_,_,rfl,hr⟩
   try dsimp only
   refine wpS_bind (wpS_lift (wpAny_rule ⟨rfl,?_⟩))
   try dsimp only
   refine wpS_bind (wpS_mono (wpS_forRange (I:=λ y c s2=>Like st s2 /\ ∃ out3 ia3 ib3 mg3 ac3 bc3,c = (none,out3,ia3,ib3,mg3,ac3,bc3) /\ Lo O k a b out3 ia3 ib3 /\ ia2 + ib2 + y <= ia3 + ib3)
    (Q:=λ c s2=>Like st s2 /\ ∃ out3 ia3 ib3 mg3 ac3 bc3,(c = (none,out3,ia3,ib3,mg3,ac3,bc3) /\ Lo O k a b out3 ia3 ib3 /\ ia2 + ib2 + 1 <= ia3 + ib3) \/ ∃ r,c = (some r,out3,ia3,ib3,mg3,ac3,bc3) /\ GoodR O k (a.toList ++ b.toList) r) ?gstep ?gfin ⟨hst,out2,ia2,ib2,_,_,_,rfl,hL2,by omega⟩) ?gpost)
   case gfin =>
    rintro c s2 ⟨_,out3,ia3,ib3,mg3,ac3,bc3,rfl,hL3,hy3⟩
    have:=inst hL3
    omega
   case gpost =>
    rintro c s2 ⟨hs2,out3,ia3,ib3,mg3,ac3,bc3,⟨rfl,hL3,hy3⟩ | ⟨r,rfl,hr⟩⟩
    rotate_left
    ·exact wpS_pure ⟨hs2,r,_,_,_,_,rfl,hr⟩
    try dsimp only
    refine wpS_bind (wpS_modify ?_)
    exact wpS_pure ⟨hs2.trans ⟨rfl,rfl,rfl,rfl⟩,_,_,_,_,rfl,hL3,by omega⟩
   case gstep =>
    rintro y c s2 _ hy' ⟨hs2,out3,ia3,ib3,mg3,ac3,bc3,rfl,hL3,hy3⟩
    try dsimp only
    have hia:=hL3.ha
    have hib:=hL3.hb
    (by_cases hz : mg3 > 1) <;> (first | rw [if_pos hz] | rw [if_neg hz])
    all_goals
     refine wpS_bind (setG_ok λ s3 l3=>?_)
     have hs3:=hs2.trans l3
     refine wpS_bind (elem_ok (get_at hib) (wpS_bind (gallop_ok (F:=λ i=>if h : ia3 + i < a.size then !(O.blt (k b[ib3]) (k a[ia3 + i])) else false) asks (by rw [hs3.kind]; exact hk) (qb hib) (by omega) (λ i hi=>⟨_,get_at (show ia3 + i < a.size by omega),qa _,by simp only [bey,Bool.false_eq_true,if_false]; rw [dif_pos (by omega)]⟩) (λ i j hij hj e=>?_) λ r hr hlo hhi=>?_)))
     ·rw [dif_pos (by omega)] at e ⊢
      rw [Bool.not_eq_true'] at e ⊢
      exact KeyOrd.kle_trans (ord_at sa (show ia3 + i <= ia3 + j by omega) (by omega)) e
     have A1 : ∀ i,i < r -> ∀ (h1 : ia3 + i < a.size) (h2 : ib3 < b.size),O.kle (k a[ia3 + i]) (k b[ib3]):=λ i hi h1 h2=>by
      have:=hlo i hi
      rw [dif_pos h1,Bool.not_eq_true'] at this
      exact this
     have A2 : ∀ h1 : ia3 + r < a.size,O.klt (k b[ib3]) (k a[ia3 + r]):=λ h1=>by
      have:=hhi r (Nat.le_refl _) (by omega)
      rw [dif_pos h1,Bool.not_eq_false'] at this
      exact this
     have hra : ia3 + r < a.size:=by
      rcases Nat.lt_or_ge (ia3 + r) a.size with z | z
      ·exact z
      ·have h5:=A1 (a.size - 1 - ia3) (by omega) (by omega) hib
       have h6:=hl b[ib3] (by simp)
       simp only [show ia3 + (a.size - 1 - ia3) = a.size - 1 by omega] at h5
       exact absurd h6 (KeyOrd.not_klt_of_kle h5)
     try dsimp only
     by_cases zr : r > 0
     ·rw [if_pos zr]
      have mgA:=hL3.mg.runA sb A1
      by_cases za : ia3 + r + 1 = a.size
      ·rw [if_pos (by simp [za])]
       exact wpS_pure ⟨hs3,_,_,_,_,_,_,.inr ⟨_,rfl,good_last mgA (lastA za)⟩⟩
      rw [if_neg (by simpa using za),if_neg (by simp; omega)]
      refine wpS_bind (elem_ok (get_at hib) ?_)
      have mgB:=mgA.pushB sa hib λ h=>KeyOrd.kle_of_klt (A2 h)
      try dsimp only
      by_cases zb : ib3 + 1 = b.size
      ·rw [if_pos (by simp [zb])]
       exact wpS_pure ⟨hs3,_,_,_,_,_,_,.inr ⟨_,rfl,good_done mgB zb⟩⟩
      rw [if_neg (by simpa using zb)]
      refine wpS_bind (elem_ok (get_at (show (ia3 + r) < a.size by omega)) (wpS_bind (gallop_ok (F:=λ j=>if h : ib3 + 1 + j < b.size then O.blt (k b[ib3 + 1 + j]) (k (a[(ia3 + r)]'(by omega))) else false) asks (by rw [hs3.kind]; exact hk) (qa _) (by omega) (λ j hj=>⟨_,get_at (show ib3 + 1 + j < b.size by omega),qb _,by simp only [bey,if_true]; rw [dif_pos (by omega)]⟩) (λ i j hij hj e=>?_) λ r2 hr2 hlo2 hhi2=>?_)))
      ·rw [dif_pos (by omega)] at e ⊢
       exact KeyOrd.klt_of_kle_of_klt (ord_at sb (show ib3 + 1 + i <= ib3 + 1 + j by omega) (by omega)) e
      have B1 : ∀ j,j < r2 -> ∀ (h1 : ib3 + 1 + j < b.size) (h2 : (ia3 + r) < a.size),O.kle (k b[ib3 + 1 + j]) (k a[(ia3 + r)]):=λ j hj h1 h2=>by
       have:=hlo2 j hj
       rw [dif_pos h1] at this
       exact KeyOrd.kle_of_klt this
      have B2 : ∀ h1 : ib3 + 1 + r2 < b.size,O.kle (k (a[(ia3 + r)]'(by omega))) (k b[ib3 + 1 + r2]):=λ h1=>by
       have:=hhi2 r2 (Nat.le_refl _) (by omega)
       rw [dif_pos h1] at this
       exact this
      try dsimp only
      by_cases zr2 : r2 > 0
      ·rw [if_pos zr2]
       have mgC:=mgB.runB sa B1
       by_cases zc : ib3 + 1 + r2 = b.size
       ·rw [if_pos (by simp [zc])]
        exact wpS_pure ⟨hs3,_,_,_,_,_,_,.inr ⟨_,rfl,good_done mgC zc⟩⟩
       rw [if_neg (by simpa using zc)]
       refine wpS_bind (elem_ok (get_at (show (ia3 + r) < a.size by omega)) ?_)
       have mgD:=mgC.pushA sb (show (ia3 + r) < a.size by omega) B2
       try dsimp only
       by_cases zd : (ia3 + r) + 1 + 1 = a.size
       ·rw [if_pos (by simp [zd])]
        exact wpS_pure ⟨hs3,_,_,_,_,_,_,.inr ⟨_,rfl,good_last mgD (lastA zd)⟩⟩
       rw [if_neg (by simpa using zd)]
       split
       ·exact wpS_pure ⟨hs3,_,_,_,_,_,_,.inl ⟨rfl,⟨by omega,by omega,mgD⟩,by omega⟩⟩
       ·exact wpS_pure ⟨hs3,_,_,_,_,_,_,rfl,⟨by omega,by omega,mgD⟩,by omega⟩
      ·rw [if_neg zr2]
       have e0 : r2 = 0:=by omega
       subst e0
       refine wpS_bind (elem_ok (get_at (show (ia3 + r) < a.size by omega)) ?_)
       have mgD:=mgB.pushA sb (show (ia3 + r) < a.size by omega) B2
       try dsimp only
       by_cases zd : (ia3 + r) + 1 + 1 = a.size
       ·rw [if_pos (by simp [zd])]
        exact wpS_pure ⟨hs3,_,_,_,_,_,_,.inr ⟨_,rfl,good_last mgD (lastA zd)⟩⟩
       rw [if_neg (by simpa using zd)]
       split
       ·exact wpS_pure ⟨hs3,_,_,_,_,_,_,.inl ⟨rfl,⟨by omega,by omega,mgD⟩,by omega⟩⟩
       ·exact wpS_pure ⟨hs3,_,_,_,_,_,_,rfl,⟨by omega,by omega,mgD⟩,by omega⟩
     ·rw [if_neg zr]
      have e0 : r = 0:=by omega
      subst e0
      refine wpS_bind (elem_ok (get_at hib) ?_)
      have mgB:=hL3.mg.pushB sa hib λ h=>KeyOrd.kle_of_klt (A2 h)
      try dsimp only
      by_cases zb : ib3 + 1 = b.size
      ·rw [if_pos (by simp [zb])]
       exact wpS_pure ⟨hs3,_,_,_,_,_,_,.inr ⟨_,rfl,good_done mgB zb⟩⟩
      rw [if_neg (by simpa using zb)]
      refine wpS_bind (elem_ok (get_at (show ia3 < a.size by omega)) (wpS_bind (gallop_ok (F:=λ j=>if h : ib3 + 1 + j < b.size then O.blt (k b[ib3 + 1 + j]) (k (a[ia3]'(by omega))) else false) asks (by rw [hs3.kind]; exact hk) (qa _) (by omega) (λ j hj=>⟨_,get_at (show ib3 + 1 + j < b.size by omega),qb _,by simp only [bey,if_true]; rw [dif_pos (by omega)]⟩) (λ i j hij hj e=>?_) λ r2 hr2 hlo2 hhi2=>?_)))
      ·rw [dif_pos (by omega)] at e ⊢
       exact KeyOrd.klt_of_kle_of_klt (ord_at sb (show ib3 + 1 + i <= ib3 + 1 + j by omega) (by omega)) e
      have B1 : ∀ j,j < r2 -> ∀ (h1 : ib3 + 1 + j < b.size) (h2 : ia3 < a.size),O.kle (k b[ib3 + 1 + j]) (k a[ia3]):=λ j hj h1 h2=>by
       have:=hlo2 j hj
       rw [dif_pos h1] at this
       exact KeyOrd.kle_of_klt this
      have B2 : ∀ h1 : ib3 + 1 + r2 < b.size,O.kle (k (a[ia3]'(by omega))) (k b[ib3 + 1 + r2]):=λ h1=>by
       have:=hhi2 r2 (Nat.le_refl _) (by omega)
       rw [dif_pos h1] at this
       exact this
      try dsimp only
      by_cases zr2 : r2 > 0
      ·rw [if_pos zr2]
       have mgC:=mgB.runB sa B1
       by_cases zc : ib3 + 1 + r2 = b.size
       ·rw [if_pos (by simp [zc])]
        exact wpS_pure ⟨hs3,_,_,_,_,_,_,.inr ⟨_,rfl,good_done mgC zc⟩⟩
       rw [if_neg (by simpa using zc)]
       refine wpS_bind (elem_ok (get_at (show ia3 < a.size by omega)) ?_)
       have mgD:=mgC.pushA sb (show ia3 < a.size by omega) B2
       try dsimp only
       by_cases zd : ia3 + 1 + 1 = a.size
       ·rw [if_pos (by simp [zd])]
        exact wpS_pure ⟨hs3,_,_,_,_,_,_,.inr ⟨_,rfl,good_last mgD (lastA zd)⟩⟩
       rw [if_neg (by simpa using zd)]
       split
       ·exact wpS_pure ⟨hs3,_,_,_,_,_,_,.inl ⟨rfl,⟨by omega,by omega,mgD⟩,by omega⟩⟩
       ·exact wpS_pure ⟨hs3,_,_,_,_,_,_,rfl,⟨by omega,by omega,mgD⟩,by omega⟩
      ·rw [if_neg zr2]
       have e0 : r2 = 0:=by omega
       subst e0
       refine wpS_bind (elem_ok (get_at (show ia3 < a.size by omega)) ?_)
       have mgD:=mgB.pushA sb (show ia3 < a.size by omega) B2
       try dsimp only
       by_cases zd : ia3 + 1 + 1 = a.size
       ·rw [if_pos (by simp [zd])]
        exact wpS_pure ⟨hs3,_,_,_,_,_,_,.inr ⟨_,rfl,good_last mgD (lastA zd)⟩⟩
       rw [if_neg (by simpa using zd)]
       split
       ·exact wpS_pure ⟨hs3,_,_,_,_,_,_,.inl ⟨rfl,⟨by omega,by omega,mgD⟩,by omega⟩⟩
       ·exact wpS_pure ⟨hs3,_,_,_,_,_,_,rfl,⟨by omega,by omega,mgD⟩,by omega⟩
end
end PyProof.Rows
namespace PyProof.Rows
open PySem
section
variable {prog : Program} {w : World} {A : Around} {E : Value -> Shared -> Prop} {s : Shared}
variable {O : KeyOrd} {k : Keyed -> O.α} {P : Keyed -> Prop}
structure Mh (O : KeyOrd) (k : Keyed -> O.α) (T ra rb ol : List Keyed) : Prop where
 perm : ((ra ++ rb) ++ ol).Perm T
 so : Ord O k ol
 sa : Ord O k ra
 sb : Ord O k rb
 le : ∀ x ∈ ra ++ rb,∀ y ∈ ol,O.kle (k x) (k y)
theorem Mh.as {T ol zs ra rb : List Keyed} (h : Mh O k T (ra ++ zs) rb ol) (hz : ∀ z ∈ zs,∀ y ∈ rb,O.kle (k y) (k z)) : Mh O k T ra rb (zs ++ ol):=by
 have hs:=h.sa
 unfold Ord at hs
 rw [List.pairwise_append] at hs
 refine ⟨?_,?_,hs.1,h.sb,λ x hx y hy=>?_⟩
 ·refine List.Perm.trans ?_ h.perm
  rw [← List.append_assoc]
  refine List.Perm.append_right _ ?_
  rw [List.append_assoc,List.append_assoc]
  exact List.Perm.append_left _ List.perm_append_comm
 ·unfold Ord
  rw [List.pairwise_append]
  exact ⟨hs.2.1,h.so,λ x hx y hy=>h.le x (List.mem_append_left _ (List.mem_append_right _ hx)) y hy⟩
 ·rcases List.mem_append.mp hy with hy | hy
  ·rcases List.mem_append.mp hx with hx | hx
   ·exact hs.2.2 x hx y hy
   ·exact hz y hy x hx
  ·refine h.le x ?_ y hy
   rcases List.mem_append.mp hx with hx | hx
   ·exact List.mem_append_left _ (List.mem_append_left _ hx)
   ·exact List.mem_append_right _ hx
theorem Mh.bs {T ol zs ra rb : List Keyed} (h : Mh O k T ra (rb ++ zs) ol) (hz : ∀ z ∈ zs,∀ y ∈ ra,O.kle (k y) (k z)) : Mh O k T ra rb (zs ++ ol):=by
 have hs:=h.sb
 unfold Ord at hs
 rw [List.pairwise_append] at hs
 refine ⟨?_,?_,h.sa,hs.1,λ x hx y hy=>?_⟩
 ·refine List.Perm.trans (List.Perm.of_eq ?_) h.perm
  simp only [List.append_assoc]
 ·unfold Ord
  rw [List.pairwise_append]
  exact ⟨hs.2.1,h.so,λ x hx y hy=>h.le x (List.mem_append_right _ (List.mem_append_right _ hx)) y hy⟩
 ·rcases List.mem_append.mp hy with hy | hy
  ·rcases List.mem_append.mp hx with hx | hx
   ·exact hz y hy x hx
   ·exact hs.2.2 x hx y hy
  ·refine h.le x ?_ y hy
   rcases List.mem_append.mp hx with hx | hx
   ·exact List.mem_append_left _ hx
   ·exact List.mem_append_right _ (List.mem_append_left _ hx)
theorem Mh.fin {T ol rb : List Keyed} (h : Mh O k T [] rb ol) : (rb ++ ol).Perm T /\ Ord O k (rb ++ ol):=by
 refine ⟨h.perm,?_⟩
 unfold Ord
 rw [List.pairwise_append]
 exact ⟨h.sb,h.so,λ x hx y hy=>h.le x (List.mem_append_right _ hx) y hy⟩
theorem ext0 (a : Array Keyed) (n : Nat) : (a.extract 0 n).toList = a.toList.take n:=by rw [ext_list]; rfl
theorem take_at {a : Array Keyed} {i : Nat} (h : i < a.size) : a.toList.take (i + 1) = a.toList.take i ++ [a[i]]:=by
 rw [List.take_add_one]
 have : a.toList[i]? = some a[i]:=by simp [h]
 rw [this]; rfl
theorem mem_take0 {a : Array Keyed} {n : Nat} {y : Keyed} (h : y ∈ a.toList.take n) : ∃ j,j < n /\ ∃ hj : j < a.size,a[j] = y:=by
 obtain ⟨j,h1,h2,h3⟩:=mem_take_at (a:=a) (i:=0) (r:=n) (by simpa using h)
 exact ⟨j,h1,by omega,by simpa using h3⟩
theorem goodh_done {T : List Keyed} {a b out : Array Keyed} {na nb : Nat} (h : Mh O k T (a.toList.take na) (b.toList.take nb) out.toList.reverse) (hi : na = 0) : GoodR O k T (a.extract 0 na ++ b.extract 0 nb ++ out.reverse):=by
 subst hi
 unfold GoodR
 rw [Array.toList_append,Array.toList_append,ext0,ext0,Array.toList_reverse]
 exact h.fin
theorem goodh_first {T : List Keyed} {a b out : Array Keyed} {na nb : Nat} (h : Mh O k T (a.toList.take na) (b.toList.take nb) out.toList.reverse) (hz : ∀ z ∈ a.toList.take na,∀ y ∈ b.toList.take nb,O.kle (k y) (k z)) : GoodR O k T (b.extract 0 nb ++ a.extract 0 na ++ out.reverse):=by
 have h2 : Mh O k T ([] ++ a.toList.take na) (b.toList.take nb) out.toList.reverse:=h
 have h3:=(h2.as hz).fin
 unfold GoodR
 rw [Array.toList_append,Array.toList_append,ext0,ext0,Array.toList_reverse,List.append_assoc]
 exact h3
theorem Mh.pushA {T : List Keyed} {a b out : Array Keyed} {i nb : Nat} (mg : Mh O k T (a.toList.take (i + 1)) (b.toList.take nb) out.toList.reverse) (hi : i < a.size) (hle : ∀ y ∈ b.toList.take nb,O.kle (k y) (k a[i])) : Mh O k T (a.toList.take i) (b.toList.take nb) (out.push a[i]).toList.reverse:=by
 rw [take_at hi] at mg
 rw [Array.toList_push,List.reverse_append]
 refine Mh.as (zs:=[a[i]]) mg λ z hz y hy=>?_
 cases List.mem_singleton.mp hz
 exact hle y hy
theorem Mh.pushB {T : List Keyed} {a b out : Array Keyed} {na j : Nat} (mg : Mh O k T (a.toList.take na) (b.toList.take (j + 1)) out.toList.reverse) (hj : j < b.size) (hle : ∀ y ∈ a.toList.take na,O.kle (k y) (k b[j])) : Mh O k T (a.toList.take na) (b.toList.take j) (out.push b[j]).toList.reverse:=by
 rw [take_at hj] at mg
 rw [Array.toList_push,List.reverse_append]
 refine Mh.bs (zs:=[b[j]]) mg λ z hz y hy=>?_
 cases List.mem_singleton.mp hz
 exact hle y hy
theorem take_run (a : Array Keyed) {i n : Nat} (h : i <= n) : a.toList.take n = a.toList.take i ++ (a.extract i n).toList:=by
 rw [ext_list,show n = i + (n - i) by omega,List.take_add]
 rw [show i + (n - i) - i = n - i by omega]
theorem mem_ext {a : Array Keyed} {i n : Nat} {y : Keyed} (h : y ∈ (a.extract i n).toList) : ∃ j,i <= j /\ j < n /\ ∃ hj : j < a.size,a[j] = y:=by
 rw [ext_list] at h
 obtain ⟨j,h1,h2,h3⟩:=mem_take_at h
 exact ⟨i + j,by omega,by omega,h2,h3⟩
theorem Mh.runA {T : List Keyed} {a b out : Array Keyed} {i na nb : Nat} (mg : Mh O k T (a.toList.take na) (b.toList.take nb) out.toList.reverse) (hi : i <= na) (hle : ∀ j,i <= j -> j < na -> ∀ (h1 : j < a.size),∀ y ∈ b.toList.take nb,O.kle (k y) (k a[j])) : Mh O k T (a.toList.take i) (b.toList.take nb) (out ++ (a.extract i na).reverse).toList.reverse:=by
 rw [take_run a hi] at mg
 rw [Array.toList_append,Array.toList_reverse,List.reverse_append,List.reverse_reverse]
 refine mg.as λ z hz y hy=>?_
 obtain ⟨j,h1,h2,h3,rfl⟩:=mem_ext hz
 exact hle j h1 h2 h3 y hy
theorem Mh.runB {T : List Keyed} {a b out : Array Keyed} {i na nb : Nat} (mg : Mh O k T (a.toList.take na) (b.toList.take nb) out.toList.reverse) (hi : i <= nb) (hle : ∀ j,i <= j -> j < nb -> ∀ (h1 : j < b.size),∀ y ∈ a.toList.take na,O.kle (k y) (k b[j])) : Mh O k T (a.toList.take na) (b.toList.take i) (out ++ (b.extract i nb).reverse).toList.reverse:=by
 rw [take_run b hi] at mg
 rw [Array.toList_append,Array.toList_reverse,List.reverse_append,List.reverse_reverse]
 refine mg.bs λ z hz y hy=>?_
 obtain ⟨j,h1,h2,h3,rfl⟩:=mem_ext hz
 exact hle j h1 h2 h3 y hy
structure Hi (O : KeyOrd) (k : Keyed -> O.α) (a b out : Array Keyed) (na nb : Nat) : Prop where
 ha : 1 <= na
 ha2 : na <= a.size
 hb : 2 <= nb
 hb2 : nb <= b.size
 mg : Mh O k (a.toList ++ b.toList) (a.toList.take na) (b.toList.take nb) out.toList.reverse
theorem mergeHi_ok {a b : Array Keyed} {st : SortSt} {Q : Array Keyed -> SortSt -> Prop} (asks : Asks prog w A E s O k P) (hk : kindOf st = oneType') (ha : 1 <= a.size) (hb : 1 <= b.size) (pa : ∀ x ∈ a.toList,P x) (pb : ∀ x ∈ b.toList,P x) (sa : Ord O k a.toList) (sb : Ord O k b.toList)
 (h1 : ∀ y ∈ a.toList,O.klt (k b[0]) (k y)) (hl : ∀ z ∈ b.toList,O.kle (k z) (k a[a.size - 1])) (h : ∀ r st',Like st st' -> GoodR O k (a.toList ++ b.toList) r -> Q r st') : wpS (model prog w) A E s (mergeHi' a b) Q st:=by
 have qa : ∀ {i} (hi : i < a.size),P a[i]:=λ hi=>pa _ (by simp)
 have qb : ∀ {i} (hi : i < b.size),P b[i]:=λ hi=>pb _ (by simp)
 have firstB : ∀ {na nb : Nat},nb <= 1 -> ∀ z ∈ a.toList.take na,∀ y ∈ b.toList.take nb,O.kle (k y) (k z):=λ {na nb} e z hz y hy=>by
  obtain ⟨j,hj,hj2,rfl⟩:=mem_take0 hy
  have : j = 0:=by omega
  subst this
  exact KeyOrd.kle_of_klt (h1 z (List.mem_of_mem_take hz))
 refine wpS_bind (wpS_lift (wpAny_rule ⟨rfl,?_⟩))
 try dsimp only
 refine wpS_bind (elem_ok (get_at (show a.size - 1 < a.size by omega)) ?_)
 try dsimp only
 have m0 : Mh O k (a.toList ++ b.toList) (a.toList.take (a.size - 1)) (b.toList.take b.size) (#[a[a.size - 1]] : Array Keyed).toList.reverse:=by
  have h0 : Mh O k (a.toList ++ b.toList) (a.toList.take (a.size - 1) ++ [a[a.size - 1]]) (b.toList.take b.size) []:=by
   have e : a.toList.take (a.size - 1) ++ [a[a.size - 1]] = a.toList:=by
    rw [← take_at (show a.size - 1 < a.size by omega),show a.size - 1 + 1 = a.toList.length by simp; omega,List.take_length]
   have e2 : b.toList.take b.size = b.toList:=by rw [← Array.length_toList,List.take_length]
   rw [e,e2]
   exact ⟨by rw [List.append_nil],List.Pairwise.nil,sa,sb,λ x _ y hy=>nomatch hy⟩
  exact h0.as λ z hz y hy=>by cases List.mem_singleton.mp hz; exact hl y (List.mem_of_mem_take hy)
 by_cases e1 : a.size = 1
 ·rw [if_pos (by simp [e1])]
  exact wpS_pure (h _ _ (Like.refl _) (goodh_done m0 (by omega)))
 rw [if_neg (by simp; omega)]
 by_cases e2 : b.size = 1
 ·rw [if_pos (by simp [e2])]
  exact wpS_pure (h _ _ (Like.refl _) (goodh_first m0 (firstB (by omega))))
 rw [if_neg (by simp; omega)]
 refine wpS_bind (wpS_get ?_)
 try dsimp only
 have inst : ∀ {out : Array Keyed} {na nb : Nat},Hi O k a b out na nb -> 3 <= na + nb:=λ h=>by have:=h.ha; have:=h.hb; omega
 refine wpS_bind (wpS_mono (wpS_forRange (I:=λ x c st'=>Like st st' /\ ∃ na nb out mg,c = (none,na,nb,out,mg) /\ Hi O k a b out na nb /\ na + nb + x + 1 <= a.size + b.size)
  (Q:=λ c st'=>Like st st' /\ ∃ r na nb out mg,c = (some r,na,nb,out,mg) /\ GoodR O k (a.toList ++ b.toList) r) ?step ?fin ⟨Like.refl _,a.size - 1,b.size,_,_,rfl,⟨by omega,by omega,by omega,by omega,m0⟩,by omega⟩) ?post)
 case fin =>
  rintro c st' ⟨_,na,nb,out,mg,rfl,hL,hx⟩
  have:=inst hL
  omega
 case post =>
  rintro c st' ⟨hst,r,na,nb,out,mg,rfl,hr⟩
  exact wpS_pure (h r st' hst hr)
 case step =>
  rintro x c st' _ hx ⟨hst,na,nb,out,mg,rfl,hL,hx2⟩
  try dsimp only
  refine wpS_bind (wpS_mono (wpS_forRange (I:=λ y c st''=>st'' = st' /\ ∃ na2 nb2 out2 ac bc,c = (none,na2,nb2,out2,ac,bc) /\ Hi O k a b out2 na2 nb2 /\ na2 + nb2 + y <= na + nb)
   (Q:=λ c st''=>st'' = st' /\ ∃ na2 nb2 out2 ac bc,(c = (none,na2,nb2,out2,ac,bc) /\ Hi O k a b out2 na2 nb2 /\ na2 + nb2 <= na + nb) \/ ∃ r,c = (some r,na2,nb2,out2,ac,bc) /\ GoodR O k (a.toList ++ b.toList) r) ?istep ?ifin ⟨rfl,na,nb,out,0,0,rfl,hL,by omega⟩) ?ipost)
  case ifin =>
   rintro c st'' ⟨rfl,na2,nb2,out2,ac,bc,rfl,hL2,hy⟩
   have:=inst hL2
   omega
  case istep =>
   rintro y c st'' _ hy ⟨rfl,na2,nb2,out2,ac,bc,rfl,hL2,hy2⟩
   try dsimp only
   have hna:=hL2.ha
   have hna2:=hL2.ha2
   have hnb:=hL2.hb
   have hnb2:=hL2.hb2
   obtain ⟨i,rfl⟩ : ∃ i,na2 = i + 1:=⟨na2 - 1,by omega⟩
   obtain ⟨j,rfl⟩ : ∃ j,nb2 = j + 1:=⟨nb2 - 1,by omega⟩
   try simp only [Nat.add_sub_cancel]
   refine wpS_bind (elem_ok (get_at (show j < b.size by omega)) (wpS_bind (elem_ok (get_at (show i < a.size by omega)) (wpS_bind (asks.lt _ _ _ _ (qb _) (qa _) (by rw [hst.kind]; exact hk) ?_)))))
   try dsimp only
   cases e : O.blt (k b[j]) (k a[i]) with
   | true =>
     simp only [if_true]
     refine wpS_bind (elem_ok (get_at (show i < a.size by omega)) ?_)
     have mg':=hL2.mg.pushA (show i < a.size by omega) λ y hy=>(by
      obtain ⟨m,hm,hm2,rfl⟩:=mem_take0 hy
      exact KeyOrd.kle_of_klt (KeyOrd.klt_of_kle_of_klt (ord_at sb (show m <= j by omega) (by omega)) e))
     try dsimp only
     by_cases z : i = 0
     ·rw [if_pos (by simp [z])]
      exact wpS_pure ⟨rfl,_,_,_,_,_,.inr ⟨_,rfl,goodh_done mg' z⟩⟩
     ·rw [if_neg (by simpa using z)]
      by_cases z2 : ac + 1 >= mg
      ·rw [if_pos z2]
       exact wpS_pure ⟨rfl,_,_,_,_,_,.inl ⟨rfl,⟨by omega,by omega,hnb,hnb2,mg'⟩,by omega⟩⟩
      ·rw [if_neg z2]
       exact wpS_pure ⟨rfl,_,_,_,_,_,rfl,⟨by omega,by omega,hnb,hnb2,mg'⟩,by omega⟩
   | false =>
     simp only [Bool.false_eq_true,if_false]
     refine wpS_bind (elem_ok (get_at (show j < b.size by omega)) ?_)
     have mg':=hL2.mg.pushB (show j < b.size by omega) λ y hy=>(by
      obtain ⟨m,hm,hm2,rfl⟩:=mem_take0 hy
      exact KeyOrd.kle_trans (ord_at sa (show m <= i by omega) (by omega)) e)
     try dsimp only
     by_cases z : j = 1
     ·rw [if_pos (by simp [z])]
      exact wpS_pure ⟨rfl,_,_,_,_,_,.inr ⟨_,rfl,goodh_first mg' (firstB (by omega))⟩⟩
     ·rw [if_neg (by simpa using z)]
      by_cases z2 : bc + 1 >= mg
      ·rw [if_pos z2]
       exact wpS_pure ⟨rfl,_,_,_,_,_,.inl ⟨rfl,⟨hna,hna2,by omega,by omega,mg'⟩,by omega⟩⟩
      ·rw [if_neg z2]
       exact wpS_pure ⟨rfl,_,_,_,_,_,rfl,⟨hna,hna2,by omega,by omega,mg'⟩,by omega⟩
  case ipost =>
   rintro c st'' ⟨rfl,na2,nb2,out2,ac,bc,⟨rfl,hL2,hy⟩ | ⟨r,rfl,hr⟩⟩
   rotate_left
   ·exact wpS_pure ⟨hst,r,_,_,_,_,rfl,hr⟩
   try dsimp only
   refine wpS_bind (wpS_lift (wpAny_rule ⟨rfl,?_⟩))
   try dsimp only
   refine wpS_bind (wpS_mono (wpS_forRange (I:=λ y c s2=>Like st s2 /\ ∃ na3 nb3 out3 mg3 ac3 bc3,c = (none,na3,nb3,out3,mg3,ac3,bc3) /\ Hi O k a b out3 na3 nb3 /\ na3 + nb3 + y <= na2 + nb2)
    (Q:=λ c s2=>Like st s2 /\ ∃ na3 nb3 out3 mg3 ac3 bc3,(c = (none,na3,nb3,out3,mg3,ac3,bc3) /\ Hi O k a b out3 na3 nb3 /\ na3 + nb3 + 1 <= na2 + nb2) \/ ∃ r,c = (some r,na3,nb3,out3,mg3,ac3,bc3) /\ GoodR O k (a.toList ++ b.toList) r) ?gstep ?gfin ⟨hst,na2,nb2,out2,_,_,_,rfl,hL2,by omega⟩) ?gpost)
   case gfin =>
    rintro c s2 ⟨_,na3,nb3,out3,mg3,ac3,bc3,rfl,hL3,hy3⟩
    have:=inst hL3
    have:=hL2.ha2
    have:=hL2.hb2
    omega
   case gpost =>
    rintro c s2 ⟨hs2,na3,nb3,out3,mg3,ac3,bc3,⟨rfl,hL3,hy3⟩ | ⟨r,rfl,hr⟩⟩
    rotate_left
    ·exact wpS_pure ⟨hs2,r,_,_,_,_,rfl,hr⟩
    try dsimp only
    refine wpS_bind (wpS_modify ?_)
    exact wpS_pure ⟨hs2.trans ⟨rfl,rfl,rfl,rfl⟩,_,_,_,_,rfl,hL3,by omega⟩
   case gstep =>
    rintro y c s2 _ hy' ⟨hs2,na3,nb3,out3,mg3,ac3,bc3,rfl,hL3,hy3⟩
    try dsimp only
    have hna:=hL3.ha
    have hna2:=hL3.ha2
    have hnb:=hL3.hb
    have hnb2:=hL3.hb2
    obtain ⟨i,rfl⟩ : ∃ i,na3 = i + 1:=⟨na3 - 1,by omega⟩
    obtain ⟨j,rfl⟩ : ∃ j,nb3 = j + 1:=⟨nb3 - 1,by omega⟩
    try simp only [Nat.add_sub_cancel]
    (by_cases hz : mg3 > 1) <;> (first | rw [if_pos hz] | rw [if_neg hz])
    all_goals
     refine wpS_bind (setG_ok λ s3 l3=>?_)
     have hs3:=hs2.trans l3
     refine wpS_bind (elem_ok (get_at (show j < b.size by omega)) (wpS_bind (gallop_ok (F:=λ m=>if h : m < a.size then !(O.blt (k (b[j]'(by omega))) (k a[m])) else false) asks (by rw [hs3.kind]; exact hk) (qb _) (by omega) (λ m hm=>⟨_,get_at (show 0 + m < a.size by omega),qa _,by simp only [bey,Bool.false_eq_true,if_false,Nat.zero_add]; rw [dif_pos (by omega)]⟩) (λ m1 m2 hij hj e=>?_) λ r hr hlo hhi=>?_)))
     ·rw [dif_pos (by omega)] at e ⊢
      rw [Bool.not_eq_true'] at e ⊢
      exact KeyOrd.kle_trans (ord_at sa hij (by omega)) e
     have A1 : ∀ m,m < r -> ∀ h1 : m < a.size,O.kle (k a[m]) (k (b[j]'(by omega))):=λ m hm h1=>by
      have:=hlo m hm
      rw [dif_pos h1,Bool.not_eq_true'] at this
      exact this
     have A2 : ∀ m,r <= m -> m < i + 1 -> ∀ h1 : m < a.size,O.klt (k (b[j]'(by omega))) (k a[m]):=λ m hm hm2 h1=>by
      have:=hhi m hm hm2
      rw [dif_pos h1,Bool.not_eq_false'] at this
      exact this
     try dsimp only
     by_cases zr : i + 1 - r > 0
     ·rw [if_pos zr]
      have mgA:=hL3.mg.runA (show r <= i + 1 by omega) λ m hm1 hm2 hm3 y hy=>(by
       obtain ⟨m',hm',hm2',rfl⟩:=mem_take0 hy
       exact KeyOrd.kle_of_klt (KeyOrd.klt_of_kle_of_klt (ord_at sb (show m' <= j by omega) (by omega)) (A2 m hm1 hm2 hm3)))
      by_cases za : r = 0
      ·rw [if_pos (by simp [za])]
       exact wpS_pure ⟨hs3,_,_,_,_,_,_,.inr ⟨_,rfl,goodh_done mgA za⟩⟩
      rw [if_neg (by simpa using za)]
      refine wpS_bind (elem_ok (get_at (show j < b.size by omega)) ?_)
      have mgB:=mgA.pushB (show j < b.size by omega) λ y hy=>(by
       obtain ⟨m,hm,hm2,rfl⟩:=mem_take0 hy
       exact A1 m (by omega) hm2)
      try dsimp only
      by_cases zb : j = 1
      ·rw [if_pos (by simp [zb])]
       exact wpS_pure ⟨hs3,_,_,_,_,_,_,.inr ⟨_,rfl,goodh_first mgB (firstB (by omega))⟩⟩
      rw [if_neg (by simpa using zb)]
      obtain ⟨p,hp⟩ : ∃ p,r = p + 1:=⟨r - 1,by omega⟩
      rw [hp] at mgB ⊢
      try simp only [Nat.add_sub_cancel]
      refine wpS_bind (elem_ok (get_at (show p < a.size by omega)) (wpS_bind (gallop_ok (F:=λ m=>if h : m < b.size then O.blt (k b[m]) (k (a[p]'(by omega))) else false) asks (by rw [hs3.kind]; exact hk) (qa _) (by omega) (λ m hm=>⟨_,get_at (show 0 + m < b.size by omega),qb _,by simp only [bey,if_true,Nat.zero_add]; rw [dif_pos (by omega)]⟩) (λ m1 m2 hij hj2 e=>?_) λ r2 hr2 hlo2 hhi2=>?_)))
      ·rw [dif_pos (by omega)] at e ⊢
       exact KeyOrd.klt_of_kle_of_klt (ord_at sb hij (by omega)) e
      have C1 : ∀ m,m < r2 -> ∀ h1 : m < b.size,O.klt (k b[m]) (k (a[p]'(by omega))):=λ m hm h1=>by
       have:=hlo2 m hm
       rw [dif_pos h1] at this
       exact this
      have C2 : ∀ m,r2 <= m -> m < j -> ∀ h1 : m < b.size,O.kle (k (a[p]'(by omega))) (k b[m]):=λ m hm hj2 h1=>by
       have:=hhi2 m hm hj2
       rw [dif_pos h1] at this
       exact this
      have hr1 : 1 <= r2:=by
       rcases Nat.lt_or_ge 0 r2 with z | z
       ·exact z
       ·exact absurd (h1 (a[p]'(by omega)) (by simp)) (KeyOrd.not_klt_of_kle (C2 0 (by omega) (by omega) (by omega)))
      try dsimp only
      by_cases zr2 : j - r2 > 0
      ·rw [if_pos zr2]
       have mgC:=mgB.runB (show r2 <= j by omega) λ m hm1 hm2 hm3 y hy=>(by
        obtain ⟨m',hm',hm2',rfl⟩:=mem_take0 hy
        exact KeyOrd.kle_trans (ord_at sa (show m' <= p by omega) (by omega)) (C2 m hm1 hm2 hm3))
       by_cases zc : r2 = 1
       ·rw [if_pos (by simp [zc])]
        exact wpS_pure ⟨hs3,_,_,_,_,_,_,.inr ⟨_,rfl,goodh_first mgC (firstB (by omega))⟩⟩
       rw [if_neg (by simpa using zc),if_neg (by simp; omega)]
       refine wpS_bind (elem_ok (get_at (show p < a.size by omega)) ?_)
       have mgD:=mgC.pushA (show p < a.size by omega) λ y hy=>(by
        obtain ⟨m,hm,hm2,rfl⟩:=mem_take0 hy
        exact KeyOrd.kle_of_klt (C1 m (by omega) hm2))
       try dsimp only
       by_cases zd : p = 0
       ·rw [if_pos (by simp [zd])]
        exact wpS_pure ⟨hs3,_,_,_,_,_,_,.inr ⟨_,rfl,goodh_done mgD zd⟩⟩
       rw [if_neg (by simpa using zd)]
       split
       ·exact wpS_pure ⟨hs3,_,_,_,_,_,_,.inl ⟨rfl,⟨by omega,by omega,by omega,by omega,mgD⟩,by omega⟩⟩
       ·exact wpS_pure ⟨hs3,_,_,_,_,_,_,rfl,⟨by omega,by omega,by omega,by omega,mgD⟩,by omega⟩
      ·rw [if_neg zr2]
       have er : r2 = j:=by omega
       refine wpS_bind (elem_ok (get_at (show p < a.size by omega)) ?_)
       have mgD:=mgB.pushA (show p < a.size by omega) λ y hy=>(by
        obtain ⟨m,hm,hm2,rfl⟩:=mem_take0 hy
        exact KeyOrd.kle_of_klt (C1 m (by omega) hm2))
       try dsimp only
       by_cases zd : p = 0
       ·rw [if_pos (by simp [zd])]
        exact wpS_pure ⟨hs3,_,_,_,_,_,_,.inr ⟨_,rfl,goodh_done mgD zd⟩⟩
       rw [if_neg (by simpa using zd)]
       split
       ·exact wpS_pure ⟨hs3,_,_,_,_,_,_,.inl ⟨rfl,⟨by omega,by omega,by omega,by omega,mgD⟩,by omega⟩⟩
       ·exact wpS_pure ⟨hs3,_,_,_,_,_,_,rfl,⟨by omega,by omega,by omega,by omega,mgD⟩,by omega⟩
     ·rw [if_neg zr]
      have er : r = i + 1:=by omega
      have A1 : ∀ m,m < i + 1 -> ∀ h1 : m < a.size,O.kle (k a[m]) (k (b[j]'(by omega))):=λ m hm h1=>A1 m (by omega) h1
      refine wpS_bind (elem_ok (get_at (show j < b.size by omega)) ?_)
      have mgB:=hL3.mg.pushB (show j < b.size by omega) λ y hy=>(by
       obtain ⟨m,hm,hm2,rfl⟩:=mem_take0 hy
       exact A1 m (by omega) hm2)
      try dsimp only
      by_cases zb : j = 1
      ·rw [if_pos (by simp [zb])]
       exact wpS_pure ⟨hs3,_,_,_,_,_,_,.inr ⟨_,rfl,goodh_first mgB (firstB (by omega))⟩⟩
      rw [if_neg (by simpa using zb)]
      obtain ⟨p,hp⟩ : ∃ p,i = p:=⟨i,rfl⟩
      rw [hp] at mgB ⊢
      try simp only [Nat.add_sub_cancel]
      refine wpS_bind (elem_ok (get_at (show p < a.size by omega)) (wpS_bind (gallop_ok (F:=λ m=>if h : m < b.size then O.blt (k b[m]) (k (a[p]'(by omega))) else false) asks (by rw [hs3.kind]; exact hk) (qa _) (by omega) (λ m hm=>⟨_,get_at (show 0 + m < b.size by omega),qb _,by simp only [bey,if_true,Nat.zero_add]; rw [dif_pos (by omega)]⟩) (λ m1 m2 hij hj2 e=>?_) λ r2 hr2 hlo2 hhi2=>?_)))
      ·rw [dif_pos (by omega)] at e ⊢
       exact KeyOrd.klt_of_kle_of_klt (ord_at sb hij (by omega)) e
      have C1 : ∀ m,m < r2 -> ∀ h1 : m < b.size,O.klt (k b[m]) (k (a[p]'(by omega))):=λ m hm h1=>by
       have:=hlo2 m hm
       rw [dif_pos h1] at this
       exact this
      have C2 : ∀ m,r2 <= m -> m < j -> ∀ h1 : m < b.size,O.kle (k (a[p]'(by omega))) (k b[m]):=λ m hm hj2 h1=>by
       have:=hhi2 m hm hj2
       rw [dif_pos h1] at this
       exact this
      have hr1 : 1 <= r2:=by
       rcases Nat.lt_or_ge 0 r2 with z | z
       ·exact z
       ·exact absurd (h1 (a[p]'(by omega)) (by simp)) (KeyOrd.not_klt_of_kle (C2 0 (by omega) (by omega) (by omega)))
      try dsimp only
      by_cases zr2 : j - r2 > 0
      ·rw [if_pos zr2]
       have mgC:=mgB.runB (show r2 <= j by omega) λ m hm1 hm2 hm3 y hy=>(by
        obtain ⟨m',hm',hm2',rfl⟩:=mem_take0 hy
        exact KeyOrd.kle_trans (ord_at sa (show m' <= p by omega) (by omega)) (C2 m hm1 hm2 hm3))
       by_cases zc : r2 = 1
       ·rw [if_pos (by simp [zc])]
        exact wpS_pure ⟨hs3,_,_,_,_,_,_,.inr ⟨_,rfl,goodh_first mgC (firstB (by omega))⟩⟩
       rw [if_neg (by simpa using zc),if_neg (by simp; omega)]
       refine wpS_bind (elem_ok (get_at (show p < a.size by omega)) ?_)
       have mgD:=mgC.pushA (show p < a.size by omega) λ y hy=>(by
        obtain ⟨m,hm,hm2,rfl⟩:=mem_take0 hy
        exact KeyOrd.kle_of_klt (C1 m (by omega) hm2))
       try dsimp only
       by_cases zd : p = 0
       ·rw [if_pos (by simp [zd])]
        exact wpS_pure ⟨hs3,_,_,_,_,_,_,.inr ⟨_,rfl,goodh_done mgD zd⟩⟩
       rw [if_neg (by simpa using zd)]
       split
       ·exact wpS_pure ⟨hs3,_,_,_,_,_,_,.inl ⟨rfl,⟨by omega,by omega,by omega,by omega,mgD⟩,by omega⟩⟩
       ·exact wpS_pure ⟨hs3,_,_,_,_,_,_,rfl,⟨by omega,by omega,by omega,by omega,mgD⟩,by omega⟩
      ·rw [if_neg zr2]
       have er : r2 = j:=by omega
       refine wpS_bind (elem_ok (get_at (show p < a.size by omega)) ?_)
       have mgD:=mgB.pushA (show p < a.size by omega) λ y hy=>(by
        obtain ⟨m,hm,hm2,rfl⟩:=mem_take0 hy
        exact KeyOrd.kle_of_klt (C1 m (by omega) hm2))
       try dsimp only
       by_cases zd : p = 0
       ·rw [if_pos (by simp [zd])]
        exact wpS_pure ⟨hs3,_,_,_,_,_,_,.inr ⟨_,rfl,goodh_done mgD zd⟩⟩
       rw [if_neg (by simpa using zd)]
       split
       ·exact wpS_pure ⟨hs3,_,_,_,_,_,_,.inl ⟨rfl,⟨by omega,by omega,by omega,by omega,mgD⟩,by omega⟩⟩
       ·exact wpS_pure ⟨hs3,_,_,_,_,_,_,rfl,⟨by omega,by omega,by omega,by omega,mgD⟩,by omega⟩
end
end PyProof.Rows
namespace PyProof.Rows
open PySem
section
variable {prog : Program} {w : World} {A : Around} {E : Value -> Shared -> Prop} {s : Shared}
variable {O : KeyOrd} {k : Keyed -> O.α} {P : Keyed -> Prop}
theorem sets_list : ∀ (ms : List Keyed) (arr : Array Keyed) (o j : Nat),o + j + ms.length <= arr.size -> ((ms.zipIdx j).foldl (λ a (p : Keyed × Nat)=>a.setIfInBounds (o + p.2) p.1) arr).toList = arr.toList.take (o + j) ++ ms ++ arr.toList.drop (o + j + ms.length)
 | [],arr,o,j,h=>by simp
 | m :: ms,arr,o,j,h=>by
   rw [List.zipIdx_cons,List.foldl_cons]
   have h' : o + j + (ms.length + 1) <= arr.size:=h
   rw [sets_list ms (arr.setIfInBounds (o + j) m) o (j + 1) (by rw [Array.size_setIfInBounds]; omega)]
   rw [Array.toList_setIfInBounds]
   have e1 : (arr.toList.set (o + j) m).take (o + (j + 1)) = arr.toList.take (o + j) ++ [m]:=by
    rw [← Nat.add_assoc,List.take_add_one,List.take_set_of_le (Nat.le_refl _)]
    rw [List.getElem?_set_self (by simp; omega)]; rfl
   have e2 : (arr.toList.set (o + j) m).drop (o + (j + 1) + ms.length) = arr.toList.drop (o + j + (m :: ms).length):=by
    rw [List.drop_set_of_lt (by omega)]
    congr 1
    show _ = o + j + (ms.length + 1)
    omega
   rw [e1,e2,List.append_assoc (arr.toList.take (o + j))]; rfl
theorem mergeAt'_eq (i : Nat) : mergeAt' i = (do
 let s ← get
 let (some (sa,na,power),some (sb,nb,_)):=((pendingOf s)[i]?,(pendingOf s)[i + 1]?) | unsupported "internal:list.sort.pending"
 set (setPending s (((pendingOf s).setIfInBounds i (sa,na + nb,power)).eraseIdxIfInBounds (i + 1)))
 let some k ← gallop' false (← elem' (arrOf s) sb) (arrOf s) sa na 0 | return false
 let (sa,na):=(sa + k,na - k)
 if na == 0 then return true
 let some nb ← gallop' true (← elem' (arrOf s) (sa + na - 1)) (arrOf s) sb nb (nb - 1) | return false
 if nb == 0 then return true
 let x:=(arrOf s).extract sa sb
 let y:=(arrOf s).extract sb (sb + nb)
 let merged ← if na <= nb then mergeLo' x y else mergeHi' x y
 modify λ s=>setArr s (merged.toList.zipIdx.foldl (λ a (p,j)=>a.setIfInBounds (sa + j) p) (arrOf s))
 return (failedOf (← get)).isNone):=rfl
theorem mid_at {a : Array Keyed} {pre L post : List Keyed} (e : a.toList = pre ++ (L ++ post)) {i : Nat} (hi : i < L.length) : a[pre.length + i]? = some L[i]:=by
 rw [← Array.getElem?_toList,e,List.getElem?_append_right (by omega),show pre.length + i - pre.length = i by omega,List.getElem?_append_left hi]
 exact List.getElem?_eq_getElem hi
theorem ord_idx {L : List Keyed} (h : Ord O k L) {i j : Nat} (hij : i <= j) (hj : j < L.length) : O.kle (k L[i]) (k L[j]):=by
 rcases Nat.lt_or_ge i j with z | z
 ·exact List.pairwise_iff_getElem.mp h i j (by omega) hj z
 ·have : i = j:=by omega
  subst this
  exact KeyOrd.kle_refl _
theorem ord_split {L : List Keyed} (h : Ord O k L) (r : Nat) : Ord O k (L.take r) /\ Ord O k (L.drop r) /\ ∀ x ∈ L.take r,∀ y ∈ L.drop r,O.kle (k x) (k y):=by
 have h':=h
 unfold Ord at h'
 rw [← List.take_append_drop r L,List.pairwise_append] at h'
 exact h'
theorem parts_ord {L1 L2 M : List Keyed} {r r2 : Nat} (s1 : Ord O k L1) (s2 : Ord O k L2) (n2 : 0 < L2.length) (hp : M.Perm (L1.drop r ++ L2.take r2)) (hs : Ord O k M) (ha : ∀ x ∈ L1.take r,O.kle (k x) (k L2[0])) (hb : ∀ y ∈ L1,∀ z ∈ L2.drop r2,O.kle (k y) (k z)) :
 (L1.take r ++ (M ++ L2.drop r2)).Perm (L1 ++ L2) /\ Ord O k (L1.take r ++ (M ++ L2.drop r2)):=by
 obtain ⟨a1,a2,a3⟩:=ord_split s1 r
 obtain ⟨b1,b2,b3⟩:=ord_split s2 r2
 have h0 : ∀ x ∈ L1.take r,∀ y ∈ L2,O.kle (k x) (k y):=λ x hx y hy=>by
  obtain ⟨j,hj,rfl⟩:=List.getElem_of_mem hy
  exact KeyOrd.kle_trans (ha x hx) (ord_idx s2 (Nat.zero_le j) hj)
 refine ⟨?_,?_⟩
 ·have : (L1.take r ++ (M ++ L2.drop r2)).Perm (L1.take r ++ ((L1.drop r ++ L2.take r2) ++ L2.drop r2)):=List.Perm.append_left _ (List.Perm.append_right _ hp)
  refine this.trans (List.Perm.of_eq ?_)
  rw [List.append_assoc,List.take_append_drop,← List.append_assoc,List.take_append_drop]
 ·unfold Ord
  rw [List.pairwise_append,List.pairwise_append]
  refine ⟨a1,⟨hs,b2,λ x hx y hy=>?_⟩,λ x hx y hy=>?_⟩
  ·rcases List.mem_append.mp (hp.mem_iff.mp hx) with z | z
   ·exact hb x (List.mem_of_mem_drop z) y hy
   ·exact b3 x z y hy
  ·rcases List.mem_append.mp hy with z | z
   ·rcases List.mem_append.mp (hp.mem_iff.mp z) with z | z
    ·exact a3 x hx y z
    ·exact h0 x hx y (List.mem_of_mem_take z)
   ·exact h0 x hx y (List.mem_of_mem_drop z)
theorem wpS_set {σ : Type} {M : Model} {x : σ} {Q : PUnit -> σ -> Prop} {st : σ} (h : Q ⟨⟩ x) : wpS M A E s (set x : StateT σ Sem PUnit) Q st:=by
 unfold wpS; rw [StateT.run_set]; exact wpAny_pure ⟨rfl,h⟩
theorem mergeAt_ok {i : Nat} {st : SortSt} {Q : Bool -> SortSt -> Prop} {pre L1 L2 post : List Keyed} {pw pw2 : Nat} (asks : Asks prog w A E s O k P) (hk : kindOf st = oneType') (hf : failedOf st = none) (pall : ∀ x ∈ (arrOf st).toList,P x)
 (earr : (arrOf st).toList = pre ++ L1 ++ L2 ++ post) (n1 : 1 <= L1.length) (n2 : 1 <= L2.length) (s1 : Ord O k L1) (s2 : Ord O k L2)
 (p1 : (pendingOf st)[i]? = some (pre.length,L1.length,pw)) (p2 : (pendingOf st)[i + 1]? = some (pre.length + L1.length,L2.length,pw2))
 (h : ∀ M st',kindOf st' = oneType' -> failedOf st' = none -> pendingOf st' = ((pendingOf st).setIfInBounds i (pre.length,L1.length + L2.length,pw)).eraseIdxIfInBounds (i + 1) -> (arrOf st').toList = pre ++ M ++ post -> M.Perm (L1 ++ L2) -> Ord O k M -> Q true st') :
 wpS (model prog w) A E s (mergeAt' i) Q st:=by
 rw [mergeAt'_eq]
 refine wpS_bind (wpS_get ?_)
 try dsimp only
 rw [p1,p2]
 try dsimp only
 refine wpS_bind (wpS_set ?_)
 have e1 : (arrOf st).toList = pre ++ (L1 ++ (L2 ++ post)):=by rw [earr]; simp only [List.append_assoc]
 have e2 : (arrOf st).toList = (pre ++ L1) ++ (L2 ++ post):=by rw [earr]; simp only [List.append_assoc]
 have g1 : ∀ {i} (hi : i < L1.length),(arrOf st)[pre.length + i]? = some L1[i]:=λ hi=>mid_at e1 hi
 have g2 : ∀ {i} (hi : i < L2.length),(arrOf st)[pre.length + L1.length + i]? = some L2[i]:=λ hi=>by
  have:=mid_at e2 hi
  rwa [List.length_append] at this
 have P1 : ∀ {i} (hi : i < L1.length),P L1[i]:=λ hi=>pall _ (by rw [earr]; simp)
 have P2 : ∀ {i} (hi : i < L2.length),P L2[i]:=λ hi=>pall _ (by rw [earr]; simp)
 refine wpS_bind (elem_ok (g2 (i:=0) n2) ?_)
 refine wpS_bind (gallop_ok (λ i=>if h : i < L1.length then bey O k false L2[0] L1[i] else false) asks hk (P2 n2) (by omega) (λ i hi=>⟨L1[i],g1 hi,P1 hi,by rw [dif_pos hi]⟩) (λ i j hij hj e=>?_) λ r hr hlo hhi=>?_)
 ·rw [dif_pos hj] at e
  rw [dif_pos (by omega)]
  unfold bey at e ⊢
  simp only [Bool.false_eq_true,if_false,Bool.not_eq_true'] at e ⊢
  exact KeyOrd.kle_trans (ord_idx s1 hij hj) e
 have A1 : ∀ x ∈ L1.take r,O.kle (k x) (k L2[0]):=λ x hx=>by
  obtain ⟨j,hj,rfl⟩:=List.getElem_of_mem hx
  rw [List.length_take] at hj
  have:=hlo j (by omega)
  rw [dif_pos (by omega)] at this
  rw [List.getElem_take]
  unfold bey at this
  simp only [Bool.false_eq_true,if_false,Bool.not_eq_true'] at this
  exact this
 have A2 : ∀ j,r <= j -> ∀ hj : j < L1.length,O.klt (k L2[0]) (k L1[j]):=λ j h1 hj=>by
  have:=hhi j h1 hj
  rw [dif_pos hj] at this
  unfold bey at this
  simp only [Bool.false_eq_true,if_false,Bool.not_eq_false'] at this
  exact this
 try dsimp only
 by_cases z : L1.length - r = 0
 ·rw [if_pos (by simp [z])]
  have hr' : r = L1.length:=by omega
  refine wpS_pure (h (L1 ++ L2) _ hk hf rfl (by show (arrOf st).toList = _; rw [earr]; simp only [List.append_assoc]) (List.Perm.refl _) ?_)
  have:=(parts_ord (r:=r) (r2:=0) (M:=[]) s1 s2 n2 (by rw [hr']; simp) List.Pairwise.nil A1 λ y hy z hz=>?_).2
  ·rw [hr'] at this; simpa using this
  ·rw [List.drop_zero] at hz
   obtain ⟨j,hj,rfl⟩:=List.getElem_of_mem hz
   refine KeyOrd.kle_trans (A1 y (by rw [hr',List.take_length]; exact hy)) (ord_idx s2 (Nat.zero_le j) hj)
 rw [if_neg (by simp; omega)]
 have hla : pre.length + r + (L1.length - r) - 1 = pre.length + (L1.length - 1):=by omega
 rw [hla]
 refine wpS_bind (elem_ok (g1 (i:=L1.length - 1) (by omega)) ?_)
 refine wpS_bind (gallop_ok (λ i=>if h : i < L2.length then bey O k true (L1[L1.length - 1]'(by omega)) L2[i] else false) asks hk (P1 _) (by omega) (λ i hi=>⟨L2[i],g2 hi,P2 hi,by rw [dif_pos hi]⟩) (λ i j hij hj e=>?_) λ r2 hr2 hlo2 hhi2=>?_)
 ·rw [dif_pos hj] at e
  rw [dif_pos (by omega)]
  unfold bey at e ⊢
  simp only [if_true] at e ⊢
  exact KeyOrd.klt_of_kle_of_klt (ord_idx s2 hij hj) e
 have B1 : ∀ j,j < r2 -> ∀ hj : j < L2.length,O.klt (k L2[j]) (k (L1[L1.length - 1]'(by omega))):=λ j h1 hj=>by
  have:=hlo2 j h1
  rw [dif_pos hj] at this
  unfold bey at this
  simp only [if_true] at this
  exact this
 have B2 : ∀ j,r2 <= j -> ∀ hj : j < L2.length,O.kle (k (L1[L1.length - 1]'(by omega))) (k L2[j]):=λ j h1 hj=>by
  have:=hhi2 j h1 hj
  rw [dif_pos hj] at this
  unfold bey at this
  simp only [if_true] at this
  exact this
 try dsimp only
 by_cases z2 : r2 = 0
 ·exfalso
  have:=A2 (L1.length - 1) (by omega) (by omega)
  exact KeyOrd.not_klt_of_kle (B2 0 (by omega) n2) this
 rw [if_neg (by simpa using z2)]
 have xa : ((arrOf st).extract (pre.length + r) (pre.length + L1.length)).toList = L1.drop r:=by
  rw [ext_list,e1,List.drop_append,List.drop_append]
  rw [List.drop_eq_nil_of_le (show pre.length <= pre.length + r by omega),List.nil_append,show pre.length + r - pre.length = r by omega,show pre.length + L1.length - (pre.length + r) = (L1.drop r).length by rw [List.length_drop]; omega]
  exact List.take_left
 have xb : ((arrOf st).extract (pre.length + L1.length) (pre.length + L1.length + r2)).toList = L2.take r2:=by
  rw [ext_list,e2,List.drop_left' (by rw [List.length_append]),show pre.length + L1.length + r2 - (pre.length + L1.length) = r2 by omega,List.take_append_of_le_length (by omega)]
 have hb : ∀ y ∈ L1,∀ z ∈ L2.drop r2,O.kle (k y) (k z):=λ y hy z hz=>by
  obtain ⟨i,hi,rfl⟩:=List.getElem_of_mem hy
  obtain ⟨j,hj,rfl⟩:=List.getElem_of_mem hz
  rw [List.length_drop] at hj
  rw [List.getElem_drop]
  exact KeyOrd.kle_trans (ord_idx s1 (show i <= L1.length - 1 by omega) (by omega)) (B2 _ (by omega) _)
 have fin : ∀ (m : Array Keyed) (st2 : SortSt),Like (setPending st (((pendingOf st).setIfInBounds i (pre.length,L1.length + L2.length,pw)).eraseIdxIfInBounds (i + 1))) st2 -> GoodR O k (L1.drop r ++ L2.take r2) m ->
  Q true (setArr st2 (m.toList.zipIdx.foldl (λ a (p,j)=>a.setIfInBounds (pre.length + r + j) p) (arrOf st2))):=λ m st2 hl hg=>by
  obtain ⟨q1,q2⟩:=parts_ord s1 s2 n2 hg.1 hg.2 A1 hb
  have ml : m.toList.length = (L1.length - r) + r2:=by
   rw [hg.1.length_eq,List.length_append,List.length_drop,List.length_take]; omega
  refine h _ _ (hl.kind.trans hk) (hl.fail.trans hf) hl.pend ?_ q1 q2
  show (m.toList.zipIdx.foldl (λ a (p,j)=>a.setIfInBounds (pre.length + r + j) p) (arrOf st2)).toList = _
  have ea : arrOf st2 = arrOf st:=hl.arr
  have hz : (arrOf st).size = pre.length + L1.length + L2.length + post.length:=by
   rw [← Array.length_toList,earr]; simp only [List.length_append]
  rw [ea]
  refine (sets_list m.toList (arrOf st) (pre.length + r) 0 (by omega)).trans ?_
  rw [ml,e1]
  rw [show pre.length + r + 0 = pre.length + r by omega,List.take_length_add_append,List.take_append_of_le_length (show r <= L1.length by omega)]
  rw [show pre.length + r + (L1.length - r + r2) = pre.length + (L1.length + r2) by omega,List.drop_length_add_append,List.drop_length_add_append,List.drop_append_of_le_length (by omega)]
  simp only [List.append_assoc]
 have kk : ∀ st2,Like (setPending st (((pendingOf st).setIfInBounds i (pre.length,L1.length + L2.length,pw)).eraseIdxIfInBounds (i + 1))) st2 -> failedOf st2 = none:=λ st2 hl=>hl.fail.trans hf
 have pa : ∀ x ∈ ((arrOf st).extract (pre.length + r) (pre.length + L1.length)).toList,P x:=by
  rw [xa]; intro x hx; exact pall x (by rw [earr]; have:=List.mem_of_mem_drop hx; simp [this])
 have pb : ∀ x ∈ ((arrOf st).extract (pre.length + L1.length) (pre.length + L1.length + r2)).toList,P x:=by
  rw [xb]; intro x hx; exact pall x (by rw [earr]; have:=List.mem_of_mem_take hx; simp [this])
 have na : 1 <= ((arrOf st).extract (pre.length + r) (pre.length + L1.length)).size:=by rw [← Array.length_toList,xa,List.length_drop]; omega
 have nb : 1 <= ((arrOf st).extract (pre.length + L1.length) (pre.length + L1.length + r2)).size:=by rw [← Array.length_toList,xb,List.length_take]; omega
 have xl : O.kle (k (L1[L1.length - 1]'(by omega))) (k (((arrOf st).extract (pre.length + r) (pre.length + L1.length))[((arrOf st).extract (pre.length + r) (pre.length + L1.length)).size - 1]'(by omega))):=by
  have e : (((arrOf st).extract (pre.length + r) (pre.length + L1.length))[((arrOf st).extract (pre.length + r) (pre.length + L1.length)).size - 1]'(by omega)) = L1[L1.length - 1]'(by omega):=by
   apply Option.some.inj
   rw [← getElem?_pos,← Array.getElem?_toList,xa,List.getElem?_drop,← Array.length_toList,xa,List.length_drop,show r + (L1.length - r - 1) = L1.length - 1 by omega]
   exact List.getElem?_eq_getElem _
  rw [e]; exact KeyOrd.kle_refl _
 have y0 : (((arrOf st).extract (pre.length + L1.length) (pre.length + L1.length + r2))[0]'(by omega)) = L2[0]:=by
  apply Option.some.inj
  rw [← getElem?_pos,← Array.getElem?_toList,xb,List.getElem?_take_of_lt (by omega)]
  exact List.getElem?_eq_getElem _
 have hy0 : ∀ y ∈ ((arrOf st).extract (pre.length + r) (pre.length + L1.length)).toList,O.klt (k (((arrOf st).extract (pre.length + L1.length) (pre.length + L1.length + r2))[0]'(by omega))) (k y):=by
  rw [xa,y0]
  intro y hy
  obtain ⟨j,hj,rfl⟩:=List.getElem_of_mem hy
  rw [List.length_drop] at hj
  rw [List.getElem_drop]
  exact A2 _ (by omega) _
 have hyl : ∀ z ∈ ((arrOf st).extract (pre.length + L1.length) (pre.length + L1.length + r2)).toList,O.klt (k z) (k (((arrOf st).extract (pre.length + r) (pre.length + L1.length))[((arrOf st).extract (pre.length + r) (pre.length + L1.length)).size - 1]'(by omega))):=by
  intro z hz
  refine KeyOrd.klt_of_klt_of_kle ?_ xl
  rw [xb] at hz
  obtain ⟨j,hj,rfl⟩:=List.getElem_of_mem hz
  rw [List.length_take] at hj
  rw [List.getElem_take]
  exact B1 _ (by omega) _
 have sa' : Ord O k ((arrOf st).extract (pre.length + r) (pre.length + L1.length)).toList:=by rw [xa]; exact (ord_split s1 r).2.1
 have sb' : Ord O k ((arrOf st).extract (pre.length + L1.length) (pre.length + L1.length + r2)).toList:=by rw [xb]; exact (ord_split s2 r2).1
 have tail : ∀ (m : Array Keyed) (st2 : SortSt),Like (setPending st (((pendingOf st).setIfInBounds i (pre.length,L1.length + L2.length,pw)).eraseIdxIfInBounds (i + 1))) st2 -> GoodR O k (((arrOf st).extract (pre.length + r) (pre.length + L1.length)).toList ++ ((arrOf st).extract (pre.length + L1.length) (pre.length + L1.length + r2)).toList) m ->
  wpS (model prog w) A E s (do
   modify λ s=>setArr s (m.toList.zipIdx.foldl (λ a (p,j)=>a.setIfInBounds (pre.length + r + j) p) (arrOf s))
   return (failedOf (← get)).isNone) Q st2:=λ m st2 hl hg=>by
  rw [xa,xb] at hg
  refine wpS_bind (wpS_modify (wpS_bind (wpS_get (wpS_pure ?_))))
  have : (failedOf (setArr st2 (m.toList.zipIdx.foldl (λ a (p,j)=>a.setIfInBounds (pre.length + r + j) p) (arrOf st2)))).isNone = true:=by
   show (failedOf st2).isNone = true
   rw [kk st2 hl]; rfl
  rw [this]
  exact fin m st2 hl hg
 by_cases hle : L1.length - r <= r2
 ·rw [if_pos hle]
  exact wpS_bind (mergeLo_ok asks hk na nb pa pb sa' sb' (λ y hy=>KeyOrd.kle_of_klt (hy0 y hy)) hyl tail)
 ·rw [if_neg hle]
  exact wpS_bind (mergeHi_ok asks hk na nb pa pb sa' sb' hy0 (λ z hz=>KeyOrd.kle_of_klt (hyl z hz)) tail)
end
end PyProof.Rows
namespace PyProof.Rows
open PySem
section
variable {prog : Program} {w : World} {A : Around} {E : Value -> Shared -> Prop} {s : Shared}
variable {O : KeyOrd} {k : Keyed -> O.α} {P : Keyed -> Prop}
def KV (O : KeyOrd) (k : Keyed -> O.α) (a : Array Keyed) (i : Nat) : O.α:=k ((a[i]?).getD (Value.none,Value.none))
theorem KV_congr {a b : Array Keyed} {i j : Nat} (h : a[i]? = b[j]?) : KV O k a i = KV O k b j:=by unfold KV; rw [h]
def Up (O : KeyOrd) (k : Keyed -> O.α) (a : Array Keyed) (lo hi : Nat) : Prop:=∀ i j,lo <= i -> i <= j -> j < hi -> O.kle (KV O k a i) (KV O k a j)
def Dn (O : KeyOrd) (k : Keyed -> O.α) (a : Array Keyed) (lo hi : Nat) : Prop:=∀ i j,lo <= i -> i <= j -> j < hi -> O.kle (KV O k a j) (KV O k a i)
theorem KV_bubble {xs : Array Keyed} {src d : Nat} (hs : src < xs.size) (hd : d <= src) (i : Nat) :
 KV O k (bubble xs src d) i = if i = src - d then KV O k xs src else if src - d < i /\ i <= src then KV O k xs (i - 1) else KV O k xs i:=by
 have e:=getElem?_bubble hs d hd i
 by_cases h1 : i = src - d
 ·rw [if_pos h1] at e ⊢; exact KV_congr e
 ·rw [if_neg h1] at e ⊢
  by_cases h2 : src - d < i /\ i <= src
  ·rw [if_pos h2] at e ⊢; exact KV_congr e
  ·rw [if_neg h2] at e ⊢; exact KV_congr e
theorem KV_mirror {xs : Array Keyed} {i j : Nat} (hj : j <= xs.size) (n : Nat) :
 KV O k (mirror xs i j ((j - i) / 2)) n = if i <= n /\ n < j then KV O k xs (i + j - 1 - n) else KV O k xs n:=by
 have e:=getElem?_mirror_all (i:=i) hj n
 by_cases h1 : i <= n /\ n < j
 ·rw [if_pos h1] at e ⊢; exact KV_congr e
 ·rw [if_neg h1] at e ⊢; exact KV_congr e
theorem KV_mirror_eq {xs : Array Keyed} {i j : Nat} (hj : j <= xs.size) (heq : ∀ n,i <= n -> n < j -> KV O k xs n = KV O k xs (j - 1)) (n : Nat) :
 KV O k (mirror xs i j ((j - i) / 2)) n = KV O k xs n:=by
 rw [KV_mirror hj]
 split
 ·rw [heq _ (by omega) (by omega),heq n (by omega) (by omega)]
 ·rfl
structure Stp (lo : Nat) (st st' : SortSt) : Prop where
 kind : kindOf st' = kindOf st
 pend : pendingOf st' = pendingOf st
 fail : failedOf st' = failedOf st
 perm : (arrOf st').Perm (arrOf st)
 low : ∀ i,i < lo -> (arrOf st')[i]? = (arrOf st)[i]?
theorem Stp.refl (lo : Nat) (st : SortSt) : Stp lo st st:=⟨rfl,rfl,rfl,.refl _,λ _ _=>rfl⟩
theorem Stp.trans {lo : Nat} {a b c : SortSt} (h : Stp lo a b) (g : Stp lo b c) : Stp lo a c:=⟨g.kind.trans h.kind,g.pend.trans h.pend,g.fail.trans h.fail,g.perm.trans h.perm,λ i hi=>(g.low i hi).trans (h.low i hi)⟩
theorem Stp.size {lo : Nat} {a b : SortSt} (h : Stp lo a b) : (arrOf b).size = (arrOf a).size:=h.perm.size_eq
theorem Stp.mirror {lo i j : Nat} {st : SortSt} (hi : lo <= i) (hj : j <= (arrOf st).size) : Stp lo st (setArr st (mirror (arrOf st) i j ((j - i) / 2))) :=
 ⟨rfl,rfl,rfl,mirror_perm _ _ _ _,λ n hn=>(getElem?_mirror_all (i:=i) hj n).trans (if_neg (by omega))⟩
theorem Stp.bubble {lo src d : Nat} {st : SortSt} (hs : src < (arrOf st).size) (hd : lo + d <= src) : Stp lo st (setArr st (bubble (arrOf st) src d)) :=
 ⟨rfl,rfl,rfl,bubble_perm _ _ _,λ n hn=>(getElem?_bubble hs d (by omega) n).trans (by rw [if_neg (by omega),if_neg (by omega)])⟩
structure SB (P : Keyed -> Prop) (st : SortSt) : Prop where
 kind : kindOf st = oneType'
 all : ∀ x ∈ (arrOf st).toList,P x
theorem SB.step {lo : Nat} {st st' : SortSt} (h : SB P st) (g : Stp lo st st') : SB P st':=⟨g.kind.trans h.kind,λ x hx=>h.all x ((Array.perm_iff_toList_perm.mp g.perm).mem_iff.mp hx)⟩
theorem ltV {st : SortSt} {i j : Nat} {Q : Option Bool -> SortSt -> Prop} (asks : Asks prog w A E s O k P) (hb : SB P st) (hi : i < (arrOf st).size) (hj : j < (arrOf st).size) (h : Q (some (O.blt (KV O k (arrOf st) i) (KV O k (arrOf st) j))) st) : wpS (model prog w) A E s (ltAt' i j) Q st:=by
 rw [ltAt'_eq]
 refine wpS_bind (wpS_get ?_)
 try dsimp only
 refine wpS_bind (elem_ok (get_at hi) (wpS_bind (elem_ok (get_at hj) (asks.lt _ _ _ _ (hb.all _ (by simp)) (hb.all _ (by simp)) hb.kind ?_))))
 have e1 : KV O k (arrOf st) i = k (arrOf st)[i]:=by unfold KV; rw [get_at hi]; rfl
 have e2 : KV O k (arrOf st) j = k (arrOf st)[j]:=by unfold KV; rw [get_at hj]; rfl
 rw [← e1,← e2]
 exact h
theorem rev_ok {st : SortSt} {i j : Nat} {Q : Unit -> SortSt -> Prop} (h : Q () (setArr st (mirror (arrOf st) i j ((j - i) / 2)))) : wpS (model prog w) A E s (reverseSlice' i j) Q st:=by
 rw [reverseSlice'_eq]; exact wpS_modify h
theorem Up.one {a : Array Keyed} {lo : Nat} : Up O k a lo (lo + 1):=λ i j h1 h2 h3=>by
 have : i = j:=by omega
 subst this
 exact KeyOrd.kle_refl _
theorem Up.more {a : Array Keyed} {lo n : Nat} (h : Up O k a lo (lo + n)) (hn : 1 <= n) (g : O.kle (KV O k a (lo + n - 1)) (KV O k a (lo + n))) : Up O k a lo (lo + (n + 1)):=λ i j h1 h2 h3=>by
 by_cases hj : j < lo + n
 ·exact h i j h1 h2 hj
 ·have hj' : j = lo + n:=by omega
  subst hj'
  by_cases hi : i = lo + n
  ·subst hi; exact KeyOrd.kle_refl _
  ·exact KeyOrd.kle_trans (h i (lo + n - 1) h1 (by omega) (by omega)) g
theorem Dn.more {a : Array Keyed} {lo n : Nat} (h : Dn O k a lo (lo + n)) (hn : 1 <= n) (g : O.kle (KV O k a (lo + n)) (KV O k a (lo + n - 1))) : Dn O k a lo (lo + (n + 1)):=λ i j h1 h2 h3=>by
 by_cases hj : j < lo + n
 ·exact h i j h1 h2 hj
 ·have hj' : j = lo + n:=by omega
  subst hj'
  by_cases hi : i = lo + n
  ·subst hi; exact KeyOrd.kle_refl _
  ·exact KeyOrd.kle_trans g (h i (lo + n - 1) h1 (by omega) (by omega))
theorem asc_ok {lo a nrem : Nat} {st : SortSt} {Q : Option (Option Nat) × Nat -> SortSt -> Prop} (asks : Asks prog w A E s O k P) (hb : SB P st) (hn : lo + nrem <= (arrOf st).size) (ha : 1 <= a) (han : a <= nrem) (hs : Up O k (arrOf st) lo (lo + a))
 (h : ∀ n,a <= n -> n <= nrem -> Up O k (arrOf st) lo (lo + n) -> (n = nrem \/ O.klt (KV O k (arrOf st) (lo + n)) (KV O k (arrOf st) (lo + n - 1))) -> Q (none,n) st) :
 wpS (model prog w) A E s (forIn [a:nrem] ((none,a) : Option (Option Nat) × Nat) λ _ __s=>do
  let __x ← ltAt' (lo + __s.snd) (lo + __s.snd - 1)
  match __x with
  | some smaller=>if smaller = true then pure (ForInStep.done (none,__s.snd)) else pure (ForInStep.yield (none,__s.snd + 1))
  | _=>pure (ForInStep.done (some none,__s.snd))) Q st:=by
 refine wpS_forRange (I:=λ x c st'=>st' = st /\ c = (none,x) /\ Up O k (arrOf st) lo (lo + x)) ?step ?fin ⟨rfl,rfl,hs⟩
 case fin =>
  rintro c st' ⟨rfl,rfl,hs'⟩
  rw [show max a nrem = nrem by omega] at hs' ⊢
  exact h nrem han (Nat.le_refl _) hs' (.inl rfl)
 case step =>
  rintro x c st' hax hxn ⟨rfl,rfl,hs'⟩
  dsimp only
  refine wpS_bind (ltV asks hb (by omega) (by omega) ?_)
  cases e : O.blt (KV O k (arrOf st') (lo + x)) (KV O k (arrOf st') (lo + x - 1)) with
  | true =>
    simp only [if_true]
    exact wpS_pure (h x hax (by omega) hs' (.inr e))
  | false =>
    simp only [Bool.false_eq_true,if_false]
    exact wpS_pure ⟨rfl,rfl,hs'.more (by omega) e⟩
theorem tail_ok {lo n nrem : Nat} {st : SortSt} {Q : Option Nat -> SortSt -> Prop} (asks : Asks prog w A E s O k P) (hb : SB P st) (hn : lo + nrem <= (arrOf st).size) (h1 : 1 <= n) (hnn : n <= nrem) (hs : Dn O k (arrOf st) lo (lo + n))
 (h : ∀ m st',Stp lo st st' -> 1 <= m -> m <= nrem -> Up O k (arrOf st') lo (lo + m) -> Q (some m) st') :
 wpS (model prog w) A E s (do
  reverseSlice' lo (lo + n)
  let mut n:=n
  for _ in [n:nrem] do
   let some smaller ← ltAt' (lo + n) (lo + n - 1) | return none
   if smaller then break
   n:=n + 1
  return some n) Q st:=by
 refine wpS_bind (rev_ok ?_)
 try dsimp only
 have hst : Stp lo st (setArr st (mirror (arrOf st) lo (lo + n) ((lo + n - lo) / 2))):=Stp.mirror (Nat.le_refl _) (by omega)
 refine wpS_bind (asc_ok asks (hb.step hst) (by rw [hst.size]; exact hn) h1 hnn ?_ λ m hm1 hm2 hsm _=>wpS_pure (h m _ hst (by omega) hm2 hsm))
 intro i j h1 h2 h3
 show O.kle (KV O k (mirror (arrOf st) lo (lo + n) ((lo + n - lo) / 2)) i) (KV O k (mirror (arrOf st) lo (lo + n) ((lo + n - lo) / 2)) j)
 rw [KV_mirror (by omega),KV_mirror (by omega),if_pos (by omega),if_pos (by omega)]
 exact hs _ _ (by omega) (by omega) (by omega)
theorem Dn.congr {a b : Array Keyed} {lo hi : Nat} (h : Dn O k a lo hi) (e : ∀ i,KV O k b i = KV O k a i) : Dn O k b lo hi:=λ i j h1 h2 h3=>by rw [e,e]; exact h i j h1 h2 h3
theorem desc_ok {lo n nrem : Nat} {st : SortSt} {Q : Option Nat -> SortSt -> Prop} (asks : Asks prog w A E s O k P) (hb : SB P st) (hn : lo + nrem <= (arrOf st).size) (hnn : n + 1 <= nrem) (hs : Dn O k (arrOf st) lo (lo + (n + 1)))
 (h : ∀ m st',Stp lo st st' -> 1 <= m -> m <= nrem -> Up O k (arrOf st') lo (lo + m) -> Q (some m) st') :
 wpS (model prog w) A E s (do
  rule "list.sort.descending-run"
  let mut n:=n
  n:=n + 1
  let mut neq:=0
  for _ in [n:nrem] do
   let some smaller ← ltAt' (lo + n) (lo + n - 1) | return none
   if smaller then
    if neq > 0 then reverseSlice' (lo + n - (neq + 1)) (lo + n)
    neq:=0
   else
    let some larger ← ltAt' (lo + n - 1) (lo + n) | return none
    if larger then break
    neq:=neq + 1
   n:=n + 1
  if neq > 0 then reverseSlice' (lo + n - (neq + 1)) (lo + n)
  reverseSlice' lo (lo + n)
  for _ in [n:nrem] do
   let some smaller ← ltAt' (lo + n) (lo + n - 1) | return none
   if smaller then break
   n:=n + 1
  return some n) Q st:=by
 refine wpS_bind (wpS_lift (wpAny_rule ⟨rfl,?_⟩))
 try dsimp only
 refine wpS_bind (wpS_mono (wpS_forRange (I:=λ x c st'=>∃ neq,c = (none,x,neq) /\ Stp lo st st' /\ Dn O k (arrOf st') lo (lo + x) /\ neq + 1 <= x /\
  (∀ i,lo + x - (neq + 1) <= i -> i < lo + x -> KV O k (arrOf st') i = KV O k (arrOf st') (lo + x - 1)))
  (Q:=λ c st'=>∃ x neq,c = (none,x,neq) /\ n + 1 <= x /\ x <= nrem /\ Stp lo st st' /\ Dn O k (arrOf st') lo (lo + x) /\ neq + 1 <= x /\
  (∀ i,lo + x - (neq + 1) <= i -> i < lo + x -> KV O k (arrOf st') i = KV O k (arrOf st') (lo + x - 1))) ?step ?fin ⟨0,rfl,Stp.refl _ _,hs,by omega,λ i h1 h2=>by congr 1; omega⟩) ?post)
 case fin =>
  rintro c st' ⟨neq,rfl,hst,hs',hq,he⟩
  rw [show max (n + 1) nrem = nrem by omega] at hs' hq he ⊢
  exact ⟨nrem,neq,rfl,hnn,Nat.le_refl _,hst,hs',hq,he⟩
 case step =>
  rintro x c st' hax hxn ⟨neq,rfl,hst,hs',hq,he⟩
  try dsimp only
  have hsz:=hst.size
  refine wpS_bind (ltV asks (hb.step hst) (by omega) (by omega) ?_)
  try dsimp only
  cases e : O.blt (KV O k (arrOf st') (lo + x)) (KV O k (arrOf st') (lo + x - 1)) with
  | true =>
    simp only [if_true]
    have s2 : Dn O k (arrOf st') lo (lo + (x + 1)):=hs'.more (by omega) (KeyOrd.kle_of_klt e)
    by_cases hneq : neq > 0
    ·rw [if_pos hneq]
     exact wpS_bind (rev_ok (wpS_pure ⟨0,rfl,hst.trans (Stp.mirror (by omega) (by omega)),s2.congr (KV_mirror_eq (by omega) he),by omega,λ i h1 h2=>by congr 1; omega⟩))
    ·rw [if_neg hneq]
     exact wpS_pure ⟨0,rfl,hst,s2,by omega,λ i h1 h2=>by congr 1; omega⟩
  | false =>
    simp only [Bool.false_eq_true,if_false]
    refine wpS_bind (ltV asks (hb.step hst) (by omega) (by omega) ?_)
    try dsimp only
    cases e2 : O.blt (KV O k (arrOf st') (lo + x - 1)) (KV O k (arrOf st') (lo + x)) with
    | true =>
      simp only [if_true]
      exact wpS_pure ⟨x,neq,rfl,hax,by omega,hst,hs',hq,he⟩
    | false =>
      simp only [Bool.false_eq_true,if_false]
      have heq : KV O k (arrOf st') (lo + x) = KV O k (arrOf st') (lo + x - 1):=O.total _ _ e e2
      refine wpS_pure ⟨neq + 1,rfl,hst,hs'.more (by omega) (by rw [heq]; exact KeyOrd.kle_refl _),by omega,λ i h1 h2=>?_⟩
      rw [show lo + (x + 1) - 1 = lo + x by omega]
      by_cases hi : i = lo + x
      ·subst hi; rfl
      ·rw [heq]; exact he i (by omega) (by omega)
 case post =>
  rintro c st' ⟨m,neq,rfl,hm1,hm2,hst,hs',hq,he⟩
  try dsimp only
  have hsz:=hst.size
  by_cases hneq : neq > 0
  ·rw [if_pos hneq]
   have st2 : Stp lo st' (setArr st' (mirror (arrOf st') (lo + m - (neq + 1)) (lo + m) ((lo + m - (lo + m - (neq + 1))) / 2))):=Stp.mirror (by omega) (by omega)
   refine wpS_bind (rev_ok (tail_ok asks (hb.step (hst.trans st2)) (by rw [(hst.trans st2).size]; exact hn) (by omega) hm2 ?_ λ m2 st3 h3=>h m2 st3 ((hst.trans st2).trans h3)))
   exact hs'.congr (KV_mirror_eq (by omega) he)
  ·rw [if_neg hneq]
   exact tail_ok asks (hb.step hst) (by omega) (by omega) hm2 hs' λ m2 st3 h3=>h m2 st3 (hst.trans h3)
theorem countRun_ok {lo nrem : Nat} {st : SortSt} {Q : Option Nat -> SortSt -> Prop} (asks : Asks prog w A E s O k P) (hb : SB P st) (hn : lo + nrem <= (arrOf st).size) (h1 : 1 <= nrem)
 (h : ∀ m st',Stp lo st st' -> 1 <= m -> m <= nrem -> Up O k (arrOf st') lo (lo + m) -> Q (some m) st') : wpS (model prog w) A E s (countRun' lo nrem) Q st:=by
 rw [countRun'_eq]
 try dsimp only
 refine wpS_bind (asc_ok asks hb hn (Nat.le_refl 1) h1 Up.one λ n hn1 hn2 hsn hor=>?_)
 try dsimp only
 by_cases hnn : n = nrem
 ·rw [if_pos (by simpa using hnn)]
  exact wpS_pure (h n st (Stp.refl _ _) hn1 hn2 hsn)
 rw [if_neg (by simpa using hnn)]
 have hlt:=hor.resolve_left hnn
 by_cases hgt : n > 1
 ·rw [if_pos hgt]
  refine wpS_bind (ltV asks hb (by omega) (by omega) ?_)
  try dsimp only
  cases e : O.blt (KV O k (arrOf st) lo) (KV O k (arrOf st) (lo + n - 1)) with
  | true =>
    simp only [if_true]
    exact wpS_pure (h n st (Stp.refl _ _) hn1 hn2 hsn)
  | false =>
    simp only [Bool.false_eq_true,if_false]
    have hall : ∀ i,lo <= i -> i < lo + n -> KV O k (arrOf st) i = KV O k (arrOf st) (lo + n - 1):=λ i g1 g2=>by
     have a1:=hsn lo i (Nat.le_refl _) g1 g2
     have a2:=hsn i (lo + n - 1) g1 (by omega) (by omega)
     exact KeyOrd.kle_antisymm a2 (KeyOrd.kle_trans e a1)
    have hst : Stp lo st (setArr st (mirror (arrOf st) lo (lo + n) ((lo + n - lo) / 2))):=Stp.mirror (Nat.le_refl _) (by omega)
    have d0 : Dn O k (arrOf st) lo (lo + n):=λ i j g1 g2 g3=>by rw [hall i g1 (by omega),hall j (by omega) g3]; exact KeyOrd.kle_refl _
    refine wpS_bind (rev_ok (desc_ok asks (hb.step hst) (by rw [hst.size]; exact hn) (by omega) ?_ λ m st' h3=>h m st' (hst.trans h3)))
    exact (d0.more hn1 (KeyOrd.kle_of_klt hlt)).congr (KV_mirror_eq (by omega) hall)
 ·rw [if_neg hgt]
  have : n = 1:=by omega
  subst this
  refine desc_ok asks hb hn (by omega) ?_ h
  refine Dn.more (n:=1) (λ i j g1 g2 g3=>?_) (Nat.le_refl _) (KeyOrd.kle_of_klt hlt)
  have : i = j:=by omega
  subst this
  exact KeyOrd.kle_refl _
theorem binarySort_ok {lo n ok : Nat} {st : SortSt} {Q : Bool -> SortSt -> Prop} (asks : Asks prog w A E s O k P) (hb : SB P st) (hn : lo + n <= (arrOf st).size) (h1 : 1 <= ok) (hok : ok <= n) (hs : Up O k (arrOf st) lo (lo + ok))
 (h : ∀ st',Stp lo st st' -> Up O k (arrOf st') lo (lo + n) -> Q true st') : wpS (model prog w) A E s (binarySort' lo n ok) Q st:=by
 rw [binarySort'_eq]
 try dsimp only
 refine wpS_bind (wpS_mono (wpS_forRange (I:=λ m c st'=>c = (none,()) /\ Stp lo st st' /\ Up O k (arrOf st') lo (lo + m))
  (Q:=λ c st'=>c = (none,()) /\ Stp lo st st' /\ Up O k (arrOf st') lo (lo + n)) ?step ?fin ?init) ?post)
 case post =>
  rintro c st' ⟨rfl,hst,hs'⟩
  exact wpS_pure (h st' hst hs')
 case init=>exact ⟨rfl,Stp.refl _ _,by rw [show max ok 1 = ok by omega]; exact hs⟩
 case fin =>
  rintro c st' ⟨hc,hst,hs'⟩
  refine ⟨hc,hst,?_⟩
  rwa [show max (max ok 1) n = n by omega] at hs'
 case step =>
  rintro m c st' hak hkn ⟨rfl,hst,hs'⟩
  have hsz:=hst.size
  try dsimp only
  refine wpS_bind (wpS_mono (wpS_forRange (I:=λ x c st''=>st'' = st' /\ ∃ l r,c = (none,l,r) /\ l <= r /\ r <= m /\ r - l <= m - x /\
   (∀ i,lo <= i -> i < lo + l -> O.kle (KV O k (arrOf st') i) (KV O k (arrOf st') (lo + m))) /\ (∀ i,lo + r <= i -> i < lo + m -> O.klt (KV O k (arrOf st') (lo + m)) (KV O k (arrOf st') i)))
   (Q:=λ c st''=>st'' = st' /\ ∃ l r,c = (none,l,r) /\ l <= m /\
    (∀ i,lo <= i -> i < lo + l -> O.kle (KV O k (arrOf st') i) (KV O k (arrOf st') (lo + m))) /\ (∀ i,lo + l <= i -> i < lo + m -> O.klt (KV O k (arrOf st') (lo + m)) (KV O k (arrOf st') i))) ?istep ?ifin ?iinit) ?ipost)
  case iinit=>exact ⟨rfl,0,m,rfl,by omega,by omega,by omega,λ i hi=>by omega,λ i h1 h2=>by omega⟩
  case ifin =>
   rintro c st'' ⟨rfl,l,r,rfl,hlr,hrk,hm,hlo,hhi⟩
   have : l = r:=by omega
   subst this
   exact ⟨rfl,l,l,rfl,hrk,hlo,hhi⟩
  case istep =>
   rintro x c st'' _ hxk ⟨rfl,l,r,rfl,hlr,hrk,hm,hlo,hhi⟩
   try dsimp only
   by_cases hge : l >= r
   ·rw [if_pos hge]
    have : l = r:=by omega
    subst this
    exact wpS_pure ⟨rfl,l,l,rfl,hrk,hlo,hhi⟩
   ·rw [if_neg hge]
    refine wpS_bind (ltV asks (hb.step hst) (by omega) (by omega) ?_)
    try dsimp only
    cases e : O.blt (KV O k (arrOf st'') (lo + m)) (KV O k (arrOf st'') (lo + (l + r) / 2)) with
    | true =>
      simp only [if_true]
      exact wpS_pure ⟨rfl,l,(l + r) / 2,rfl,by omega,by omega,by omega,hlo,λ i h1 h2=>KeyOrd.klt_of_klt_of_kle e (hs' _ _ (by omega) h1 h2)⟩
    | false =>
      simp only [Bool.false_eq_true,if_false]
      exact wpS_pure ⟨rfl,(l + r) / 2 + 1,r,rfl,by omega,by omega,by omega,λ i h0 h1=>KeyOrd.kle_trans (hs' i (lo + (l + r) / 2) h0 (by omega) (by omega)) e,hhi⟩
  case ipost =>
   rintro c st'' ⟨rfl,l,r,rfl,hlk,hlo,hhi⟩
   try dsimp only
   rw [moveDown'_eq]
   refine wpS_bind (wpS_modify (wpS_pure ⟨rfl,hst.trans (Stp.bubble (by omega) (by omega)),?_⟩))
   intro i j h0 hij hj
   show O.kle (KV O k (bubble (arrOf st'') (lo + m) (lo + m - (lo + l))) i) (KV O k (bubble (arrOf st'') (lo + m) (lo + m - (lo + l))) j)
   rw [KV_bubble (by omega) (by omega),KV_bubble (by omega) (by omega),show lo + m - (lo + m - (lo + l)) = lo + l by omega]
   repeat' split
   all_goals first
    | (exfalso; omega)
    | exact KeyOrd.kle_refl _
    | exact hlo _ (by omega) (by omega)
    | exact KeyOrd.kle_of_klt (hhi _ (by omega) (by omega))
    | exact hs' _ _ (by omega) (by omega) (by omega)
end
end PyProof.Rows
namespace PyProof.Rows
open PySem
section
variable {prog : Program} {w : World} {A : Around} {E : Value -> Shared -> Prop} {s : Shared}
variable {O : KeyOrd} {k : Keyed -> O.α} {P : Keyed -> Prop}
theorem KV_list {a : Array Keyed} {L : List Keyed} {lo n : Nat} (e : (a.toList.drop lo).take n = L) (hn : lo + n <= a.size) {i : Nat} (hi : i < n) : a[lo + i]? = L[i]?:=by
 rw [← e,List.getElem?_take_of_lt hi,List.getElem?_drop,Array.getElem?_toList]
theorem Up.ord {a : Array Keyed} {lo n : Nat} (h : Up O k a lo (lo + n)) (hn : lo + n <= a.size) : Ord O k ((a.toList.drop lo).take n):=by
 refine List.pairwise_iff_getElem.mpr λ i j hi hj hij=>?_
 have hj' : j < n:=by rw [List.length_take] at hj; omega
 have:=h (lo + i) (lo + j) (by omega) (by omega) (by omega)
 unfold KV at this
 rw [KV_list rfl hn (by omega),KV_list rfl hn hj',List.getElem?_eq_getElem hi,List.getElem?_eq_getElem hj] at this
 exact this
theorem Ord.up {a : Array Keyed} {pre M post : List Keyed} (e : a.toList = pre ++ (M ++ post)) (h : Ord O k M) : Up O k a pre.length (pre.length + M.length):=λ i j h1 h2 h3=>by
 obtain ⟨i',rfl⟩ : ∃ i',i = pre.length + i':=⟨i - pre.length,by omega⟩
 obtain ⟨j',rfl⟩ : ∃ j',j = pre.length + j':=⟨j - pre.length,by omega⟩
 unfold KV
 rw [mid_at e (show i' < M.length by omega),mid_at e (show j' < M.length by omega)]
 exact ord_idx h (by omega) _
theorem parts4 (l : List Keyed) (a b c : Nat) : l = l.take a ++ (l.drop a).take b ++ (l.drop (a + b)).take c ++ l.drop (a + b + c):=by
 rw [List.append_assoc,List.append_assoc,← List.drop_drop (i:=c) (j:=a + b),List.take_append_drop,← List.drop_drop (i:=b) (j:=a),List.take_append_drop,List.take_append_drop]
theorem mergeAtR {i : Nat} {st : SortSt} {Q : Bool -> SortSt -> Prop} {ps qs : List (Nat × Nat × Nat)} {s1 n1 w1 n2 w2 : Nat} (asks : Asks prog w A E s O k P) (hb : SB P st) (hf : failedOf st = none)
 (hp : (pendingOf st).toList = ps ++ (s1,n1,w1) :: (s1 + n1,n2,w2) :: qs) (hi : i = ps.length) (l1 : 1 <= n1) (l2 : 1 <= n2) (hz : s1 + n1 + n2 <= (arrOf st).size) (u1 : Up O k (arrOf st) s1 (s1 + n1)) (u2 : Up O k (arrOf st) (s1 + n1) (s1 + n1 + n2))
 (h : ∀ st',SB P st' -> failedOf st' = none -> (pendingOf st').toList = ps ++ (s1,n1 + n2,w1) :: qs -> (arrOf st').Perm (arrOf st) -> Up O k (arrOf st') s1 (s1 + (n1 + n2)) -> (∀ j,j < s1 \/ s1 + n1 + n2 <= j -> (arrOf st')[j]? = (arrOf st)[j]?) -> Q true st') :
 wpS (model prog w) A E s (mergeAt' i) Q st:=by
 have hl : (arrOf st).toList.length = (arrOf st).size:=Array.length_toList
 have ea:=parts4 (arrOf st).toList s1 n1 n2
 have lp : ((arrOf st).toList.take s1).length = s1:=by rw [List.length_take]; omega
 have lL1 : (((arrOf st).toList.drop s1).take n1).length = n1:=by rw [List.length_take,List.length_drop]; omega
 have lL2 : (((arrOf st).toList.drop (s1 + n1)).take n2).length = n2:=by rw [List.length_take,List.length_drop]; omega
 have q1 : (pendingOf st)[i]? = some (s1,n1,w1):=by
  rw [← Array.getElem?_toList,hp,hi,List.getElem?_append_right (Nat.le_refl _),Nat.sub_self]; rfl
 have q2 : (pendingOf st)[i + 1]? = some (s1 + n1,n2,w2):=by
  rw [← Array.getElem?_toList,hp,hi,List.getElem?_append_right (by omega),show ps.length + 1 - ps.length = 1 by omega]; rfl
 refine mergeAt_ok asks hb.kind hf hb.all ea (by omega) (by omega) (u1.ord (by omega)) (u2.ord (by omega)) (pw:=w1) (pw2:=w2) (by rw [lp,lL1]; exact q1) (by rw [lp,lL1,lL2]; exact q2) λ M st' k1 k2 k3 k4 k5 k6=>?_
 have lM : M.length = n1 + n2:=by rw [k5.length_eq,List.length_append,lL1,lL2]
 have k4' : (arrOf st').toList = (arrOf st).toList.take s1 ++ (M ++ (arrOf st).toList.drop (s1 + n1 + n2)):=by rw [k4,List.append_assoc]
 have pm : (arrOf st').toList.Perm (arrOf st).toList:=by
  rw [k4]
  refine List.Perm.trans (List.Perm.append_right _ (List.Perm.append_left _ k5)) (List.Perm.of_eq ?_)
  rw [← List.append_assoc]
  exact ea.symm
 have up:=Ord.up k4' k6
 rw [lp,lM] at up
 refine h st' ⟨k1,λ x hx=>hb.all x (pm.mem_iff.mp hx)⟩ k2 ?_ (Array.perm_iff_toList_perm.mpr pm) up λ j hj=>?_
 ·rw [k3,lp,lL1,lL2,Array.toList_eraseIdxIfInBounds,Array.toList_setIfInBounds,hp,hi]
  rw [List.set_append_right _ _ (Nat.le_refl _),Nat.sub_self,List.eraseIdx_append_of_length_le (by omega),show ps.length + 1 - ps.length = 1 by omega]
  rfl
 ·rw [← Array.getElem?_toList,← Array.getElem?_toList,k4']
  rcases hj with hj | hj
  ·rw [List.getElem?_append_left (by omega),List.getElem?_take_of_lt hj]
  ·rw [List.getElem?_append_right (by omega),lp,List.getElem?_append_right (by omega),lM,List.getElem?_drop]
   congr 1
   omega
def Runs : List (Nat × Nat × Nat) -> Nat -> Nat -> Prop
 | [],a,b=>a = b
 | (s,n,_) :: r,a,b=>s = a /\ 1 <= n /\ Runs r (a + n) b
theorem Runs.le : ∀ {l : List (Nat × Nat × Nat)} {a b : Nat},Runs l a b -> a + l.length <= b
 | [],a,b,h=>by have : a = b:=h; subst this; exact Nat.le_refl _
 | (s,n,w) :: r,a,b,h=>by have:=h.2.2.le; have:=h.2.1; show a + (r.length + 1) <= b; omega
theorem Runs.split : ∀ {l r : List (Nat × Nat × Nat)} {a b : Nat},Runs (l ++ r) a b -> ∃ c,Runs l a c /\ Runs r c b
 | [],r,a,b,h=>⟨a,rfl,h⟩
 | (s,n,w) :: l,r,a,b,h=>by
   obtain ⟨c,h1,h2⟩:=Runs.split h.2.2
   exact ⟨c,⟨h.1,h.2.1,h1⟩,h2⟩
theorem Runs.join : ∀ {l r : List (Nat × Nat × Nat)} {a b c : Nat},Runs l a c -> Runs r c b -> Runs (l ++ r) a b
 | [],r,a,b,c,h,g=>by have : a = c:=h; subst this; exact g
 | (s,n,w) :: l,r,a,b,c,h,g=>⟨h.1,h.2.1,h.2.2.join g⟩
theorem Runs.mem : ∀ {l : List (Nat × Nat × Nat)} {a b : Nat},Runs l a b -> ∀ p ∈ l,a <= p.1 /\ p.1 + p.2.1 <= b
 | (s,n,w) :: r,a,b,h,p,hp=>by
   rcases List.mem_cons.mp hp with rfl | hp
   ·have:=h.2.2.le
    have:=h.1
    exact ⟨by show a <= s; omega,by show s + n <= b; omega⟩
   ·have:=h.2.2.mem p hp
    exact ⟨by omega,this.2⟩
structure RI (O : KeyOrd) (k : Keyed -> O.α) (P : Keyed -> Prop) (a₀ : Array Keyed) (lo : Nat) (st : SortSt) : Prop where
 sb : SB P st
 fail : failedOf st = none
 perm : (arrOf st).Perm a₀
 runs : Runs (pendingOf st).toList 0 lo
 up : ∀ p ∈ (pendingOf st).toList,Up O k (arrOf st) p.1 (p.1 + p.2.1)
theorem Up.congr {a b : Array Keyed} {lo hi : Nat} (h : Up O k a lo hi) (e : ∀ i,lo <= i -> i < hi -> b[i]? = a[i]?) : Up O k b lo hi:=λ i j h1 h2 h3=>by
 rw [KV_congr (e i h1 (by omega)),KV_congr (e j (by omega) h3)]
 exact h i j h1 h2 h3
theorem RI.step {a₀ : Array Keyed} {lo : Nat} {st st' : SortSt} (h : RI O k P a₀ lo st) (g : Stp lo st st') : RI O k P a₀ lo st' :=
 ⟨h.sb.step g,g.fail.trans h.fail,g.perm.trans h.perm,by rw [g.pend]; exact h.runs,λ p hp=>by
  rw [g.pend] at hp
  have:=h.runs.mem p hp
  exact (h.up p hp).congr λ i _ h2=>g.low i (by omega)⟩
theorem two_of (l : List (Nat × Nat × Nat)) {i : Nat} (h : i + 2 <= l.length) : ∃ x y,l = l.take i ++ x :: y :: l.drop (i + 2):=by
 refine ⟨l[i],l[i + 1],?_⟩
 have e1 : l.drop i = l[i] :: l.drop (i + 1):=List.drop_eq_getElem_cons (by omega)
 have e2 : l.drop (i + 1) = l[i + 1] :: l.drop (i + 2):=List.drop_eq_getElem_cons (by omega)
 rw [← e2,← e1,List.take_append_drop]
theorem mergeAtI {a₀ : Array Keyed} {lo i : Nat} {st : SortSt} {Q : Bool -> SortSt -> Prop} (asks : Asks prog w A E s O k P) (h : RI O k P a₀ lo st) (hlo : lo <= a₀.size) (hi : i + 2 <= (pendingOf st).size)
 (g : ∀ st',RI O k P a₀ lo st' -> (pendingOf st').size + 1 = (pendingOf st).size -> (∀ j,lo <= j -> (arrOf st')[j]? = (arrOf st)[j]?) -> Q true st') : wpS (model prog w) A E s (mergeAt' i) Q st:=by
 have hl : (pendingOf st).toList.length = (pendingOf st).size:=Array.length_toList
 obtain ⟨⟨s1,n1,w1⟩,⟨s2,n2,w2⟩,e⟩:=two_of (pendingOf st).toList (i:=i) (by omega)
 have hr:=h.runs
 rw [e] at hr
 obtain ⟨c,r1,r2⟩:=hr.split
 obtain ⟨rfl,l1,e2,l2,r3⟩:=r2
 subst e2
 have b3:=r3.le
 have lt : ((pendingOf st).toList.take i).length = i:=by rw [List.length_take]; omega
 have hu:=h.up
 rw [e] at hu
 have u1:=hu (s1,n1,w1) (by simp)
 have u2:=hu (s1 + n1,n2,w2) (by simp)
 have hsz:=h.perm.size_eq
 refine mergeAtR asks h.sb h.fail e lt.symm l1 l2 (by omega) u1 u2 λ st' k1 k2 k3 k4 k5 k6=>?_
 refine g st' ⟨k1,k2,k4.trans h.perm,?_,λ p hp=>?_⟩ ?_ λ j hj=>k6 j (.inr (by omega))
 ·rw [k3]
  exact r1.join ⟨rfl,by omega,by rw [← Nat.add_assoc]; exact r3⟩
 ·rw [k3] at hp
  rcases List.mem_append.mp hp with hp | hp
  ·have:=r1.mem p hp
   exact (hu p (List.mem_append_left _ hp)).congr λ j h1 h2=>k6 j (.inl (by omega))
  ·rcases List.mem_cons.mp hp with rfl | hp
   ·exact k5
   ·have:=r3.mem p hp
    exact (hu p (List.mem_append_right _ (List.mem_cons_of_mem _ (List.mem_cons_of_mem _ hp)))).congr λ j h1 h2=>k6 j (.inr (by omega))
 ·have e3:=congrArg List.length k3
  have e4:=congrArg List.length e
  simp only [List.length_append,List.length_cons,Array.length_toList] at e3 e4
  omega
end
end PyProof.Rows
namespace PyProof.Rows
open PySem
section
variable {prog : Program} {w : World} {A : Around} {E : Value -> Shared -> Prop} {s : Shared}
variable {O : KeyOrd} {k : Keyed -> O.α} {P : Keyed -> Prop}
theorem RI.push {a₀ : Array Keyed} {lo n : Nat} {st : SortSt} (h : RI O k P a₀ lo st) (hn : 1 <= n) (u : Up O k (arrOf st) lo (lo + n)) : RI O k P a₀ (lo + n) (setPending st ((pendingOf st).push (lo,n,0))):=by
 have e : (pendingOf (setPending st ((pendingOf st).push (lo,n,0)))).toList = (pendingOf st).toList ++ [(lo,n,0)]:=Array.toList_push
 refine ⟨⟨h.sb.kind,h.sb.all⟩,h.fail,h.perm,?_,λ p hp=>?_⟩
 ·rw [e]; exact h.runs.join ⟨rfl,hn,rfl⟩
 ·rw [e] at hp
  rcases List.mem_append.mp hp with hp | hp
  ·exact h.up p hp
  ·cases List.mem_singleton.mp hp
   exact u
theorem Runs.last : ∀ {l : List (Nat × Nat × Nat)} {a b : Nat} (pw i : Nat),Runs l a b -> Runs (l.modify i λ (st,len,_)=>(st,len,pw)) a b
 | [],a,b,pw,i,h=>by rw [List.modify_nil]; exact h
 | (s,n,w) :: r,a,b,pw,0,h=>by rw [List.modify_zero_cons]; exact h
 | (s,n,w) :: r,a,b,pw,i + 1,h=>by rw [List.modify_succ_cons]; exact ⟨h.1,h.2.1,h.2.2.last pw i⟩
theorem mem_modify : ∀ {l : List (Nat × Nat × Nat)} {pw i : Nat} {p : Nat × Nat × Nat},p ∈ (l.modify i λ (st,len,_)=>(st,len,pw)) -> ∃ q ∈ l,q.1 = p.1 /\ q.2.1 = p.2.1
 | [],pw,i,p,h=>by rw [List.modify_nil] at h; cases h
 | (s,n,w) :: r,pw,0,p,h=>by
   rw [List.modify_zero_cons] at h
   rcases List.mem_cons.mp h with rfl | h
   ·exact ⟨_,List.mem_cons_self,rfl,rfl⟩
   ·exact ⟨p,List.mem_cons_of_mem _ h,rfl,rfl⟩
 | (s,n,w) :: r,pw,i + 1,p,h=>by
   rw [List.modify_succ_cons] at h
   rcases List.mem_cons.mp h with rfl | h
   ·exact ⟨_,List.mem_cons_self,rfl,rfl⟩
   ·obtain ⟨q,h1,h2⟩:=mem_modify h
    exact ⟨q,List.mem_cons_of_mem _ h1,h2⟩
theorem RI.pow {a₀ : Array Keyed} {lo pw : Nat} {st : SortSt} (h : RI O k P a₀ lo st) : RI O k P a₀ lo (setPending st ((pendingOf st).modify ((pendingOf st).size - 1) λ (st,len,_)=>(st,len,pw))):=by
 have e : (pendingOf (setPending st ((pendingOf st).modify ((pendingOf st).size - 1) λ (st,len,_)=>(st,len,pw)))).toList = (pendingOf st).toList.modify ((pendingOf st).size - 1) λ (st,len,_)=>(st,len,pw):=Array.toList_modify
 refine ⟨⟨h.sb.kind,h.sb.all⟩,h.fail,h.perm,?_,λ p hp=>?_⟩
 ·rw [e]; exact h.runs.last _ _
 ·rw [e] at hp
  obtain ⟨q,h1,h2,h3⟩:=mem_modify hp
  rw [← h2,← h3]
  exact h.up q h1
set_option hygiene false in
local macro_rules | `(tactic| sizeOf_list_dec)=>`(tactic| (
 refine wpS_bind (wpS_get ?_)
 try dsimp only
 cases (pendingOf st9).back? with
 | none=>exact wpS_bind (wpS_modify (wpS_pure (g _ (h.push hn u))))
 | some p =>
   obtain ⟨s1,n1,w1⟩:=p
   try dsimp only
   generalize power' (arrOf st).size (2 * s1 + n1) (2 * s1 + n1 + n1 + n) (arrOf st).size = pw
   refine wpS_bind (wpS_mono (wpS_forRange (I:=λ x c st'=>c = (none,()) /\ RI O k P (arrOf st) lo st' /\ Up O k (arrOf st') lo (lo + n))
    (Q:=λ c st'=>c = (none,()) /\ RI O k P (arrOf st) lo st' /\ Up O k (arrOf st') lo (lo + n)) ?nstep ?nfin ⟨rfl,h,u⟩) ?npost)
   case nfin=>exact λ c st' h=>h
   case npost =>
    rintro c st' ⟨rfl,h',u'⟩
    try dsimp only
    exact wpS_bind (wpS_modify (wpS_bind (wpS_modify (wpS_pure (g _ (h'.pow.push hn u'))))))
   case nstep =>
    rintro x c st' _ _ ⟨rfl,h',u'⟩
    refine wpS_bind (wpS_get ?_)
    try dsimp only
    by_cases hz : (pendingOf st').size > 1
    ·rw [if_pos hz]
     cases e : (pendingOf st')[(pendingOf st').size - 2]? with
     | none=>exact wpS_pure ⟨rfl,h',u'⟩
     | some p =>
       obtain ⟨s2,n2,w2⟩:=p
       try dsimp only
       by_cases hw : w2 <= pw
       ·rw [if_pos hw]
        exact wpS_pure ⟨rfl,h',u'⟩
       ·rw [if_neg hw]
        refine wpS_bind (mergeAtI asks h' (by omega) (by omega) λ st3 k1 k2 k3=>?_)
        simp only [Bool.not_true,Bool.false_eq_true,if_false]
        exact wpS_pure ⟨rfl,k1,u'.congr λ j h1 _=>k3 j h1⟩
    ·rw [if_neg hz]
     exact wpS_pure ⟨rfl,h',u'⟩))
theorem sortRuns_ok {st : SortSt} {Q : Unit -> SortSt -> Prop} (asks : Asks prog w A E s O k P) (hb : SB P st) (hf : failedOf st = none) (hp : pendingOf st = #[]) (h2 : 2 <= (arrOf st).size)
 (h : ∀ st',failedOf st' = none -> (arrOf st').Perm (arrOf st) -> Ord O k (arrOf st').toList -> Q () st') : wpS (model prog w) A E s sortRuns' Q st:=by
 rw [sortRuns'_eq]
 refine wpS_bind (wpS_get ?_)
 try dsimp only
 have i0 : RI O k P (arrOf st) 0 st:=⟨hb,hf,.refl _,by rw [hp]; rfl,λ p hp'=>by rw [hp] at hp'; cases hp'⟩
 generalize minRun' (arrOf st).size (arrOf st).size 0 = mr
 refine wpS_bind (wpS_mono (wpS_forRange
  (I:=λ x c st'=>∃ lo,c = (none,lo) /\ x <= lo /\ lo <= (arrOf st).size /\ RI O k P (arrOf st) lo st')
  (Q:=λ c st'=>c = (none,(arrOf st).size) /\ RI O k P (arrOf st) (arrOf st).size st') ?step ?fin ⟨0,rfl,by omega,by omega,i0⟩) ?post)
 case fin =>
  rintro c st' ⟨lo,rfl,h1,h3,h4⟩
  have : lo = (arrOf st).size:=by omega
  subst this
  exact ⟨rfl,h4⟩
 case step =>
  rintro x c st' _ hx ⟨lo,rfl,h1,h3,h4⟩
  try dsimp only
  have hsz:=h4.perm.size_eq
  by_cases hlo : lo >= (arrOf st).size
  ·rw [if_pos hlo]
   have : lo = (arrOf st).size:=by omega
   subst this
   exact wpS_pure ⟨rfl,h4⟩
  rw [if_neg hlo]
  refine wpS_bind (countRun_ok asks h4.sb (by omega) (by omega) λ n st2 g1 g2 g3 g4=>?_)
  try dsimp only
  have g1s:=g1.size
  by_cases hm : n < mr
  ·rw [if_pos hm]
   refine wpS_bind (wpS_lift (wpAny_rule ⟨rfl,?_⟩))
   try dsimp only
   refine wpS_bind (binarySort_ok asks (h4.sb.step g1) (by omega) g2 (by omega) g4 λ st9 g5 u=>?_)
   simp only [Bool.not_true,Bool.false_eq_true,if_false]
   have hn : 1 <= min ((arrOf st).size - lo) mr:=by omega
   have h9:=(h4.step g1).step g5
   have g : ∀ st4,RI O k P (arrOf st) (lo + min ((arrOf st).size - lo) mr) st4 -> ∃ lo',((none,lo + min ((arrOf st).size - lo) mr) : Option PUnit × Nat) = (none,lo') /\ x + 1 <= lo' /\ lo' <= (arrOf st).size /\ RI O k P (arrOf st) lo' st4:=λ st4 g7=>⟨_,rfl,by omega,by omega,g7⟩
   replace h:=h9
   generalize min ((arrOf st).size - lo) mr = n at *
   sizeOf_list_dec
  ·rw [if_neg hm]
   have hn:=g2
   have h9:=h4.step g1
   have g : ∀ st4,RI O k P (arrOf st) (lo + n) st4 -> ∃ lo',((none,lo + n) : Option PUnit × Nat) = (none,lo') /\ x + 1 <= lo' /\ lo' <= (arrOf st).size /\ RI O k P (arrOf st) lo' st4:=λ st4 g7=>⟨_,rfl,by omega,by omega,g7⟩
   replace h:=h9
   have u:=g4
   clear h9 g4 g1
   revert u h
   generalize st2 = st9
   intro h u
   sizeOf_list_dec
 case post =>
  rintro c st' ⟨rfl,hD⟩
  try dsimp only
  refine wpS_bind (wpS_mono (wpS_forRange (I:=λ x c st2=>c = (none,()) /\ RI O k P (arrOf st) (arrOf st).size st2 /\ ((pendingOf st2).size + x <= (arrOf st).size \/ (pendingOf st2).size <= 1))
   (Q:=λ c st2=>c = (none,()) /\ RI O k P (arrOf st) (arrOf st).size st2 /\ (pendingOf st2).size <= 1) ?fstep ?ffin ?finit) ?fpost)
  case finit =>
   have:=hD.runs.le
   rw [Array.length_toList] at this
   exact ⟨rfl,hD,.inl (by omega)⟩
  case ffin =>
   rintro c st2 ⟨rfl,h1,h3⟩
   exact ⟨rfl,h1,by omega⟩
  case fstep =>
   rintro x c st2 _ hx ⟨rfl,h1,h3⟩
   refine wpS_bind (wpS_get ?_)
   try dsimp only
   by_cases hz : (pendingOf st2).size <= 1
   ·rw [if_pos hz]
    exact wpS_pure ⟨rfl,h1,hz⟩
   ·rw [if_neg hz]
    have go : ∀ i,i + 2 <= (pendingOf st2).size -> wpS (model prog w) A E s (mergeAt' i) (λ b st3=>b = true /\ RI O k P (arrOf st) (arrOf st).size st3 /\ ((pendingOf st3).size + (x + 1) <= (arrOf st).size \/ (pendingOf st3).size <= 1)) st2:=λ i hi =>
     mergeAtI asks h1 (Nat.le_refl _) hi λ st3 k1 k2 k3=>⟨rfl,k1,by omega⟩
    refine wpS_bind (wpS_mono (go _ ?_) ?_)
    ·generalize Option.any _ _ = b
     cases b
     ·show (pendingOf st2).size - 2 + 2 <= _; omega
     ·show (pendingOf st2).size - 2 - 1 + 2 <= _; omega
    ·rintro b st3 ⟨rfl,k1,k2⟩
     simp only [Bool.not_true,Bool.false_eq_true,if_false]
     exact wpS_pure ⟨rfl,k1,k2⟩
  case fpost =>
   rintro c st2 ⟨rfl,h1,h3⟩
   try dsimp only
   refine wpS_pure (h st2 h1.fail h1.perm ?_)
   have hr:=h1.runs
   have hl : (pendingOf st2).toList.length = (pendingOf st2).size:=Array.length_toList
   have hu:=h1.up
   have hsz:=h1.perm.size_eq
   generalize (pendingOf st2).toList = l at hr hl hu
   match l,hr,hl,hu with
   | [],hr,hl,hu=>have : 0 = (arrOf st).size:=hr; omega
   | [(a,n,b)],hr,hl,hu =>
     obtain ⟨rfl,_,e⟩:=hr
     have e' : 0 + n = (arrOf st).size:=e
     have u:=hu (0,n,b) (by simp)
     have:=Up.ord (lo:=0) (n:=n) u (by omega)
     rw [List.drop_zero,List.take_of_length_le (by rw [Array.length_toList]; omega)] at this
     exact this
   | p :: q :: r,hr,hl,hu=>simp only [List.length_cons] at hl; omega
end
end PyProof.Rows
namespace PySem
open AutoSeq1 (wpAny_loadPart')
open MeetsSeq MeetsSeq3
open PyProof.Rows
theorem ints_at : ∀ {vs : List Value} {ns : List Int} {i : Nat} {n : Int},IntsAre vs ns -> ns[i]? = some n -> ∃ t,vs[i]? = some (.int n t)
 | _,_,_,_,.nil,h=>by cases h
 | _,_,0,_,.cons n t _,h=>by cases h; exact ⟨t,rfl⟩
 | _,_,i + 1,_,.cons n t r,h=>ints_at (i:=i) r h
theorem ints_len : ∀ {vs : List Value} {ns : List Int},IntsAre vs ns -> vs.length = ns.length
 | _,_,.nil=>rfl
 | _,_,.cons n t r=>by simp [ints_len r]
theorem lt_loop (l b : Addr) (xs ys : List Nat) (items items2 : List Value) (n n2 : Nat) (dd dd2 : Option Addr) (sl sl2 : Array (Option Value)) (h1 : IntsAre items (xs.map Int.ofNat)) (h2 : IntsAre items2 (ys.map Int.ofNat)) (k : Nat) :
 ∀ i : Nat,items.length - i = k -> i <= items.length -> Meets (Builtin.«list.__eq__.loop» ⟨[.ref l,.ref b,rawInt i,rawInt 0],[]⟩)
   (λ _ R s=>s.heap.get? l = some { cls:=.type "list",dict:=dd,data:=.seq items.toArray n,slots:=sl } /\ s.heap.get? b = some { cls:=.type "list",dict:=dd2,data:=.seq items2.toArray n2,slots:=sl2 } /\
    R (.ok (.ret (.bool (decide (xs.drop i < ys.drop i))))) s):=by
 have e1:=ints_len h1
 have e2:=ints_len h2
 rw [List.length_map] at e1 e2
 induction k with
 | zero =>
   intro i hk hle prog w A R s h
   obtain ⟨hp,g,d,tk,os⟩:=s; obtain ⟨hl,hb,h⟩:=h
   wp_walk using wpAny_loadPart' hl,wpAny_loadPart' hb
   have hi1 : items.toArray[((i : Nat) : Int).toNat]? = none:=by simp; omega
   have hd : xs.drop i = []:=by rw [List.drop_eq_nil_iff]; omega
   rw [hi1]
   have key : decide (items.toArray.size < items2.toArray.size) = decide (xs.drop i < ys.drop i):=by
    rw [hd,List.size_toArray,List.size_toArray]
    rcases Nat.lt_or_ge i ys.length with z | z
    ·have a1 : items.length < items2.length:=by omega
     have a2 : ([] : List Nat) < ys.drop i:=by rw [List.drop_eq_getElem_cons z]; exact List.nil_lt_cons _ _
     rw [decide_eq_true a1,decide_eq_true a2]
    ·rw [List.drop_eq_nil_of_le z]
     simp; omega
   cases items2.toArray[((i : Nat) : Int).toNat]? with
   | none =>
     wp_walk using wpAny_loadPart' hl,wpAny_loadPart' hb
     show R (.ok (.ret (.bool (decide (items.toArray.size < items2.toArray.size))))) _
     rw [key]; exact h
   | some y =>
     wp_walk using wpAny_loadPart' hl,wpAny_loadPart' hb
     show R (.ok (.ret (.bool (decide (items.toArray.size < items2.toArray.size))))) _
     rw [key]; exact h
 | succ k ih =>
   intro i hk hle prog w A R s h
   obtain ⟨hp,g,d,tk,os⟩:=s; obtain ⟨hl,hb,h⟩:=h
   wp_walk using wpAny_loadPart' hl,wpAny_loadPart' hb
   have hlt : i < xs.length:=by omega
   obtain ⟨t,ht⟩:=ints_at (i:=i) (n:=Int.ofNat xs[i]) h1 (by simp [hlt])
   have hi1 : items.toArray[((i : Nat) : Int).toNat]? = some (.int (Int.ofNat xs[i]) t):=by simpa using ht
   have hd:=List.drop_eq_getElem_cons hlt
   have hc : ((i : Int) + 1) = ((i + 1 : Nat) : Int):=by push_cast; rfl
   rw [hi1]
   rcases Nat.lt_or_ge i ys.length with z | z
   ·obtain ⟨u,hu⟩:=ints_at (i:=i) (n:=Int.ofNat ys[i]) h2 (by simp [z])
    have hi2 : items2.toArray[((i : Nat) : Int).toNat]? = some (.int (Int.ofNat ys[i]) u):=by simpa using hu
    rw [hi2]
    refine wpAny_bind (EqGives.int _ _ _ _ prog w _ _ _ _ ?_)
    rw [hd,List.drop_eq_getElem_cons z] at h
    by_cases hb' : xs[i] = ys[i]
    ·have : ((Int.ofNat xs[i] : Int) == Int.ofNat ys[i]) = true:=by rw [hb']; simp
     rw [this]
     wp_walk
     rw [hc]
     refine ⟨plainId_quiet plain_eq_loop _,codeAny_builtin entry_eq_loop ?_⟩
     rw [Around.under_plainId plain_eq_loop _]
     refine ih (i + 1) (by omega) (by omega) prog w A R _ ⟨hl,hb,?_⟩
     have e3 : decide (xs[i] :: xs.drop (i + 1) < ys[i] :: ys.drop (i + 1)) = decide (xs.drop (i + 1) < ys.drop (i + 1)):=by
      apply decide_eq_decide.mpr
      rw [List.cons_lt_cons_iff]
      exact ⟨λ q=>q.elim (λ q=>by omega) (·.2),λ q=>.inr ⟨hb',q⟩⟩
     rw [e3] at h
     exact h
    ·have : ((Int.ofNat xs[i] : Int) == Int.ofNat ys[i]) = false:=by simp; omega
     rw [this]
     wp_walk using wpAny_loadPart' hl,wpAny_loadPart' hb
     rw [hi1,hi2]
     refine wpAny_bind (wpAny_lt_int (wpAny_pure ?_))
     have e3 : decide ((Int.ofNat xs[i] : Int) < Int.ofNat ys[i]) = decide (xs[i] :: xs.drop (i + 1) < ys[i] :: ys.drop (i + 1)):=by
      apply decide_eq_decide.mpr
      rw [List.cons_lt_cons_iff]
      exact ⟨λ q=>.inl (Int.ofNat_lt.mp q),λ q=>q.elim (λ q=>Int.ofNat_lt.mpr q) λ q=>absurd q.1 hb'⟩
     rw [e3]
     exact h
   ·have hi2 : items2.toArray[((i : Nat) : Int).toNat]? = none:=by simp; omega
    rw [hi2]
    wp_walk using wpAny_loadPart' hl,wpAny_loadPart' hb
    show R (.ok (.ret (.bool (decide (items.toArray.size < items2.toArray.size))))) _
    have key : decide (items.toArray.size < items2.toArray.size) = decide (xs.drop i < ys.drop i):=by
     rw [hd,List.drop_eq_nil_of_le z,List.size_toArray,List.size_toArray]
     simp; omega
    rw [key]; exact h
theorem list_lt (l b : Addr) (xs ys : List Nat) (items items2 : List Value) (n n2 : Nat) (dd dd2 : Option Addr) (sl sl2 : Array (Option Value)) (h1 : IntsAre items (xs.map Int.ofNat)) (h2 : IntsAre items2 (ys.map Int.ofNat)) :
 Meets (Builtin.«list.__lt__» ⟨[.ref l,.ref b],[]⟩)
  (λ _ R s=>s.heap.get? l = some { cls:=.type "list",dict:=dd,data:=.seq items.toArray n,slots:=sl } /\ s.heap.get? b = some { cls:=.type "list",dict:=dd2,data:=.seq items2.toArray n2,slots:=sl2 } /\
   R (.ok (.ret (.bool (decide (xs < ys))))) s):=by
 intro prog w A R s h
 obtain ⟨hp,g,d,tk,os⟩:=s; obtain ⟨hl,hb,h⟩:=h
 have f3:=AutoSeq1.sub_list_list
 wp_walk using wpAny_loadPart' hl,wpAny_loadPart' hb
 refine ⟨plainId_quiet plain_eq_loop _,codeAny_builtin entry_eq_loop ?_⟩
 rw [Around.under_plainId plain_eq_loop _]
 exact lt_loop l b xs ys items items2 n n2 dd dd2 sl sl2 h1 h2 _ 0 rfl (Nat.zero_le _) prog w A R _ ⟨hl,hb,by simpa using h⟩
end PySem
namespace PyProof.Rows
open PySem PySem.W
def KeyAt (h : Heap) (v : Value) (ns : List Nat) : Prop:=∃ q its n,v = .ref q /\ h.get? q = some (seqObj "list" (List.toArray its) n) /\ IntsAre its (ns.map Int.ofNat)
def kOf (h : Heap) (p : Keyed) : List Nat:=match p.1 with
 | .ref q=>(match h.get? q with
   | some o=>(match o.data with
     | .seq xs _=>xs.toList.map λ v=>(numOf v).toNat
     | _=>[])
   | none=>[])
 | _=>[]
theorem nums_back : ∀ {its : List Value} {ns : List Nat},IntsAre its (ns.map Int.ofNat) -> its.map (λ v=>(numOf v).toNat) = ns
 | _,[],h=>by cases h; rfl
 | _,n :: ns,h=>by
   cases h with
   | cons _ t r=>rw [List.map_cons,nums_back r]; rfl
theorem KeyAt.kOf {h : Heap} {v x : Value} {ns : List Nat} (H : KeyAt h v ns) : kOf h (v,x) = ns:=by
 obtain ⟨q,its,n,rfl,e,r⟩:=H
 unfold PyProof.Rows.kOf
 simp only [e]
 exact nums_back r
section
variable {prog : Program} {w : World} {A : Around} {E : Value -> Shared -> Prop} {s : Shared}
theorem oneLt_lists {a b : Addr} {xs ys : List Nat} {items items2 : List Value} {n n2 : Nat} {Q : Bool -> Shared -> Prop} (hu : A.units < cLine) (h1 : IntsAre items (xs.map Int.ofNat)) (h2 : IntsAre items2 (ys.map Int.ofNat)) (ha : s.heap.get? a = some (seqObj "list" items.toArray n)) (hb : s.heap.get? b = some (seqObj "list" items2.toArray n2))
 (h : Q (decide (xs < ys)) s) : wpAny (model prog w) A (oneLt' true (.ref a) (.ref b)) Q E s:=by
 rw [oneLt'_eq]
 simp only [if_true]
 refine wpAny_bind (wpAny_cRoomFor hu ?_)
 refine wpAny_bind (wpAny_callSpecialIfBound?_slot (T := "list") ⟨_,ha,rfl⟩ PySem.F.slot_list_lt (call_meets PySem.F.slot_list_lt ⟨_,ha,rfl⟩ PySem.F.entry_list_lt (PySem.F.args_list_lt_2 _ _) (list_lt a b xs ys items items2 n n2 none none #[] #[] h1 h2) ⟨ha,hb,?_⟩))
 exact wpAny_truthy_bool h
theorem asks_lists (hu : A.units < cLine) : Asks prog w A E s strKind.toKeyOrd (kOf s.heap) (λ p=>∃ ns,KeyAt s.heap p.1 ns):=by
 refine ⟨λ x y st Q px py hk h=>?_⟩
 obtain ⟨xs,q,its,n,e1,e2,e3⟩:=px
 obtain ⟨ys,q',its',n',e1',e2',e3'⟩:=py
 obtain ⟨x1,x2⟩:=x
 obtain ⟨y1,y2⟩:=y
 cases (show x1 = .ref q from e1)
 cases (show y1 = .ref q' from e1')
 rw [lt'_eq]
 refine wpS_bind (wpS_get ?_)
 rw [hk,keyLt'_oneType]
 refine wpS_bind (wpS_lift (wpAny_attempt (oneLt_lists hu e3 e3' e2 e2' ⟨rfl,?_⟩)))
 have f1 : kOf s.heap (Value.ref q,x2) = xs:=KeyAt.kOf ⟨q,its,n,rfl,e2,e3⟩
 have f2 : kOf s.heap (Value.ref q',y2) = ys:=KeyAt.kOf ⟨q',its',n',rfl,e2',e3'⟩
 rw [f1,f2] at h
 exact wpS_pure h
theorem sort_endL {a kS : Addr} {vs : List Value} {keys : Array Value} {rk : List (List Nat)} {e e1 : Nat} {P : PySem.Fin -> Shared -> Prop} (hu : A.units < cLine) (ho : s.heap.get? a = some (seqObj "list" #[] e1)) (hkS : s.heap.get? kS = some (seqObj "list" keys e)) (hka : kS ≠ a)
 (hk : ∀ (i : Nat) (v : Value),keys[i]? = some v -> ∃ ns,rk[i]? = some ns /\ KeyAt s.heap v ns) (hlen : keys.size = vs.length) (hl2 : rk.length = vs.length) (hbig : vs.length <= sizeLine)
 (h : ∀ (ps : List (List Nat × Value)),ps.Perm (rk.zip vs) -> ps.Pairwise (λ p q=>¬ q.1 < p.1) -> P (.done (.ret .none)) { s with heap:=(s.heap.update kS (Obj.mapSeq λ _=>(#[] : Array Value))).update a (Obj.mapSeq λ _=>(ps.map Prod.snd).toArray) }) :
 wpAny (model prog w) A (ksk_end a false vs.toArray e1 (.ref kS) keys) P E s:=by
 have hzs : (keys.zip vs.toArray).size = vs.length:=by rw [Array.size_zip,hlen,List.size_toArray,Nat.min_self]
 have hmem : ∀ p ∈ (keys.zip vs.toArray).toList,∃ ns,KeyAt s.heap p.1 ns:=λ p hp=>by
  rw [ksk_zip] at hp
  obtain ⟨x,y⟩:=p
  obtain ⟨i,hi⟩:=List.getElem?_of_mem (List.of_mem_zip hp).1
  rw [Array.getElem?_toList] at hi
  obtain ⟨ns,_,z⟩:=hk i x hi
  exact ⟨ns,z⟩
 have hz : (keys.toList.zip vs).map (λ p : Keyed=>(kOf s.heap p,p.2)) = rk.zip vs:=by
  apply List.ext_getElem?
  intro i
  rw [List.getElem?_map]
  rcases Nat.lt_or_ge i vs.length with z | z
  ·have hk1 : keys[i]? = some (keys[i]'(by omega)):=getElem?_pos keys i _
   obtain ⟨ns,r1,r2⟩:=hk i _ hk1
   have : keys.toList[i]? = some (keys[i]'(by omega)):=by rw [Array.getElem?_toList]; exact hk1
   rw [(List.getElem?_zip_eq_some (z:=(keys[i]'(by omega),vs[i]))).mpr ⟨this,List.getElem?_eq_getElem z⟩,(List.getElem?_zip_eq_some (z:=(ns,vs[i]))).mpr ⟨r1,List.getElem?_eq_getElem z⟩]
   show some (kOf s.heap _,_) = _
   rw [r2.kOf]
  ·rw [List.getElem?_eq_none (by rw [List.length_zip,Array.length_toList]; omega),List.getElem?_eq_none (by rw [List.length_zip]; omega)]
   rfl
 have fin : ∀ st : SortSt,failedOf st = none -> (arrOf st).Perm (keys.zip vs.toArray) -> Ord strKind.toKeyOrd (kOf s.heap) (arrOf st).toList -> wpAny (model prog w) A (ksk_tail a false e1 (.ref kS) st) P E s:=λ st hf hp hs=>by
  have hp' : (arrOf st).toList.Perm (keys.toList.zip vs):=by rw [← ksk_zip]; exact Array.perm_iff_toList_perm.mp hp
  have hsz2 : (arrOf st).size = vs.length:=by rw [hp.size_eq,hzs]
  have q:=h ((arrOf st).toList.map (λ p : Keyed=>(kOf s.heap p,p.2))) (by rw [← hz]; exact hp'.map _) (by
   rw [List.pairwise_map]
   refine hs.imp λ {x y} hxy=>?_
   exact of_decide_eq_false hxy)
  have eo : (((arrOf st).toList.map (λ p : Keyed=>(kOf s.heap p,p.2))).map Prod.snd).toArray = (arrOf st).map (·.2):=by
   apply Array.toList_inj.mp
   rw [Array.toList_map,List.map_map]; rfl
  rw [eo] at q
  have na1 : (s.heap.update kS (Obj.mapSeq λ _=>(#[] : Array Value))).get? a = some (seqObj "list" #[] e1):=((Heap.SameBut.update s.heap kS (Obj.mapSeq λ _=>(#[] : Array Value))).2 a hka.symm).trans ho
  unfold ksk_tail
  try dsimp only
  refine wpAny_bind (listUpdate_at hkS rfl ?_ (by rw [hlen]; exact hbig) (Nat.zero_le _))
  refine wpAny_bind (wpAny_letGo ?_)
  refine wpAny_bind (seqEpoch_at na1 rfl ?_)
  refine wpAny_bind (listUpdate_at na1 rfl ?_ (Nat.zero_le _) (by simp only [Bool.false_eq_true,if_false,Array.size_map]; rw [hsz2]; omega))
  rw [hf]
  simp only [bne_self_eq_false,Bool.false_eq_true,if_false]
  exact wpAny_pure q
 unfold ksk_end
 try dsimp only
 simp only [Bool.false_eq_true,if_false]
 by_cases h2 : vs.toArray.size < 2
 ·rw [if_pos h2,if_pos h2]
  refine wpAny_bind (wpAny_pure ?_)
  rw [StateT.run_pure]
  refine wpAny_bind (wpAny_pure ?_)
  try dsimp only
  refine fin _ rfl (Array.Perm.refl _) ?_
  show Ord _ _ (keys.zip vs.toArray).toList
  have hl : (keys.zip vs.toArray).toList.length < 2:=by rw [Array.length_toList,hzs]; rw [List.size_toArray] at h2; exact h2
  match (keys.zip vs.toArray).toList,hl with
  | [],_=>exact List.Pairwise.nil
  | [p],_=>exact List.pairwise_singleton _ _
  | _ :: _ :: _,hl=>(simp only [List.length_cons] at hl; omega)
 ·rw [if_neg h2,if_neg h2]
  rw [List.size_toArray] at h2
  have ek : keys = keys.toList.toArray:=rfl
  rw [show keyKind' keys = keyKind' keys.toList.toArray from rfl]
  refine wpAny_bind (kas_kind (T:=.type "list") (by rw [Array.length_toList]; omega) (λ v hv=>?_) rfl rfl ?_)
  ·obtain ⟨i,hi⟩:=List.getElem?_of_mem hv
   rw [Array.getElem?_toList] at hi
   obtain ⟨ns,_,q,its,n,rfl,z,_⟩:=hk i v hi
   exact kitAt_ty _ _ ⟨_,z,rfl⟩
  refine wpAny_bind (wpAny_mono (sortRuns_ok (O:=strKind.toKeyOrd) (k:=kOf s.heap) (P:=λ p=>∃ ns,KeyAt s.heap p.1 ns) (st:=SortSt.mk' oneType' (keys.zip vs.toArray) #[] 7 none)
   (Q:=λ _ st'=>(arrOf st').Perm (keys.zip vs.toArray) /\ failedOf st' = none /\ Ord strKind.toKeyOrd (kOf s.heap) (arrOf st').toList)
   (asks_lists hu) ⟨rfl,hmem⟩ rfl rfl (by show 2 <= (keys.zip vs.toArray).size; rw [hzs]; omega) λ st' a1 a2 a3=>⟨a2,a1,a3⟩) ?_ λ _ _ e=>e)
  rintro ⟨⟨⟩,st'⟩ s' ⟨rfl,hp,hf,hs⟩
  exact fin st' hf hp hs
end
end PyProof.Rows
namespace L2
open PySem PySem.Spec PyProof.Rows
section
variable {X : Cx} {pins : List (Addr × Obj)} {σ : St} {H : Hp} {s : Shared}
abbrev Cx.in2 (X : Cx) : Cx:={ X with A:=X.A.in1.in1 }
theorem Inv.in2 (I : Inv X pins σ H s) : Inv X.in2 pins σ H s :=
 ⟨⟨I.ok.mod,I.ok.kind,I.ok.glob,I.ok.blt,I.ok.above,I.ok.inj,I.ok.has,I.ok.cab,I.ok.hd,I.ok.frames,I.ok.stk,I.ok.exf,I.ok.bs,I.ok.bsz,I.ok.noex,I.ok.exfs,I.ok.funs,I.ok.frf⟩,I.os,I.bare,I.base,I.loc,I.cell,I.free,I.freeC,I.pin,I.hok,I.len⟩
theorem Inv.out2 (I : Inv X.in2 pins σ H s) : Inv X pins σ H s :=
 ⟨⟨I.ok.mod,I.ok.kind,I.ok.glob,I.ok.blt,I.ok.above,I.ok.inj,I.ok.has,I.ok.cab,I.ok.hd,I.ok.frames,I.ok.stk,I.ok.exf,I.ok.bs,I.ok.bsz,I.ok.noex,I.ok.exfs,I.ok.funs,I.ok.frf⟩,I.os,I.bare,I.base,I.loc,I.cell,I.free,I.freeC,I.pin,I.hok,I.len⟩
def cxLam (X : Cx) (N : List Str) (qual : Str) (scope : Scope) (f : Addr) (cd : Value) (cl : List (Str × Addr)) (s : Shared) (H : Hp) : Cx where
 prog:=X.prog
 w:=X.w
 K:=X.K
 mg:=X.mg
 base:=X.base
 A:=X.A.deeper (PySem.W.envX qual scope s.heap.objs.size f cd cl)
 N:=N
 s₀:=s
 H₀:=H
 env:=PySem.W.envX qual scope s.heap.objs.size f cd cl
 outer:=X.stack
 stack:=PySem.W.envX qual scope s.heap.objs.size f cd cl :: X.stack
 ex:=[]
 fn:=λ _=>false
 calm:=true
 pn:=[]
 xe:=λ _ _=>False
theorem lam_call {x y : Str} {cc f c' : Addr} {qual : Str} {params : Arguments} {body : Expr} {scope : Scope} {pm ctv u uy : Value} {v vy : V} {te : TE} {Q : VK} {E : Value -> Shared -> Prop} (I : Inv X pins σ H s) (hc : X.calm = true) (hroom : X.A.depth < recursionLimit)
 (ho : s.heap.get? f = some (PySem.W.kla_obj "<lambda>" qual params body scope [(y,cc)] pm c' ctv)) (hcd : s.heap.CodeRec (.ref c') qual) (hk : scope.kind = .function) (hco : scope.isCoroutine = false) (hgen : scope.isGenerator = false)
 (hxl : scope.names.lookup x = some .local) (hyf : scope.names.lookup y = some .free) (hnc : ∀ z ∈ scope.names,z.2 ≠ .cell) (hof : ∀ z,scope.names.lookup z = some .free -> z = y) (hxy : x ≠ y)
 (hbind : bindArgs (PySem.W.kla_fn "<lambda>" qual params body scope [(y,cc)] pm (.ref c') ctv) ⟨[u],[]⟩ = pure [(x,u)])
 (hcell : s.heap.IsCell cc (some uy)) (hfc : H cc = none) (rv : RelV v u) (ry : RelV vy uy)
 (hb : PE (cxLam X [x,y] qual scope f (.ref c') [(y,cc)] s H) body te) (hq : te [some v,some vy] H Q) :
 wpAny (model X.prog X.w) X.A (call (.ref f) [u]) (EP X pins σ Q) E s:=by
 refine wpAny_call (PySem.W.kla_callFunE hroom ho rfl hco hgen rfl hcd ?_)
 rw [hbind]
 refine wpAny_pure (wpAny_newFunctionEnv hnc (λ z hz=>by cases List.mem_singleton.mp hz; exact hxl) (λ h₁ hns hsb=>⟨I.nolimit.fresh _ hsb,?_⟩) hk)
 have hk₁ : ∀ b o,s.heap.get? b = some o -> h₁.get? b = some o:=λ b o e=>hsb.extBut b o (Nat.ne_of_lt (Heap.lt_size e)) (Heap.get?_push_of_some _ e)
 have hlc : ∀ z c,([(y,cc)] : List (Str × Addr)).lookup z = some c -> z = y /\ c = cc:=λ z c e=>by
  rw [List.lookup_cons] at e
  cases q : z == y with
  | true=>rw [q] at e; cases e; exact ⟨eq_of_beq q,rfl⟩
  | false=>rw [q] at e; cases e
 have hly : ([(y,cc)] : List (Str × Addr)).lookup y = some cc:=by simp
 have noA : ∀ b : Addr,b ∉ ([] : List Addr):=λ b z=>nomatch z
 have IL : Inv (cxLam X [x,y] qual scope f (.ref c') [(y,cc)] s H) [] [some v,some vy] H { s with heap:=h₁,toks:=s.toks + 1 }:=by
  refine ⟨⟨I.ok.mod,hk,rfl,rfl,Nat.le_refl _,λ z z' c h1 h2=>?_,λ z hz=>?_,λ z c h=>(nomatch h),λ _=>I.ok.hd hc,Around.frames_deeper I.ok.frames,.inr ⟨rfl,rfl⟩,λ b z=>absurd z (noA b),I.bs,Nat.le_trans I.ok.bsz I.sz,λ b _ _=>noA b,λ b z=>absurd z (noA b),I.stack,I.stkFree⟩,
   rfl,I.bare,Un.kept hk₁,⟨_,hns,λ i z v' h1 h2 h3=>?_⟩,λ z c h=>?_,I.hok.fresh (Nat.le_refl _),λ z c h=>?_,λ p hp=>absurd (show p ∈ ([] : List (Addr × Obj)) from hp) (by simp),I.hok.kept hk₁,rfl⟩
  ·rw [(hlc z c h1).1,(hlc z' c h2).1]
  ·rcases hz with hz | hz
   ·exact absurd rfl (hnc _ (PySem.mem_of_lookup (show scope.names.lookup z = some .cell from hz)))
   ·rw [hof z hz]; exact ⟨cc,hly⟩
  ·match i,h1,h2 with
   | 0,h1,h2 =>
     cases h1; cases h2
     exact ⟨u,rv,.inl ⟨hxl,by simp⟩⟩
   | 1,h1,h2 =>
     cases h1; cases h2
     obtain ⟨o,e1,e2⟩:=hcell
     exact ⟨uy,ry,.inr ⟨.inr hyf,cc,hly,o,hk₁ _ _ e1,e2⟩⟩
   | i + 2,h1,h2=>cases h1
  ·obtain ⟨rfl,rfl⟩:=hlc z c h
   obtain ⟨o,e1,e2⟩:=hcell
   exact ⟨_,o,hk₁ _ _ e1,e2⟩
  ·rw [(hlc z c h).2]; exact hfc
 refine PySem.W.kla_codeExpr (wpAny_mono (hb [] _ _ H Q IL hq) (λ u' s' hs=>?_) λ e s' z=>(show False from z).elim)
 obtain ⟨v',H',J,r',q'⟩:=hs
 exact I.after ⟨v',H',J.os,J.bare,J.base,J.hok,r',q'⟩
end
end L2
namespace L2
open PySem PySem.Spec PyProof.Rows
def codeHO (c' : Addr) (qual : Str) : HO:=.ext λ h=>h.CodeRec (.ref c') qual
def TB (P : Addr) (pos : Pos) (qual : Str) (H : Hp) : Prop:=H P = some (.tbl #[]) \/ ∃ c',H P = some (.tbl #[rawInt pos.line,rawInt pos.col,.ref c']) /\ H c' = some (codeHO c' qual)
def BM (mg : Str -> Option Value) (h : Heap) : Prop:=∃ bm ob,mg "__builtins__" = some (.ref bm) /\ bm ≠ builtinsNs /\ h.get? bm = some ob /\ ob.cls = .type "module" /\ ob.dict = some builtinsNs /\ ob.data = .plain
def SameT (P : Addr) (H H' : Hp) : Prop:=∀ a o,a ≠ P -> H a = some o -> H' a = some o
theorem SameT.trans {P : Addr} {H H1 H2 : Hp} (a : SameT P H H1) (b : SameT P H1 H2) : SameT P H H2:=λ c o n e=>b c o n (a c o n e)
theorem SameT.of {P : Addr} {H H' : Hp} (h : Same H H') : SameT P H H':=λ a o _ e=>h a o e
theorem TB.same {P : Addr} {pos : Pos} {qual : Str} {H H' : Hp} (t : TB P pos qual H) (h : Same H H') : TB P pos qual H':=by
 rcases t with t | ⟨c',t1,t2⟩
 ·exact .inl (h _ _ t)
 ·exact .inr ⟨c',h _ _ t1,h _ _ t2⟩
section
variable {X : Cx} {pins : List (Addr × Obj)} {σ : St} {H : Hp} {s : Shared}
theorem codeHO_ok {P : Program} {w : World} {H : Hp} {h : Heap} {c' : Addr} {qual : Str} (r : h.CodeRec (.ref c') qual) : ObjOk P w H h c' (codeHO c' qual):=by
 refine ⟨r,?_,λ h1 h2 p k=>?_⟩
 ·obtain ⟨c,o,vs,t,e,g,_⟩:=r
  cases e
  exact ⟨o,g⟩
 ·obtain ⟨c,o,vs,t,e,g,r⟩:=p
  cases e
  exact ⟨_,o,vs,t,rfl,k _ g,r⟩
theorem lam_make {c P : Addr} {params : Arguments} {body : Expr} {scope : Scope} {pos : Pos} {clos : List (Str × Addr)} {Q : Value -> Shared -> Prop} (I : Inv X pins σ H s) (hdef : defaultsOf params X.env = ([],[])) (hcl : closureFor scope X.env = pure clos)
 (hcode : X.env.code = .ref c) (C : PySem.W.CodeHd X.base c P) (hB : BM X.mg X.base) (T : TB P pos (X.env.qual ++ "<lambda>") H)
 (h : ∀ f c' ctv H' s',Inv X (pins ++ [(f,PySem.W.kla_obj "<lambda>" (X.env.qual ++ "<lambda>") params body scope clos ((X.mg "__name__").getD .none) c' ctv)]) σ H' s' -> H' P = some (.tbl #[rawInt pos.line,rawInt pos.col,.ref c']) -> H' c' = some (codeHO c' (X.env.qual ++ "<lambda>")) -> SameT P H H' -> Q (.ref f) s') :
 wpAny (model X.prog X.w) X.A (eval (.Lambda params body scope pos) X.env) Q X.xe s:=by
 refine PySem.W.kla_eval hdef ?_
 have hg : s.heap.Ns mainGlobals X.mg:=I.ok.mod.glob.keeps I.bk
 have C':=C.keeps I.bk
 obtain ⟨bm,ob,b1,b2,b3,b4,b5,b6⟩:=hB
 have b3':=I.bk _ _ b3
 have hPn : H P ≠ none:=by
  rcases T with T | ⟨c',T,_⟩ <;> rw [T] <;> exact λ z=>nomatch z
 have neP : ∀ b,H b = none -> b ≠ P:=λ b n z=>hPn (z ▸ n)
 have hbP : bm ≠ P:=neP _ (I.bs _ _ b3).2
 have hbG : bm ≠ mainGlobals:=λ q=>by
  obtain ⟨o,es,ep,e,hd,_⟩:=hg
  rw [q,e] at b3'; cases b3'; rw [hd] at b6; cases b6
 have hgP : mainGlobals ≠ P:=by
  obtain ⟨o,es,ep,e,hd,_⟩:=I.ok.mod.glob
  exact neP _ (I.bs _ _ e).2
 rcases T with T | ⟨c',T1,T2⟩
 ·have hP : s.heap.get? P = some (PySem.W.tabObj #[]):=I.hok P _ T
  refine PySem.W.kla_makeFunction (mg:=X.mg) hcl I.ok.glob hg hcode C' hP trivial rfl hgP ⟨bm,ob,b1,b2,hbG,hbP,b3',b4,b5,b6⟩ λ c' ctv h' tk hx hge hlt hrec htb=>?_
  have hfc : H c' = none:=I.hok.fresh hge
  have hcP : c' ≠ P:=neP _ hfc
  have hsz : s.heap.objs.size <= h'.objs.size:=Nat.le_trans hge (Nat.le_of_lt hlt)
  have kp : ∀ b o,b ≠ P -> s.heap.get? b = some o -> (h'.push (PySem.W.kla_obj "<lambda>" (X.env.qual ++ "<lambda>") params body scope clos ((X.mg "__name__").getD .none) c' ctv)).get? b = some o:=λ b o n e=>Heap.get?_push_of_some _ (hx b o n e)
  have hP2 : (upd (upd H P (.tbl #[rawInt pos.line,rawInt pos.col,.ref c'])) c' (codeHO c' (X.env.qual ++ "<lambda>"))) P = some (.tbl #[rawInt pos.line,rawInt pos.col,.ref c']):=by rw [upd_ne hcP.symm,upd_same]
  have sm : SameT P H (upd (upd H P (.tbl #[rawInt pos.line,rawInt pos.col,.ref c'])) c' (codeHO c' (X.env.qual ++ "<lambda>"))):=λ b o n e=>by
   rw [upd_ne (λ z=>by subst z; rw [hfc] at e; cases e),upd_ne n]; exact e
  have hfree : ∀ b,H b = none -> b ≠ c' -> (upd (upd H P (.tbl #[rawInt pos.line,rawInt pos.col,.ref c'])) c' (codeHO c' (X.env.qual ++ "<lambda>"))) b = none:=λ b n nc=>by
   rw [upd_ne nc,upd_ne (neP b n)]; exact n
  have I2 : Inv X pins σ (upd (upd H P (.tbl #[rawInt pos.line,rawInt pos.col,.ref c'])) c' (codeHO c' (X.env.qual ++ "<lambda>"))) { s with heap:=h'.push (PySem.W.kla_obj "<lambda>" (X.env.qual ++ "<lambda>") params body scope clos ((X.mg "__name__").getD .none) c' ctv),toks:=tk }:=by
   refine I.step (g':=s.gens) (d':=s.drawn) (ch:=[]) (λ _ z=>nomatch z) (λ b o _ _ _ e n=>kp b o (neP b n) e) (λ b o _ _ _ e n=>⟨o.slots,kp b o (neP b n) e⟩) (λ b o _ e n=>hfree b n (Nat.ne_of_lt (Nat.lt_of_lt_of_le (Heap.lt_size e) hge))) (λ b o _ e=>?_)
    (λ b xs e=>sm b _ (λ z=>by subst z; rw [T] at e; cases e) e) (λ b o u e=>sm b _ (λ z=>by subst z; rw [T] at e; cases e) e) (λ b ps e=>?_) (λ m hm=>(hm.extBut hx (neP _ I.free)).push _) (λ a o e=>?_) I.bare
   ·by_cases hb : b = P
    ·subst hb; exact ⟨_,Heap.get?_push_of_some _ htb⟩
    ·exact ⟨o,kp b o hb e⟩
   ·by_cases hb : b = P
    ·subst hb
     rw [T] at e; cases e
     exact ⟨#[rawInt pos.line,rawInt pos.col,.ref c'],by rw [Array.empty_append]; exact hP2⟩
    ·exact ⟨#[],by rw [Array.append_empty]; exact sm b _ hb e⟩
   ·by_cases ha : a = c'
    ·subst ha
     rw [upd_same] at e; cases e
     exact codeHO_ok (hrec.push _)
    ·rw [upd_ne ha] at e
     by_cases hb : a = P
     ·subst hb
      rw [upd_same] at e; cases e
      exact Heap.get?_push_of_some _ htb
     ·rw [upd_ne hb] at e
      refine (I.hok a o e).stay (λ b u hb' q=>kp b u ?_ q) (λ b q=>sm b _ (λ z=>by subst z; rw [T] at q; cases q) q) λ b xs q=>sm b _ (λ z=>by subst z; rw [T] at q; cases q) q
      rcases hb' with rfl | q2
      ·exact hb
      ·exact λ z=>by subst z; rw [T] at q2; cases q2
  have hfz : H h'.objs.size = none:=I.hok.fresh hsz
  obtain ⟨f0,f1,f2,_⟩:=I.fpOk (b:=h'.objs.size) hsz hfz
  refine h h'.objs.size c' ctv _ _ (I2.pins_of λ p hp=>?_) hP2 upd_same sm
  rcases List.mem_append.mp hp with z | z
  ·exact I2.pin p (List.mem_append_right _ z)
  ·cases List.mem_singleton.mp z
   exact ⟨Heap.get?_push_size _ rfl,hfree _ hfz (Nat.ne_of_gt hlt),f1,f2,λ v e=>nomatch e⟩
 ·have hP : s.heap.get? P = some (PySem.W.tabObj #[rawInt pos.line,rawInt pos.col,.ref c']):=I.hok P _ T1
  refine PySem.W.kla_makeFunctionHit (mg:=X.mg) (cv:=.ref c') hcl I.ok.glob hg hcode C' hP (by simp [TriplesOk,rawInt]) (by simp [codeAmong,rawInt]) ⟨bm,ob,b1,b2,hbG,hbP,b3',b4,b5,b6⟩ λ ctv h' tk hk hsz=>?_
  have I2 : Inv X pins σ H { s with heap:=h'.push (PySem.W.kla_obj "<lambda>" (X.env.qual ++ "<lambda>") params body scope clos ((X.mg "__name__").getD .none) c' ctv),toks:=tk }:=I.kept (t':=tk) λ b u e=>Heap.get?_push_of_some _ (hk b u e)
  have hfz : H h'.objs.size = none:=I.hok.fresh hsz
  obtain ⟨f0,f1,f2,_⟩:=I.fpOk (b:=h'.objs.size) hsz hfz
  refine h h'.objs.size c' ctv _ _ (I2.pins_of λ p hp=>?_) T1 T2 (λ _ _ _ e=>e)
  rcases List.mem_append.mp hp with z | z
  ·exact I2.pin p (List.mem_append_right _ z)
  ·cases List.mem_singleton.mp z
   exact ⟨Heap.get?_push_size _ rfl,hfz,f1,f2,λ v e=>nomatch e⟩
end
end L2
namespace L2
open PySem PySem.Spec PyProof.Rows
def decT : Value -> List Nat
 | .str x _=>x.cps.toList
 | _=>[]
theorem vals_dec : ∀ {ls : List (List Nat)} {its : List Value},Vals (ls.map vt) its -> its.map decT = ls /\ ∀ u ∈ its,∃ l t,u = .str (tx l) t
 | [],_,r=>by cases r; exact ⟨rfl,λ u h=>nomatch h⟩
 | l :: ls,_,r=>by
   cases r with
   | cons a b =>
     obtain ⟨t,rfl⟩:=a
     obtain ⟨e,k⟩:=vals_dec b
     refine ⟨by rw [List.map_cons,e]; rfl,λ u hu=>?_⟩
     rcases List.mem_cons.mp hu with rfl | hu
     ·exact ⟨l,t,rfl⟩
     ·exact k u hu
theorem vals_of_dec : ∀ {us : List Value},(∀ u ∈ us,∃ l t,u = Value.str (tx l) t) -> Vals ((us.map decT).map vt) us
 | [],_=>.nil
 | u :: us,h=>by
   obtain ⟨l,t,rfl⟩:=h _ (List.mem_cons_self ..)
   exact .cons ⟨t,rfl⟩ (vals_of_dec λ v hv=>h v (List.mem_cons_of_mem _ hv))
theorem valsRefs : ∀ {qs : List Addr} {us : List Value},Vals (qs.map V.ref) us -> us = qs.map Value.ref
 | [],_,r=>by cases r; rfl
 | q :: qs,_,r=>by
   cases r with
   | cons a b=>rw [List.map_cons,← valsRefs b]; cases a; rfl
theorem refsVals (qs : List Addr) : Vals (qs.map V.ref) (qs.map Value.ref):=by
 induction qs with
 | nil=>exact .nil
 | cons q qs ih=>exact .cons rfl ih
section
variable {X : Cx} {pins : List (Addr × Obj)} {σ : St} {H : Hp} {s : Shared}
structure Made (H H2 : Hp) (kS : Addr) (rk : List Nat -> List Nat) (ls : List (List Nat)) (qs : List Addr) (i : Nat) : Prop where
 same : Same H H2
 len : qs.length = i
 st : H2 kS = some (.lst (qs.map V.ref))
 key : ∀ (j : Nat) (q : Addr) (l : List Nat),qs[j]? = some q -> ls[j]? = some l -> H2 q = some (.lst ((rk l).map λ n=>V.int (Int.ofNat n))) /\ q ≠ kS
theorem call_sortK {p f : Addr} {ls : List (List Nat)} {rk : List Nat -> List Nat} {Q : VK} (I : Inv X pins σ H s) (hu : X.A.in1.in1.units < cLine) (hp : SqL X.K H p (ls.map vt)) (hlen : ls.length <= 100000)
 (turn : ∀ (pl : List (Addr × Obj)) (s2 : Shared) (H2 : Hp) (l : List Nat) (u : Value),l ∈ ls -> Inv X.in2 (pins ++ pl) σ H2 s2 -> Same H H2 -> RelV (vt l) u ->
  wpAny (model X.prog X.w) X.A.in1.in1 (call (.ref f) [u]) (EP X.in2 (pins ++ pl) σ (λ v H3=>∃ q,v = .ref q /\ H2 q = none /\ Same H2 H3 /\ H3 q = some (.lst ((rk l).map λ n=>V.int (Int.ofNat n))))) (λ _ _=>False) s2)
 (h : ∀ (r : Addr) (ls' : List (List Nat)) (H' : Hp),ls'.Perm ls -> ls'.Pairwise (λ a b=>¬ rk b < rk a) -> Same H H' -> H r = none -> H' r = some (.lst (ls'.map vt)) -> Q (.ref r) H') :
 wpAny (model X.prog X.w) X.A (call (.builtin "sorted") [.ref p] [(Str.ofString "key",.ref f)]) (EP X pins σ Q) X.xe s:=by
 obtain ⟨its,rv,pl,hz⟩:=I.list hp
 have hl:=pl.isList
 obtain ⟨hdec,hstr⟩:=vals_dec rv
 have hil : its.length = ls.length:=by have:=rv.length; rw [List.length_map] at this; omega
 have sz:=sizeLine_eq
 refine call_function_entry_kw kind_sorted plain_sorted entry_sorted (ksk_s1 _ _) ?_
 unfold Builtin.«sorted»
 refine wpAny_bind (m:=checkCount "sorted" 1 1 _) (wpAny_pure ?_)
 refine wpAny_bind (collect_list hl ?_ (by omega))
 refine wpAny_bind (wpAny_newList ?_ (by omega))
 have hsz : ((s.heap.push (seqObj "list" #[] 0)).update s.heap.objs.size (Obj.mapSeq (· ++ its.toArray))).objs.size = s.heap.objs.size + 1:=by
  rw [Heap.size_update,size_push']
 have hoL : (((s.heap.push (seqObj "list" #[] 0)).update s.heap.objs.size (Obj.mapSeq (· ++ its.toArray))).push (seqObj "list" its.toArray 0)).get? (s.heap.objs.size + 1) = some (seqObj "list" its.toArray 0):=by
  rw [← hsz]; exact Heap.get?_push_size _ rfl
 have keep : ∀ b o,s.heap.get? b = some o -> (((s.heap.push (seqObj "list" #[] 0)).update s.heap.objs.size (Obj.mapSeq (· ++ its.toArray))).push (seqObj "list" its.toArray 0)).get? b = some o:=λ b o q=>by
  have hlt : b < s.heap.objs.size:=Heap.lt_size q
  rw [Heap.get?_push_ne _ _ _ (by rw [hsz]; exact Nat.ne_of_lt (Nat.lt_succ_of_lt hlt)),Heap.get?_update_ne _ _ _ _ (Nat.ne_of_lt hlt),Heap.get?_push_ne _ _ _ (Nat.ne_of_lt hlt)]
  exact q
 show wpAny _ _ _ _ _ { s with heap:=((s.heap.push (seqObj "list" #[] 0)).update s.heap.objs.size (Obj.mapSeq (· ++ its.toArray))).push (seqObj "list" its.toArray 0) }
 rw [hsz]
 have hsz2 : (((s.heap.push (seqObj "list" #[] 0)).update s.heap.objs.size (Obj.mapSeq (· ++ its.toArray))).push (seqObj "list" its.toArray 0)).objs.size = s.heap.objs.size + 2:=by rw [size_push',hsz]
 generalize (((s.heap.push (seqObj "list" #[] 0)).update s.heap.objs.size (Obj.mapSeq (· ++ its.toArray))).push (seqObj "list" its.toArray 0)) = g at hoL keep hsz2 ⊢
 refine wpAny_bind (wpAny_holding (wpAny_call_entry_kw slot_list_sort ⟨_,hoL,rfl⟩ entry_list_sort ?body (ksk_l1 _ _)))
 show wpAny (model X.prog X.w) X.A.in1.in1 (Builtin.«list.sort» ⟨[.ref (s.heap.objs.size + 1)],[(Str.ofString "key",.ref f)]⟩) _ _ _
 rw [ksk_t1]
 have haz : s.heap.objs.size <= s.heap.objs.size + 1:=Nat.le_succ _
 generalize s.heap.objs.size + 1 = a at hoL haz ⊢
 have haL : a < g.objs.size:=Heap.lt_size hoL
 obtain ⟨e1,ho1⟩ : ∃ e1,(g.update a (Obj.mapSeq λ _=>(#[] : Array Value))).get? a = some (seqObj "list" #[] e1):=⟨_,get?_update_seq hoL λ _=>#[]⟩
 have keep1 : ∀ b o,s.heap.get? b = some o -> (g.update a (Obj.mapSeq λ _=>(#[] : Array Value))).get? b = some o:=λ b o q =>
  (Heap.get?_update_ne _ _ _ _ (Nat.ne_of_lt (Nat.lt_of_lt_of_le (Heap.lt_size q) haz))).trans (keep b o q)
 unfold PyProof.Rows.ksk_tree
 refine wpAny_bind (listItems_at hoL rfl ?_)
 refine wpAny_bind (listUpdate_at hoL rfl ?_ (by rw [List.size_toArray]; omega) (Nat.zero_le _))
 refine wpAny_bind (seqEpoch_at ho1 rfl ?_)
 refine wpAny_bind (wpAny_newTuple ?_ (by show its.length <= _; omega))
 refine wpAny_bind (wpAny_newList ?_ (Nat.zero_le _))
 refine wpAny_holding ?_
 show wpAny (model X.prog X.w) X.A.in1.in1 _ _ _ { s with heap:=((g.update a (Obj.mapSeq λ _=>(#[] : Array Value))).push (seqObj "tuple" its.toArray 0)).push (seqObj "list" #[] 0) }
 have hkz : s.heap.objs.size + 2 <= ((g.update a (Obj.mapSeq λ _=>(#[] : Array Value))).push (seqObj "tuple" its.toArray 0)).objs.size:=by rw [size_push',Heap.size_update,hsz2]; omega
 have hka : a < ((g.update a (Obj.mapSeq λ _=>(#[] : Array Value))).push (seqObj "tuple" its.toArray 0)).objs.size:=by rw [size_push',Heap.size_update]; omega
 have hoK : (((g.update a (Obj.mapSeq λ _=>(#[] : Array Value))).push (seqObj "tuple" its.toArray 0)).push (seqObj "list" #[] 0)).get? ((g.update a (Obj.mapSeq λ _=>(#[] : Array Value))).push (seqObj "tuple" its.toArray 0)).objs.size = some (seqObj "list" #[] 0):=Heap.get?_push_size _ rfl
 have hoA : (((g.update a (Obj.mapSeq λ _=>(#[] : Array Value))).push (seqObj "tuple" its.toArray 0)).push (seqObj "list" #[] 0)).get? a = some (seqObj "list" #[] e1):=Heap.get?_push_of_some _ (Heap.get?_push_of_some _ ho1)
 have keep2 : ∀ b o,s.heap.get? b = some o -> (((g.update a (Obj.mapSeq λ _=>(#[] : Array Value))).push (seqObj "tuple" its.toArray 0)).push (seqObj "list" #[] 0)).get? b = some o:=λ b o q=>Heap.get?_push_of_some _ (Heap.get?_push_of_some _ (keep1 b o q))
 generalize ((g.update a (Obj.mapSeq λ _=>(#[] : Array Value))).push (seqObj "tuple" its.toArray 0)).objs.size = kS at hkz hka hoK ⊢
 generalize (((g.update a (Obj.mapSeq λ _=>(#[] : Array Value))).push (seqObj "tuple" its.toArray 0)).push (seqObj "list" #[] 0)) = g2 at hoK hoA keep2 ⊢
 have hkS0 : s.heap.objs.size <= kS:=by omega
 have fa:=I.fpOk (b:=a) haz (I.hok.fresh haz)
 have I2 : Inv X.in2 (pins ++ [(a,seqObj "list" #[] e1)]) σ (upd H kS (.lst ([].map V.ref))) { s with heap:=g2 }:=by
  have I1 : Inv X pins σ (upd H kS (.lst ([].map V.ref))) { s with heap:=g2 }:=I.laid (t':=s.toks) keep2 hkS0 ⟨Nat.zero_le _,[],0,.nil,hoK⟩
  refine (I1.pins_of λ q hq=>?_).in2
  rcases List.mem_append.mp hq with z | z
  ·exact I1.pin q (List.mem_append_right _ z)
  ·cases List.mem_singleton.mp z
   refine ⟨hoA,?_,fa.2.1,fa.2.2.1,λ v e=>nomatch e⟩
   rw [upd_ne (Nat.ne_of_lt hka)]
   exact fa.1
 have hnk : H kS = none:=I.hok.fresh hkS0
 unfold PyProof.Rows.ksk_rest
 refine wpAny_bind (wpAny_rule ?_)
 rw [List.forIn_toArray]
 refine wpAny_bind (ksk_fold (λ i s'=>∃ H2 qs,Inv X.in2 (pins ++ [(a,seqObj "list" #[] e1)]) σ H2 s' /\ Made H H2 kS rk ls qs i) its 0 _ ⟨_,[],I2,⟨same_new hnk _,rfl,upd_same,λ j q l e=>by cases e⟩⟩ ?step ?done)
 case step =>
  rintro j x s' hx ⟨H2,qs,J,M⟩
  simp only [Nat.zero_add] at M ⊢
  have hj : j < its.length:=(List.getElem?_eq_some_iff.mp hx).1
  have hjl : j < ls.length:=by omega
  obtain ⟨u,hu',ru⟩:=rv.get (show (ls.map vt)[j]? = some (vt ls[j]) by rw [List.getElem?_map,List.getElem?_eq_getElem hjl]; rfl)
  rw [hx] at hu'; cases hu'
  refine wpAny_bind (wpAny_attempt (wpAny_mono (turn _ s' H2 ls[j] x (List.getElem_mem _) J M.same ru) (λ v s'' he=>?_) λ _ _ hF=>hF.elim))
  obtain ⟨v',H3,J3,r3,q,rfl,hq,sm,hk3⟩:=he
  cases r3
  have hS3:=sm _ _ M.st
  obtain ⟨hz3,its3,n3,r33,e33⟩:=J3.hok kS _ hS3
  have e3:=valsRefs r33
  have hqk : q ≠ kS:=λ z=>by rw [z,M.st] at hq; cases hq
  subst e3
  try dsimp only
  have hql:=M.len
  refine wpAny_bind (listUpdate_at e33 rfl ?_ (by rw [List.size_toArray,List.length_map]; omega) (by rw [Array.size_push,List.size_toArray,List.length_map]; omega))
  obtain ⟨c2,hc2⟩ : ∃ c2,(s''.heap.update kS (Obj.mapSeq (·.push (.ref q)))).get? kS = some (seqObj "list" ((qs.map Value.ref).toArray.push (.ref q)) c2):=⟨_,get?_update_seq e33 (·.push (.ref q))⟩
  have J4 : Inv X.in2 (pins ++ [(a,seqObj "list" #[] e1)]) σ (upd H3 kS (.lst ((qs ++ [q]).map V.ref))) { s'' with heap:=s''.heap.update kS (Obj.mapSeq (·.push (.ref q))) }:=by
   refine J3.write (t':=s''.toks) (by rw [hS3]; trivial) (.inl rfl) (λ b u hb e=>(Heap.get?_update_ne _ _ _ _ hb).trans e) ⟨_,hc2⟩ ⟨by rw [List.length_map,List.length_append]; simp only [List.length_cons,List.length_nil]; omega,(qs ++ [q]).map Value.ref,c2,refsVals _,?_⟩
   rw [hc2,List.map_append]
   simp [seqObj]
  refine wpAny_pure ⟨rfl,_,qs ++ [q],J4,⟨λ b o e=>?_,by rw [List.length_append,hql]; rfl,upd_same,λ i q' l e1 e2=>?_⟩⟩
  ·have:=sm _ _ (M.same b o e)
   rw [upd_ne (λ z=>by subst z; rw [hnk] at e; cases e)]
   exact this
  ·rcases Nat.lt_or_ge i qs.length with z | z
   ·rw [List.getElem?_append_left z] at e1
    obtain ⟨k1,k2⟩:=M.key i q' l e1 e2
    rw [upd_ne k2]
    exact ⟨sm _ _ k1,k2⟩
   ·rw [List.getElem?_append_right z] at e1
    have hi : i - qs.length = 0:=by
     rcases Nat.eq_zero_or_pos (i - qs.length) with z' | z'
     ·exact z'
     ·obtain ⟨m,hm⟩ : ∃ m,i - qs.length = m + 1:=⟨i - qs.length - 1,by omega⟩
      rw [hm] at e1; cases e1
    rw [hi] at e1; cases e1
    have hij : i = j:=by omega
    subst hij
    rw [List.getElem?_eq_getElem hjl] at e2; cases e2
    rw [upd_ne hqk]
    exact ⟨hk3,hqk⟩
 case done =>
  rintro s' ⟨H2,qs,J,M⟩
  rw [Nat.zero_add] at M
  have hql:=M.len
  obtain ⟨hz3,its3,n3,r33,e33⟩:=J.hok kS _ M.st
  have e3:=valsRefs r33
  subst e3
  refine wpAny_bind (listItems_at e33 rfl ?_)
  have hpa:=(J.pin (a,seqObj "list" #[] e1) (List.mem_append_right _ (List.mem_append_right _ (List.mem_singleton.mpr rfl))))
  refine sort_endL (rk:=ls.map rk) hu hpa.1 e33 (Nat.ne_of_gt hka) (λ i v hv=>?_) (by rw [List.size_toArray,List.length_map]; omega) (by rw [List.length_map]; omega) (by omega) λ ps hp1 hp2=>⟨_,rfl,?_⟩
  ·have hi : i < qs.length:=by
    rcases Nat.lt_or_ge i qs.length with z | z
    ·exact z
    ·rw [List.getElem?_toArray,List.getElem?_eq_none (by rw [List.length_map]; exact z)] at hv; cases hv
   rw [List.getElem?_toArray,List.getElem?_map,List.getElem?_eq_getElem hi] at hv
   cases hv
   have hil' : i < ls.length:=by omega
   obtain ⟨k1,_⟩:=M.key i qs[i] ls[i] (List.getElem?_eq_getElem hi) (List.getElem?_eq_getElem hil')
   obtain ⟨_,its4,n4,r4,e4⟩:=J.hok _ _ k1
   refine ⟨rk ls[i],by rw [List.getElem?_map,List.getElem?_eq_getElem hil']; rfl,qs[i],its4,n4,rfl,e4,?_⟩
   have:=intsAre_of (ns:=(rk ls[i]).map Int.ofNat) (us:=its4) (by rw [List.map_map]; exact r4)
   exact this
  ·refine wpAny_pure ⟨_,rfl,?_⟩
   have hrel : ∀ p ∈ (ls.map rk).zip its,p.1 = rk (decT p.2) /\ p.2 ∈ its:=by
    rw [← hdec,List.map_map,List.zip_map_left]
    intro p hp
    obtain ⟨⟨u,v⟩,hq,rfl⟩:=List.mem_map.mp hp
    have h1 : u = v /\ u ∈ its:=mem_zip_self hq
    exact ⟨by show rk (decT u) = rk (decT v); rw [h1.1],by show v ∈ its; rw [← h1.1]; exact h1.2⟩
   have hout : ∀ u ∈ ps.map Prod.snd,∃ l t,u = Value.str (tx l) t:=λ u hu=>by
    obtain ⟨p,hp',rfl⟩:=List.mem_map.mp hu
    exact hstr _ (hrel p (hp1.mem_iff.mp hp')).2
   have hperm : ((ps.map Prod.snd).map decT).Perm ls:=by
    have h1:=(hp1.map Prod.snd).map decT
    rw [List.map_snd_zip (by rw [List.length_map]; omega),hdec] at h1
    exact h1
   have hord : ((ps.map Prod.snd).map decT).Pairwise (λ a b=>¬ rk b < rk a):=by
    rw [List.pairwise_map,List.pairwise_map]
    refine hp2.imp_of_mem λ {p q} hp' hq' hr=>?_
    rw [(hrel p (hp1.mem_iff.mp hp')).1,(hrel q (hp1.mem_iff.mp hq')).1] at hr
    exact hr
   have hol : (ps.map Prod.snd).length = ls.length:=by have:=hperm.length_eq; rw [List.length_map] at this; exact this
   obtain ⟨c2,hc2⟩ : ∃ c2,(s'.heap.update kS (Obj.mapSeq λ _=>(#[] : Array Value))).get? kS = some (seqObj "list" #[] c2):=⟨_,get?_update_seq e33 λ _=>#[]⟩
   have J5 : Inv X.in2 (pins ++ [(a,seqObj "list" #[] e1)]) σ (upd H2 kS (.lst [])) { s' with heap:=s'.heap.update kS (Obj.mapSeq λ _=>(#[] : Array Value)) } :=
    J.write (t':=s'.toks) (by rw [M.st]; trivial) (.inl rfl) (λ b u hb e=>(Heap.get?_update_ne _ _ _ _ hb).trans e) ⟨_,hc2⟩ ⟨Nat.zero_le _,[],c2,.nil,hc2⟩
   have haK : a ≠ kS:=Nat.ne_of_lt hka
   have na1 : (s'.heap.update kS (Obj.mapSeq λ _=>(#[] : Array Value))).get? a = some (seqObj "list" #[] e1):=(Heap.get?_update_ne _ _ _ _ haK).trans hpa.1
   obtain ⟨c3,hc3⟩ : ∃ c3,((s'.heap.update kS (Obj.mapSeq λ _=>(#[] : Array Value))).update a (Obj.mapSeq λ _=>(ps.map Prod.snd).toArray)).get? a = some (seqObj "list" (ps.map Prod.snd).toArray c3):=⟨_,get?_update_seq na1 λ _=>(ps.map Prod.snd).toArray⟩
   have hfa : (upd H2 kS (.lst [])) a = none:=by rw [upd_ne haK]; exact hpa.2.1
   have J6 : Inv X pins σ (upd H2 kS (.lst [])) { s' with heap:=(s'.heap.update kS (Obj.mapSeq λ _=>(#[] : Array Value))).update a (Obj.mapSeq λ _=>(ps.map Prod.snd).toArray) } :=
    (J5.unpinned.out2).turned (t':=s'.toks) (λ b o hb e=>(Heap.get?_update_ne _ _ _ _ hb).trans e) hfa fa.2.1 fa.2.2.2.1 fa.2.2.2.2.1 fa.2.2.2.2.2
   have J7:=J6.adopt (a:=a) (o:=.lst (((ps.map Prod.snd).map decT).map vt)) hfa (by
    cases q : X.s₀.heap.get? a with
    | none=>rfl
    | some o=>exact absurd (Nat.lt_of_lt_of_le (Heap.lt_size q) (Nat.le_trans I.sz haz)) (Nat.lt_irrefl _)) fa.2.1.symm fa.2.2.2.2.1 fa.2.2.2.2.2 ⟨by rw [List.length_map,List.length_map]; omega,_,c3,vals_of_dec hout,hc3⟩
   refine ⟨.ref a,_,J7,rfl,h a _ _ hperm hord (λ b o e=>?_) fa.1 upd_same⟩
   rw [upd_ne (λ z=>by subst z; rw [fa.1] at e; cases e),upd_ne (λ z=>by subst z; rw [hnk] at e; cases e)]
   exact M.same b o e
end
end L2
namespace L2
open PySem PySem.Spec PyProof.Rows
def tSortK (K : PySem.W.Frag) (P : Addr) (lpos : Pos) (qual : Str) (i0 : Nat) (rk : List Nat -> List Nat) (te : TA) (tb : TE) : TE:=λ σ H Q=>te σ H λ xs H1=>∃ (p : Addr) (ls : List (List Nat)) (vy : V),xs = [.ref p] /\ SqL K H1 p (ls.map vt) /\ ls.length <= 100000 /\ TB P lpos qual H1 /\ σ[i0]? = some (some vy) /\
 (∀ l ∈ ls,∀ H2,SameT P H1 H2 -> tb [some (vt l),some vy] H2 (λ v H3=>∃ q,v = .ref q /\ H2 q = none /\ Same H2 H3 /\ H3 q = some (.lst ((rk l).map λ n=>V.int (Int.ofNat n))))) /\
 ∀ (r : Addr) (ls' : List (List Nat)) (H' : Hp),ls'.Perm ls -> ls'.Pairwise (λ a b=>¬ rk b < rk a) -> SameT P H1 H' -> H1 r = none -> H' r = some (.lst (ls'.map vt)) -> TB P lpos qual H' -> Q (.ref r) H'
theorem SqL.sameT {K : PySem.W.Frag} {P p : Addr} {H H' : Hp} {xs : List V} (h : SqL K H p xs) (hP : ∃ ps,H P = some (.tbl ps)) (s : SameT P H H') : SqL K H' p xs:=by
 obtain ⟨ps,hP⟩:=hP
 rcases h with (h | ⟨o,h⟩) | h
 ·exact .inl (.inl (s _ _ (λ z=>by subst z; rw [hP] at h; cases h) h))
 ·exact .inl (.inr ⟨o,s _ _ (λ z=>by subst z; rw [hP] at h; cases h) h⟩)
 ·exact .inr h
theorem TB.tbl {P : Addr} {pos : Pos} {qual : Str} {H : Hp} (t : TB P pos qual H) : ∃ ps,H P = some (.tbl ps):=by
 rcases t with t | ⟨c',t,_⟩
 ·exact ⟨_,t⟩
 ·exact ⟨_,t⟩
section
variable {X : Cx}
theorem pe_sortK {x y : Str} {params : Arguments} {body : Expr} {scope : Scope} {lpos p pos kpos : Pos} {e : Expr} {te : TA} {tb : TE} {c P : Addr} {i0 : Nat} {rk : List Nat -> List Nat}
 (hu : X.A.in1.in1.units < cLine) (hdp : X.A.in1.in1.depth < recursionLimit) (hc : X.calm = true) (hg : Gl X "sorted") (hm : X.mg "sorted" = none) (ha : PA X [e] te)
 (hdef : defaultsOf params X.env = ([],[])) (hcl : ∀ cc,X.env.cells.lookup y = some cc -> closureFor scope X.env = pure [(y,cc)])
 (hN : X.N[i0]? = some y) (hky : X.env.kindOf y = some .cell) (hcode : X.env.code = .ref c) (C : PySem.W.CodeHd X.base c P) (hB : BM X.mg X.base)
 (hk : scope.kind = .function) (hco : scope.isCoroutine = false) (hgen : scope.isGenerator = false) (hxl : scope.names.lookup x = some .local) (hyf : scope.names.lookup y = some .free) (hnc : ∀ z ∈ scope.names,z.2 ≠ .cell)
 (hof : ∀ z,scope.names.lookup z = some .free -> z = y) (hxy : x ≠ y)
 (hbind : ∀ cl pm cd ct u,bindArgs (PySem.W.kla_fn "<lambda>" (X.env.qual ++ "<lambda>") params body scope cl pm cd ct) ⟨[u],[]⟩ = pure [(x,u)])
 (hb : ∀ f c' cl s H,PE (cxLam X.in2 [x,y] (X.env.qual ++ "<lambda>") scope f (.ref c') cl s H) body tb)
 (he : backTo pos (starEach [e] X.env) = (false,eval e X.env) :: backTo pos (starEach [] X.env):=by rfl) (hpl : (backTo pos (starEach [e] X.env)).any (·.1) = false:=by rfl) :
 PE X (.Call (.Name "sorted" p) [e] [⟨some "key",.Lambda params body scope lpos,kpos⟩] pos) (tSortK X.K P lpos (X.env.qual ++ "<lambda>") i0 rk te tb):=by
 intro pins s σ H Q I h
 refine wpAny_Call_Name_kw (ld_blt I hg hm (u:=.builtin "sorted") rfl ?_)
 refine callWith_kw (thn (ha pos pins s σ H _ I h) λ us s1 ⟨vs,H1,I1,r1,q1⟩=>?_) he hpl
 obtain ⟨p0,ls,vy,rfl,hp,hlen,T,hy,turn,fin⟩:=q1
 obtain ⟨u,rfl,ru⟩:=vals1 r1
 cases (show u = Value.ref p0 from ru)
 show wpAny _ _ (evalAll ((do let v ← eval (.Lambda params body scope lpos) X.env; standAt pos; pure v) :: [])) _ _ s1
 obtain ⟨cc,hcc⟩:=I1.ok.has y (.inl hky)
 refine wpAny_evalAll_cons (wpAny_bind (lam_make I1 hdef (hcl cc hcc) hcode C hB T λ f c' ctv H2 s2 J hT1 hT2 sm=>wpAny_bind (wpAny_standAt (wpAny_pure (wpAny_evalAll_nil ?_)))))
 show wpAny _ _ (call (.builtin "sorted") [.ref p0] [(Str.ofString "key",.ref f)]) _ _ s2
 have T2 : TB P lpos (X.env.qual ++ "<lambda>") H2:=.inr ⟨c',hT1,hT2⟩
 refine thn (call_sortK (rk:=rk) (Q:=Q) J hu (hp.sameT T.tbl sm) hlen (λ pl s3 H3 l u hl J3 sm3 ru=>?_) λ r ls' H' a1 a2 a3 a4 a5=>?_) λ v s' ⟨v',H',J',r',q'⟩=>⟨v',H',J'.unpinned,r',q'⟩
 ·have hf:=(J3.pin (f,_) (List.mem_append_right _ (List.mem_append_left _ (List.mem_append_right _ (List.mem_singleton.mpr rfl))))).1
  obtain ⟨m,_,hloc⟩:=J3.loc
  obtain ⟨uy,ry,hlk⟩:=hloc i0 y vy hN hy (.inr (.inl hky))
  have hcell : s3.heap.IsCell cc (some uy):=by
   rcases hlk with ⟨z,_⟩ | ⟨_,c2,z1,z2⟩
   ·rw [show X.in2.env.kindOf y = some .cell from hky] at z; cases z
   ·rw [show X.in2.env.cells.lookup y = some cc from hcc] at z1; cases z1; exact z2
  refine lam_call (X:=X.in2) (x:=x) (y:=y) (vy:=vy) (te:=tb) J3 hc hdp hf ?_ hk hco hgen hxl hyf hnc hof hxy (hbind _ _ _ _ _) hcell (J3.freeC y cc hcc) ru ry (hb _ _ _ _ _) (turn l hl H3 (sm.trans (.of sm3)))
  exact (J3.hok c' _ (sm3 _ _ hT2)).1
 ·refine fin r ls' H' a1 a2 (sm.trans (.of a3)) ?_ a5 (T2.same a3)
  cases q : H1 r with
  | none=>rfl
  | some o =>
    by_cases hr : r = P
    ·subst hr; rw [hT1] at a4; cases a4
    ·rw [sm _ _ hr q] at a4; cases a4
end
end L2
namespace L2
open PySem PySem.Spec PyProof.Rows
theorem vals_pt : ∀ {xs : List V} {us : List Value},us.length = xs.length -> (∀ (j : Nat) (u : Value),us[j]? = some u -> ∃ v,xs[j]? = some v /\ RelV v u) -> Vals xs us
 | [],[],_,_=>.nil
 | x :: xs,u :: us,hl,h=>by
   obtain ⟨v,e,r⟩:=h 0 u rfl
   cases (Option.some.inj e)
   exact .cons r (vals_pt (by simpa using hl) λ j u hu=>h (j + 1) u hu)
 | [],_ :: _,hl,_=>by simp at hl
 | _ :: _,[],hl,_=>by simp at hl
theorem kv_at : ∀ {kvs : List (Key × V)} {vs : List (Key × Value)},KV kvs vs -> ∀ (j : Nat) (k : Key) (x : Value),vs[j]? = some (k,x) -> ∃ y,kvs[j]? = some (k,y)
 | kvs,[],h,j,k,x,e=>by cases e
 | kvs,(c,d) :: vs,h,j,k,x,e=>by
   cases h with
   | @cons p q _ _ hq ht =>
     cases j with
     | zero =>
       obtain ⟨a,b⟩:=p
       cases e
       have hk : a = c:=hq.1
       exact ⟨b,by rw [← hk]; rfl⟩
     | succ j=>exact kv_at ht j k x e
section
variable {X : Cx}
theorem callListD (hc : X.calm = true) : CallR X (.type "list") (λ xs H Q=>∃ p kvs,xs = [.ref p] /\ H p = some (.dK kvs) /\ ∀ l,H l = none -> Q (.ref l) (upd H l (.lst (kvs.map λ p=>kV p.1)))):=by
 intro pins s σ H xs us Q I r h
 obtain ⟨p,kvs,rfl,e,q⟩:=h
 obtain ⟨u,rfl,ru⟩:=vals1 r
 cases ru
 obtain ⟨hl,lo,vs,hkv,hD⟩:=dk_of I.hok e
 obtain ⟨ep,hat⟩:=hD.dictAt
 have hlen : kvs.length = vs.length:=Paired.length hkv
 refine PySem.W.kdl_call (PySem.W.kdl_dict (knd:=mixKind X.prog X.w) (kvs:=vs) (ep:=ep) lo) (I.ok.hd hc) hat (by omega) λ h' tk acc' c' hk hD' hacc=>?_
 refine ⟨.ref s.heap.objs.size,_,I.laid (t':=tk) (o:=.lst (kvs.map λ p=>kV p.1)) hk (Nat.le_refl _) ⟨by rw [List.length_map]; exact hl,acc'.toList,c',?_,by simpa using hD'⟩,rfl,q _ (I.hok.fresh (Nat.le_refl _))⟩
 refine vals_pt (by rw [Array.length_toList,List.length_map,hacc.1,hlen]) λ j u hu=>?_
 obtain ⟨k,x,hx,hku⟩:=hacc.2 j u (by rw [← Array.getElem?_toList]; exact hu)
 obtain ⟨y,hy⟩:=kv_at hkv j k x hx
 exact ⟨kV k,by rw [List.getElem?_map,hy]; rfl,keyIs_rel hku⟩
end
structure TabX (K : PySem.W.Frag) (mg : Str -> Option Value) (base : Heap) (x : Str) (c T : Addr) : Prop where
 kin : K.In base
 ns : base.Ns mainGlobals mg
 tab : PySem.W.tabIn K x = some (c,T)
 hd : PySem.W.CodeHd base c T
 bm : BM mg base
theorem TabX.code {K : PySem.W.Frag} {mg : Str -> Option Value} {base : Heap} {x x' qual : Str} {c T f : Addr} {st : Stmt} {fd : FuncData} (X : TabX K mg base x c T) (hm : mg x = some (.ref f)) (F : Fun K x' qual st f fd) : fd.code = .ref c:=by
 obtain ⟨oc,od,kV,doc,pm,an,cdv,ct,osl,e,lk,hcd⟩:=F.ex
 exact PySem.W.law_code X.kin X.ns X.tab hm (X.kin _ _ lk) rfl
section
variable {P : Program} {w : World} {K : PySem.W.Frag} {mg : Str -> Option Value} {base : Heap}
theorem Fun.okc {x qual : Str} {st : Stmt} {f : Addr} {fd : FuncData} {N ps : List Str} {k : Nat} {sp : Sp} (F : Fun K x qual st f fd) (S : FnScope N ps (defScope st)) (len : ∀ vs H Q E,sp vs H Q E -> vs.length = ps.length)
 (hbody : ∀ (cdv : Value) (A : Around) (outer : List Env) (s : Shared) (H : Hp) (vs : List V) (Q : VK) (E : XK),fd.code = cdv -> Room k (A.deeper (envOfC qual (defScope st) s.heap.objs.size f cdv)) -> sp vs H Q E ->
  ∃ t,PSs (cxOf (CX1 P w) P w K mg base N qual (defScope st) f cdv A outer s H E).nox (defBody st) t /\ t { nx:=λ _ H'=>Q .non H',rt:=Q } (start N vs) H) : FnOk P w K mg base (CX1 P w) (k + 1) f fd ps sp:=by
 obtain ⟨oc,od,kV,doc,pm,an,cdv,ct,osl,rfl,lk,hcd⟩:=F.ex
 refine fn_of lk hcd S len λ A outer s H vs Q E hr hsp=>?_
 obtain ⟨t,h,q⟩:=hbody cdv A outer s H vs Q E rfl hr hsp
 exact ⟨t,h.nox,q⟩
end
end L2
namespace PyProof.Rows
open PySem PySem.Calls
section
variable {prog : Program} {w : World} {A : Around} {E : Value -> Shared -> Prop} {s : Shared}
theorem collect_dict {K : Type} [DecidableEq K] {knd : PySem.KeyKind prog w K} {d : Addr} {kvs : List (K × Value)} {ep : Nat} {Q : List Value -> Shared -> Prop} (lo : (d == sysModules) = false) (hh : A.handled = none) (hm : s.heap.DictAt knd d kvs ep) (hn : kvs.length <= sizeLine)
 (h : ∀ (h' : Heap) (tk : Tok) (acc : Array Value),(∀ b o,s.heap.get? b = some o -> h'.get? b = some o) -> s.heap.objs.size <= h'.objs.size -> ItemsOf (λ i v=>∃ k x,kvs[i]? = some (k,x) /\ knd.is k v = true) acc kvs.length -> Q acc.toList { s with heap:=h',toks:=tk }) :
 wpAny (model prog w) A (collect (.ref d)) Q E s:=by
 unfold collect
 refine wpAny_bind (wpAny_runValue (codeAny_builtin entry_proto_collect' ?_))
 show wpAny _ _ (do again (.builtin "list.__iadd__" ⟨[← newList [],.ref d],[]⟩)) _ _ s
 refine wpAny_bind (wpAny_newList (wpAny_pure ⟨Code.quiet_builtin _ (by decide +kernel),codeAny_builtin entry_list_iadd' ?_⟩))
 show wpAny _ _ (Builtin.List.listExtendWith (.ref s.heap.objs.size) (.ref d) (.ref s.heap.objs.size)) _ _ { s with heap:=s.heap.push (seqObj "list" #[] 0) }
 have hS : (s.heap.push (seqObj "list" #[] 0)).get? s.heap.objs.size = some (seqObj "list" #[] 0):=Heap.get?_push_size _ rfl
 rw [Around.under_plainId (by decide +kernel)]
 have tail : ∀ (h' : Heap) (tk : Tok) (acc' : Array Value) (c' : Nat),(∀ b o,b ≠ s.heap.objs.size -> (s.heap.push (seqObj "list" #[] 0)).get? b = some o -> h'.get? b = some o) -> h'.get? s.heap.objs.size = some { cls:=.type "list",dict:=none,data:=.seq acc' c',slots:=#[] } -> ItemsOf (λ i v=>∃ k x,kvs[i]? = some (k,x) /\ knd.is k v = true) acc' kvs.length -> wpAny (model prog w) A (do
  let o ← load s.heap.objs.size
  match o.data with
  | .seq xs _=>pure xs.toList
  | _=>unsupported "internal:collect") Q E { s with heap:=h',toks:=tk }:=λ h' tk acc' c' hk hS' hacc=>by
  refine wpAny_bind (wpAny_load hS' ?_)
  show wpAny _ _ (pure acc'.toList) Q E _
  exact wpAny_pure (h h' tk acc' (λ b o e=>hk b o (Nat.ne_of_lt (Heap.lt_size e)) (Heap.get?_push_of_some _ e)) (Nat.le_of_lt (Heap.lt_size hS')) hacc)
 refine wpAny_mono (PySem.W.kdl_extend (R:=λ r s'=>r = .ok (.ret (.ref s.heap.objs.size)) /\ ∃ (h' : Heap) (tk : Tok) (acc' : Array Value) (c' : Nat),s' = { s with heap:=h',toks:=tk } /\ (∀ b o,b ≠ s.heap.objs.size -> (s.heap.push (seqObj "list" #[] 0)).get? b = some o -> h'.get? b = some o) /\ h'.get? s.heap.objs.size = some { cls:=.type "list",dict:=none,data:=.seq acc' c',slots:=#[] } /\ ItemsOf (λ i v=>∃ k x,kvs[i]? = some (k,x) /\ knd.is k v = true) acc' kvs.length) (s:={ s with heap:=s.heap.push (seqObj "list" #[] 0) }) (PySem.W.kdl_dict (knd:=knd) (kvs:=kvs) (ep:=ep) lo) hh (hm.push _) _ (Nat.ne_of_gt hm.lt_size) (Nat.ne_of_gt hm.lt_size) _ 0 hS (λ h' tk acc' c' hk hS' hacc=>⟨rfl,h',tk,acc',c',rfl,hk,hS',hacc⟩) hn) (λ fin s' hf=>?_) (λ e s' he=>by cases he.1)
 cases fin with
 | done f =>
   obtain ⟨e,h',tk,acc',c',rfl,hk,hS',hacc⟩:=hf
   cases e
   exact tail h' tk acc' c' hk hS' hacc
 | again c =>
   obtain ⟨q,hc⟩:=hf
   refine ⟨q,codeAny_mono hc λ r s' hr=>?_⟩
   obtain ⟨e,h',tk,acc',c',rfl,hk,hS',hacc⟩:=hr
   cases e
   exact tail h' tk acc' c' hk hS' hacc
end
end PyProof.Rows
namespace L2
open PySem PySem.Spec PyProof.Rows
section
variable {X : Cx} {pins : List (Addr × Obj)} {σ : St} {H : Hp} {s : Shared}
theorem call_sortG {p f : Addr} {ls : List (List Nat)} {rk : List Nat -> List Nat} {Q : VK} (I : Inv X pins σ H s) (hu : X.A.in1.in1.units < cLine) (hcol : ∀ Q' : List Value -> Shared -> Prop,(∀ (h' : Heap) (tk : Tok) (its : List Value),(∀ b o,s.heap.get? b = some o -> h'.get? b = some o) -> s.heap.objs.size <= h'.objs.size -> Vals (ls.map vt) its -> Q' its { s with heap:=h',toks:=tk }) -> wpAny (model X.prog X.w) X.A.in1 (collect (.ref p)) Q' X.xe s) (hlen : ls.length <= 100000)
 (turn : ∀ (pl : List (Addr × Obj)) (s2 : Shared) (H2 : Hp) (l : List Nat) (u : Value),l ∈ ls -> Inv X.in2 (pins ++ pl) σ H2 s2 -> Same H H2 -> RelV (vt l) u ->
  wpAny (model X.prog X.w) X.A.in1.in1 (call (.ref f) [u]) (EP X.in2 (pins ++ pl) σ (λ v H3=>∃ q,v = .ref q /\ H2 q = none /\ Same H2 H3 /\ H3 q = some (.lst ((rk l).map λ n=>V.int (Int.ofNat n))))) (λ _ _=>False) s2)
 (h : ∀ (r : Addr) (ls' : List (List Nat)) (H' : Hp),ls'.Perm ls -> ls'.Pairwise (λ a b=>¬ rk b < rk a) -> Same H H' -> H r = none -> H' r = some (.lst (ls'.map vt)) -> Q (.ref r) H') :
 wpAny (model X.prog X.w) X.A (call (.builtin "sorted") [.ref p] [(Str.ofString "key",.ref f)]) (EP X pins σ Q) X.xe s:=by
 refine call_function_entry_kw kind_sorted plain_sorted entry_sorted (ksk_s1 _ _) ?_
 unfold Builtin.«sorted»
 refine wpAny_bind (m:=checkCount "sorted" 1 1 _) (wpAny_pure ?_)
 refine wpAny_bind (hcol _ λ h' tk its keep0 hge rv=>?_)
 obtain ⟨hdec,hstr⟩:=vals_dec rv
 have hil : its.length = ls.length:=by have:=rv.length; rw [List.length_map] at this; omega
 have sz:=sizeLine_eq
 refine wpAny_bind (wpAny_newList ?_ (by omega))
 have hoL : (h'.push (seqObj "list" its.toArray 0)).get? h'.objs.size = some (seqObj "list" its.toArray 0):=Heap.get?_push_size _ rfl
 have keep : ∀ b o,s.heap.get? b = some o -> (h'.push (seqObj "list" its.toArray 0)).get? b = some o:=λ b o q=>Heap.get?_push_of_some _ (keep0 b o q)
 show wpAny _ _ _ _ _ { s with heap:=h'.push (seqObj "list" its.toArray 0),toks:=tk }
 have hsz2 : (h'.push (seqObj "list" its.toArray 0)).objs.size = h'.objs.size + 1:=size_push' ..
 generalize h'.push (seqObj "list" its.toArray 0) = g at hoL keep hsz2 ⊢
 refine wpAny_bind (wpAny_holding (wpAny_call_entry_kw slot_list_sort ⟨_,hoL,rfl⟩ entry_list_sort ?body (ksk_l1 _ _)))
 show wpAny (model X.prog X.w) X.A.in1.in1 (Builtin.«list.sort» ⟨[.ref h'.objs.size],[(Str.ofString "key",.ref f)]⟩) _ _ _
 rw [ksk_t1]
 generalize h'.objs.size = a at hoL hge hsz2 ⊢
 have haz : s.heap.objs.size <= a:=hge
 have haL : a < g.objs.size:=Heap.lt_size hoL
 obtain ⟨e1,ho1⟩ : ∃ e1,(g.update a (Obj.mapSeq λ _=>(#[] : Array Value))).get? a = some (seqObj "list" #[] e1):=⟨_,get?_update_seq hoL λ _=>#[]⟩
 have keep1 : ∀ b o,s.heap.get? b = some o -> (g.update a (Obj.mapSeq λ _=>(#[] : Array Value))).get? b = some o:=λ b o q =>
  (Heap.get?_update_ne _ _ _ _ (Nat.ne_of_lt (Nat.lt_of_lt_of_le (Heap.lt_size q) haz))).trans (keep b o q)
 unfold PyProof.Rows.ksk_tree
 refine wpAny_bind (listItems_at hoL rfl ?_)
 refine wpAny_bind (listUpdate_at hoL rfl ?_ (by rw [List.size_toArray]; omega) (Nat.zero_le _))
 refine wpAny_bind (seqEpoch_at ho1 rfl ?_)
 refine wpAny_bind (wpAny_newTuple ?_ (by show its.length <= _; omega))
 refine wpAny_bind (wpAny_newList ?_ (Nat.zero_le _))
 refine wpAny_holding ?_
 show wpAny (model X.prog X.w) X.A.in1.in1 _ _ _ { s with toks:=tk,heap:=((g.update a (Obj.mapSeq λ _=>(#[] : Array Value))).push (seqObj "tuple" its.toArray 0)).push (seqObj "list" #[] 0) }
 have hkz : s.heap.objs.size + 1 <= ((g.update a (Obj.mapSeq λ _=>(#[] : Array Value))).push (seqObj "tuple" its.toArray 0)).objs.size:=by rw [size_push',Heap.size_update,hsz2]; omega
 have hka : a < ((g.update a (Obj.mapSeq λ _=>(#[] : Array Value))).push (seqObj "tuple" its.toArray 0)).objs.size:=by rw [size_push',Heap.size_update]; omega
 have hoK : (((g.update a (Obj.mapSeq λ _=>(#[] : Array Value))).push (seqObj "tuple" its.toArray 0)).push (seqObj "list" #[] 0)).get? ((g.update a (Obj.mapSeq λ _=>(#[] : Array Value))).push (seqObj "tuple" its.toArray 0)).objs.size = some (seqObj "list" #[] 0):=Heap.get?_push_size _ rfl
 have hoA : (((g.update a (Obj.mapSeq λ _=>(#[] : Array Value))).push (seqObj "tuple" its.toArray 0)).push (seqObj "list" #[] 0)).get? a = some (seqObj "list" #[] e1):=Heap.get?_push_of_some _ (Heap.get?_push_of_some _ ho1)
 have keep2 : ∀ b o,s.heap.get? b = some o -> (((g.update a (Obj.mapSeq λ _=>(#[] : Array Value))).push (seqObj "tuple" its.toArray 0)).push (seqObj "list" #[] 0)).get? b = some o:=λ b o q=>Heap.get?_push_of_some _ (Heap.get?_push_of_some _ (keep1 b o q))
 generalize ((g.update a (Obj.mapSeq λ _=>(#[] : Array Value))).push (seqObj "tuple" its.toArray 0)).objs.size = kS at hkz hka hoK ⊢
 generalize (((g.update a (Obj.mapSeq λ _=>(#[] : Array Value))).push (seqObj "tuple" its.toArray 0)).push (seqObj "list" #[] 0)) = g2 at hoK hoA keep2 ⊢
 have hkS0 : s.heap.objs.size <= kS:=by omega
 have fa:=I.fpOk (b:=a) haz (I.hok.fresh haz)
 have I2 : Inv X.in2 (pins ++ [(a,seqObj "list" #[] e1)]) σ (upd H kS (.lst ([].map V.ref))) { s with heap:=g2,toks:=tk }:=by
  have I1 : Inv X pins σ (upd H kS (.lst ([].map V.ref))) { s with heap:=g2,toks:=tk }:=I.laid (t':=tk) keep2 hkS0 ⟨Nat.zero_le _,[],0,.nil,hoK⟩
  refine (I1.pins_of λ q hq=>?_).in2
  rcases List.mem_append.mp hq with z | z
  ·exact I1.pin q (List.mem_append_right _ z)
  ·cases List.mem_singleton.mp z
   refine ⟨hoA,?_,fa.2.1,fa.2.2.1,λ v e=>nomatch e⟩
   rw [upd_ne (Nat.ne_of_lt hka)]
   exact fa.1
 have hnk : H kS = none:=I.hok.fresh hkS0
 unfold PyProof.Rows.ksk_rest
 refine wpAny_bind (wpAny_rule ?_)
 rw [List.forIn_toArray]
 refine wpAny_bind (ksk_fold (λ i s'=>∃ H2 qs,Inv X.in2 (pins ++ [(a,seqObj "list" #[] e1)]) σ H2 s' /\ Made H H2 kS rk ls qs i) its 0 _ ⟨_,[],I2,⟨same_new hnk _,rfl,upd_same,λ j q l e=>by cases e⟩⟩ ?step ?done)
 case step =>
  rintro j x s' hx ⟨H2,qs,J,M⟩
  simp only [Nat.zero_add] at M ⊢
  have hj : j < its.length:=(List.getElem?_eq_some_iff.mp hx).1
  have hjl : j < ls.length:=by omega
  obtain ⟨u,hu',ru⟩:=rv.get (show (ls.map vt)[j]? = some (vt ls[j]) by rw [List.getElem?_map,List.getElem?_eq_getElem hjl]; rfl)
  rw [hx] at hu'; cases hu'
  refine wpAny_bind (wpAny_attempt (wpAny_mono (turn _ s' H2 ls[j] x (List.getElem_mem _) J M.same ru) (λ v s'' he=>?_) λ _ _ hF=>hF.elim))
  obtain ⟨v',H3,J3,r3,q,rfl,hq,sm,hk3⟩:=he
  cases r3
  have hS3:=sm _ _ M.st
  obtain ⟨hz3,its3,n3,r33,e33⟩:=J3.hok kS _ hS3
  have e3:=valsRefs r33
  have hqk : q ≠ kS:=λ z=>by rw [z,M.st] at hq; cases hq
  subst e3
  try dsimp only
  have hql:=M.len
  refine wpAny_bind (listUpdate_at e33 rfl ?_ (by rw [List.size_toArray,List.length_map]; omega) (by rw [Array.size_push,List.size_toArray,List.length_map]; omega))
  obtain ⟨c2,hc2⟩ : ∃ c2,(s''.heap.update kS (Obj.mapSeq (·.push (.ref q)))).get? kS = some (seqObj "list" ((qs.map Value.ref).toArray.push (.ref q)) c2):=⟨_,get?_update_seq e33 (·.push (.ref q))⟩
  have J4 : Inv X.in2 (pins ++ [(a,seqObj "list" #[] e1)]) σ (upd H3 kS (.lst ((qs ++ [q]).map V.ref))) { s'' with heap:=s''.heap.update kS (Obj.mapSeq (·.push (.ref q))) }:=by
   refine J3.write (t':=s''.toks) (by rw [hS3]; trivial) (.inl rfl) (λ b u hb e=>(Heap.get?_update_ne _ _ _ _ hb).trans e) ⟨_,hc2⟩ ⟨by rw [List.length_map,List.length_append]; simp only [List.length_cons,List.length_nil]; omega,(qs ++ [q]).map Value.ref,c2,refsVals _,?_⟩
   rw [hc2,List.map_append]
   simp [seqObj]
  refine wpAny_pure ⟨rfl,_,qs ++ [q],J4,⟨λ b o e=>?_,by rw [List.length_append,hql]; rfl,upd_same,λ i q' l e1 e2=>?_⟩⟩
  ·have:=sm _ _ (M.same b o e)
   rw [upd_ne (λ z=>by subst z; rw [hnk] at e; cases e)]
   exact this
  ·rcases Nat.lt_or_ge i qs.length with z | z
   ·rw [List.getElem?_append_left z] at e1
    obtain ⟨k1,k2⟩:=M.key i q' l e1 e2
    rw [upd_ne k2]
    exact ⟨sm _ _ k1,k2⟩
   ·rw [List.getElem?_append_right z] at e1
    have hi : i - qs.length = 0:=by
     rcases Nat.eq_zero_or_pos (i - qs.length) with z' | z'
     ·exact z'
     ·obtain ⟨m,hm⟩ : ∃ m,i - qs.length = m + 1:=⟨i - qs.length - 1,by omega⟩
      rw [hm] at e1; cases e1
    rw [hi] at e1; cases e1
    have hij : i = j:=by omega
    subst hij
    rw [List.getElem?_eq_getElem hjl] at e2; cases e2
    rw [upd_ne hqk]
    exact ⟨hk3,hqk⟩
 case done =>
  rintro s' ⟨H2,qs,J,M⟩
  rw [Nat.zero_add] at M
  have hql:=M.len
  obtain ⟨hz3,its3,n3,r33,e33⟩:=J.hok kS _ M.st
  have e3:=valsRefs r33
  subst e3
  refine wpAny_bind (listItems_at e33 rfl ?_)
  have hpa:=(J.pin (a,seqObj "list" #[] e1) (List.mem_append_right _ (List.mem_append_right _ (List.mem_singleton.mpr rfl))))
  refine sort_endL (rk:=ls.map rk) hu hpa.1 e33 (Nat.ne_of_gt hka) (λ i v hv=>?_) (by rw [List.size_toArray,List.length_map]; omega) (by rw [List.length_map]; omega) (by omega) λ ps hp1 hp2=>⟨_,rfl,?_⟩
  ·have hi : i < qs.length:=by
    rcases Nat.lt_or_ge i qs.length with z | z
    ·exact z
    ·rw [List.getElem?_toArray,List.getElem?_eq_none (by rw [List.length_map]; exact z)] at hv; cases hv
   rw [List.getElem?_toArray,List.getElem?_map,List.getElem?_eq_getElem hi] at hv
   cases hv
   have hil' : i < ls.length:=by omega
   obtain ⟨k1,_⟩:=M.key i qs[i] ls[i] (List.getElem?_eq_getElem hi) (List.getElem?_eq_getElem hil')
   obtain ⟨_,its4,n4,r4,e4⟩:=J.hok _ _ k1
   refine ⟨rk ls[i],by rw [List.getElem?_map,List.getElem?_eq_getElem hil']; rfl,qs[i],its4,n4,rfl,e4,?_⟩
   have:=intsAre_of (ns:=(rk ls[i]).map Int.ofNat) (us:=its4) (by rw [List.map_map]; exact r4)
   exact this
  ·refine wpAny_pure ⟨_,rfl,?_⟩
   have hrel : ∀ p ∈ (ls.map rk).zip its,p.1 = rk (decT p.2) /\ p.2 ∈ its:=by
    rw [← hdec,List.map_map,List.zip_map_left]
    intro p hp
    obtain ⟨⟨u,v⟩,hq,rfl⟩:=List.mem_map.mp hp
    have h1 : u = v /\ u ∈ its:=mem_zip_self hq
    exact ⟨by show rk (decT u) = rk (decT v); rw [h1.1],by show v ∈ its; rw [← h1.1]; exact h1.2⟩
   have hout : ∀ u ∈ ps.map Prod.snd,∃ l t,u = Value.str (tx l) t:=λ u hu=>by
    obtain ⟨p,hp',rfl⟩:=List.mem_map.mp hu
    exact hstr _ (hrel p (hp1.mem_iff.mp hp')).2
   have hperm : ((ps.map Prod.snd).map decT).Perm ls:=by
    have h1:=(hp1.map Prod.snd).map decT
    rw [List.map_snd_zip (by rw [List.length_map]; omega),hdec] at h1
    exact h1
   have hord : ((ps.map Prod.snd).map decT).Pairwise (λ a b=>¬ rk b < rk a):=by
    rw [List.pairwise_map,List.pairwise_map]
    refine hp2.imp_of_mem λ {p q} hp' hq' hr=>?_
    rw [(hrel p (hp1.mem_iff.mp hp')).1,(hrel q (hp1.mem_iff.mp hq')).1] at hr
    exact hr
   have hol : (ps.map Prod.snd).length = ls.length:=by have:=hperm.length_eq; rw [List.length_map] at this; exact this
   obtain ⟨c2,hc2⟩ : ∃ c2,(s'.heap.update kS (Obj.mapSeq λ _=>(#[] : Array Value))).get? kS = some (seqObj "list" #[] c2):=⟨_,get?_update_seq e33 λ _=>#[]⟩
   have J5 : Inv X.in2 (pins ++ [(a,seqObj "list" #[] e1)]) σ (upd H2 kS (.lst [])) { s' with heap:=s'.heap.update kS (Obj.mapSeq λ _=>(#[] : Array Value)) } :=
    J.write (t':=s'.toks) (by rw [M.st]; trivial) (.inl rfl) (λ b u hb e=>(Heap.get?_update_ne _ _ _ _ hb).trans e) ⟨_,hc2⟩ ⟨Nat.zero_le _,[],c2,.nil,hc2⟩
   have haK : a ≠ kS:=Nat.ne_of_lt hka
   have na1 : (s'.heap.update kS (Obj.mapSeq λ _=>(#[] : Array Value))).get? a = some (seqObj "list" #[] e1):=(Heap.get?_update_ne _ _ _ _ haK).trans hpa.1
   obtain ⟨c3,hc3⟩ : ∃ c3,((s'.heap.update kS (Obj.mapSeq λ _=>(#[] : Array Value))).update a (Obj.mapSeq λ _=>(ps.map Prod.snd).toArray)).get? a = some (seqObj "list" (ps.map Prod.snd).toArray c3):=⟨_,get?_update_seq na1 λ _=>(ps.map Prod.snd).toArray⟩
   have hfa : (upd H2 kS (.lst [])) a = none:=by rw [upd_ne haK]; exact hpa.2.1
   have J6 : Inv X pins σ (upd H2 kS (.lst [])) { s' with heap:=(s'.heap.update kS (Obj.mapSeq λ _=>(#[] : Array Value))).update a (Obj.mapSeq λ _=>(ps.map Prod.snd).toArray) } :=
    (J5.unpinned.out2).turned (t':=s'.toks) (λ b o hb e=>(Heap.get?_update_ne _ _ _ _ hb).trans e) hfa fa.2.1 fa.2.2.2.1 fa.2.2.2.2.1 fa.2.2.2.2.2
   have J7:=J6.adopt (a:=a) (o:=.lst (((ps.map Prod.snd).map decT).map vt)) hfa (by
    cases q : X.s₀.heap.get? a with
    | none=>rfl
    | some o=>exact absurd (Nat.lt_of_lt_of_le (Heap.lt_size q) (Nat.le_trans I.sz haz)) (Nat.lt_irrefl _)) fa.2.1.symm fa.2.2.2.2.1 fa.2.2.2.2.2 ⟨by rw [List.length_map,List.length_map]; omega,_,c3,vals_of_dec hout,hc3⟩
   refine ⟨.ref a,_,J7,rfl,h a _ _ hperm hord (λ b o e=>?_) fa.1 upd_same⟩
   rw [upd_ne (λ z=>by subst z; rw [fa.1] at e; cases e),upd_ne (λ z=>by subst z; rw [hnk] at e; cases e)]
   exact M.same b o e
end
end L2
namespace L2
open PySem PySem.Spec PyProof.Rows
def tSortD (P : Addr) (lpos : Pos) (qual : Str) (i0 : Nat) (rk : List Nat -> List Nat) (te : TA) (tb : Addr -> Addr -> List (Str × Addr) -> Shared -> Hp -> TE) : TE:=λ σ H Q=>te σ H λ xs H1=>∃ (p : Addr) (kvs : List (Key × V)) (ls : List (List Nat)) (vy : V),xs = [.ref p] /\ H1 p = some (.dK kvs) /\ (kvs.map λ q=>kV q.1) = ls.map vt /\ ls.length <= 100000 /\ TB P lpos qual H1 /\ σ[i0]? = some (some vy) /\
 (∀ l ∈ ls,∀ f c' cl s H2,SameT P H1 H2 -> tb f c' cl s H2 [some (vt l),some vy] H2 (λ v H3=>∃ q,v = .ref q /\ H2 q = none /\ Same H2 H3 /\ H3 q = some (.lst ((rk l).map λ n=>V.int (Int.ofNat n))))) /\
 ∀ (r : Addr) (ls' : List (List Nat)) (H' : Hp),ls'.Perm ls -> ls'.Pairwise (λ a b=>¬ rk b < rk a) -> SameT P H1 H' -> H1 r = none -> H' r = some (.lst (ls'.map vt)) -> TB P lpos qual H' -> Q (.ref r) H'
section
variable {X : Cx}
theorem pe_sortKD {x y : Str} {params : Arguments} {body : Expr} {scope : Scope} {lpos p pos kpos : Pos} {e : Expr} {te : TA} {tb : Addr -> Addr -> List (Str × Addr) -> Shared -> Hp -> TE} {c P : Addr} {i0 : Nat} {rk : List Nat -> List Nat}
 (hu : X.A.in1.in1.units < cLine) (hdp : X.A.in1.in1.depth < recursionLimit) (hc : X.calm = true) (hg : Gl X "sorted") (hm : X.mg "sorted" = none) (ha : PA X [e] te)
 (hdef : defaultsOf params X.env = ([],[])) (hcl : ∀ cc,X.env.cells.lookup y = some cc -> closureFor scope X.env = pure [(y,cc)])
 (hN : X.N[i0]? = some y) (hky : X.env.kindOf y = some .cell) (hcode : X.env.code = .ref c) (C : PySem.W.CodeHd X.base c P) (hB : BM X.mg X.base)
 (hk : scope.kind = .function) (hco : scope.isCoroutine = false) (hgen : scope.isGenerator = false) (hxl : scope.names.lookup x = some .local) (hyf : scope.names.lookup y = some .free) (hnc : ∀ z ∈ scope.names,z.2 ≠ .cell)
 (hof : ∀ z,scope.names.lookup z = some .free -> z = y) (hxy : x ≠ y)
 (hbind : ∀ cl pm cd ct u,bindArgs (PySem.W.kla_fn "<lambda>" (X.env.qual ++ "<lambda>") params body scope cl pm cd ct) ⟨[u],[]⟩ = pure [(x,u)])
 (hb : ∀ f c' cl s H,PE (cxLam X.in2 [x,y] (X.env.qual ++ "<lambda>") scope f (.ref c') cl s H) body (tb f c' cl s H))
 (he : backTo pos (starEach [e] X.env) = (false,eval e X.env) :: backTo pos (starEach [] X.env):=by rfl) (hpl : (backTo pos (starEach [e] X.env)).any (·.1) = false:=by rfl) :
 PE X (.Call (.Name "sorted" p) [e] [⟨some "key",.Lambda params body scope lpos,kpos⟩] pos) (tSortD P lpos (X.env.qual ++ "<lambda>") i0 rk te tb):=by
 intro pins s σ H Q I h
 refine wpAny_Call_Name_kw (ld_blt I hg hm (u:=.builtin "sorted") rfl ?_)
 refine callWith_kw (thn (ha pos pins s σ H _ I h) λ us s1 ⟨vs,H1,I1,r1,q1⟩=>?_) he hpl
 obtain ⟨p0,kvs,ls,vy,rfl,hp,hkv,hlen,T,hy,turn,fin⟩:=q1
 obtain ⟨u,rfl,ru⟩:=vals1 r1
 cases (show u = Value.ref p0 from ru)
 show wpAny _ _ (evalAll ((do let v ← eval (.Lambda params body scope lpos) X.env; standAt pos; pure v) :: [])) _ _ s1
 obtain ⟨cc,hcc⟩:=I1.ok.has y (.inl hky)
 refine wpAny_evalAll_cons (wpAny_bind (lam_make I1 hdef (hcl cc hcc) hcode C hB T λ f c' ctv H2 s2 J hT1 hT2 sm=>wpAny_bind (wpAny_standAt (wpAny_pure (wpAny_evalAll_nil ?_)))))
 show wpAny _ _ (call (.builtin "sorted") [.ref p0] [(Str.ofString "key",.ref f)]) _ _ s2
 have T2 : TB P lpos (X.env.qual ++ "<lambda>") H2:=.inr ⟨c',hT1,hT2⟩
 obtain ⟨ps0,hps0⟩:=T.tbl
 have hp2 : H2 p0 = some (.dK kvs):=sm _ _ (λ z=>by subst z; rw [hps0] at hp; cases hp) hp
 obtain ⟨hkl,lo,vks,hkvs,hD⟩:=dk_of J.hok hp2
 obtain ⟨ep,hat⟩:=hD.dictAt
 have hlk : kvs.length = vks.length:=Paired.length hkvs
 refine thn (call_sortG (rk:=rk) (Q:=Q) J hu (λ Q' hq=>collect_dict (knd:=mixKind X.prog X.w) (kvs:=vks) (ep:=ep) lo (J.ok.hd hc) hat (by omega) λ h' tk acc keep hge hacc=>hq h' tk acc.toList keep hge ?_) hlen (λ pl s3 H3 l u hl J3 sm3 ru=>?_) λ r ls' H' a1 a2 a3 a4 a5=>?_) λ v s' ⟨v',H',J',r',q'⟩=>⟨v',H',J'.unpinned,r',q'⟩
 ·rw [← hkv]
  refine vals_pt (by rw [Array.length_toList,List.length_map,hacc.1,hlk]) λ j u hu=>?_
  obtain ⟨k,x,hx,hku⟩:=hacc.2 j u (by rw [← Array.getElem?_toList]; exact hu)
  obtain ⟨y,hy⟩:=kv_at hkvs j k x hx
  exact ⟨kV k,by rw [List.getElem?_map,hy]; rfl,keyIs_rel hku⟩
 ·have hf:=(J3.pin (f,_) (List.mem_append_right _ (List.mem_append_left _ (List.mem_append_right _ (List.mem_singleton.mpr rfl))))).1
  obtain ⟨m,_,hloc⟩:=J3.loc
  obtain ⟨uy,ry,hlk⟩:=hloc i0 y vy hN hy (.inr (.inl hky))
  have hcell : s3.heap.IsCell cc (some uy):=by
   rcases hlk with ⟨z,_⟩ | ⟨_,c2,z1,z2⟩
   ·rw [show X.in2.env.kindOf y = some .cell from hky] at z; cases z
   ·rw [show X.in2.env.cells.lookup y = some cc from hcc] at z1; cases z1; exact z2
  refine lam_call (X:=X.in2) (x:=x) (y:=y) (vy:=vy) (te:=tb f c' [(y,cc)] s3 H3) J3 hc hdp hf ?_ hk hco hgen hxl hyf hnc hof hxy (hbind _ _ _ _ _) hcell (J3.freeC y cc hcc) ru ry (hb _ _ _ _ _) (turn l hl f c' [(y,cc)] s3 H3 (sm.trans (.of sm3)))
  exact (J3.hok c' _ (sm3 _ _ hT2)).1
 ·refine fin r ls' H' a1 a2 (sm.trans (.of a3)) ?_ a5 (T2.same a3)
  cases q : H1 r with
  | none=>rfl
  | some o =>
    by_cases hr : r = P
    ·subst hr; rw [hT1] at a4; cases a4
    ·rw [sm _ _ hr q] at a4; cases a4
end
def tabs2 (K : PySem.W.Frag) (x y : Str) : Bool:=match PySem.W.tabIn K x,PySem.W.tabIn K y with
 | some p,some q=>p.2 != q.2
 | _,_=>false
theorem tabs2_of {K : PySem.W.Frag} {x y : Str} (h : tabs2 K x y = true) : ∃ c T c1 T1,PySem.W.tabIn K x = some (c,T) /\ PySem.W.tabIn K y = some (c1,T1) /\ T ≠ T1:=by
 unfold tabs2 at h
 cases h1 : PySem.W.tabIn K x with
 | none=>rw [h1] at h; cases h
 | some p =>
   cases h2 : PySem.W.tabIn K y with
   | none=>rw [h1,h2] at h; cases h
   | some q =>
     rw [h1,h2] at h
     exact ⟨p.1,p.2,q.1,q.2,rfl,rfl,by simpa using h⟩
theorem law_callT2 {P : Program} {w : World} {K : PySem.W.Frag} {mg mb : Str -> Option Value} {CX : CXT} {k : Nat} {fa a c T c1 T1 : Addr} {fd : FuncData} {x : Str} {sp : Sp} {s₁ : Shared} {vs : List Value} {ns : List Int}
 (KX : K.In s₁.heap) (hnt : PySem.W.noTabs K = true) (hns : s₁.heap.Ns mainGlobals mg) (hb : s₁.heap.Ns builtinsNs mb) (hbb : ∀ x : Str,x ≠ "__name__" -> mb x = bootBuiltins x) (hlim : s₁.heap.NoLimit) (hg : s₁.gens = #[])
 (ha : s₁.heap.get? a = some { cls:=.type "list",data:=.seq vs.toArray }) (hi : IntsAre vs ns) (hl : ns.length <= sizeLine) (hr : Room k callerA)
 (C : PySem.W.CodeHd s₁.heap c T) (hT : s₁.heap.get? T = some (PySem.W.tabObj #[])) (C1 : PySem.W.CodeHd s₁.heap c1 T1) (hT1 : s₁.heap.get? T1 = some (PySem.W.tabObj #[])) (hTT : T ≠ T1) (hB : BM mg s₁.heap)
 (F : ∀ base : Heap,K.In base -> base.Ns mainGlobals mg -> PySem.W.CodeHd base c T -> PySem.W.CodeHd base c1 T1 -> BM mg base -> FnOk P w K mg base CX k fa fd [x] sp) (hbind : ∀ (s : Shared) (u : Value),BindsTo s fd ⟨[u],[]⟩ [(x,u)])
 (hsp : ∀ H : Hp,SqL K H a (ns.map V.int) -> H T = some (.tbl #[]) -> H T1 = some (.tbl #[]) -> sp [.ref a] H (λ v _=>v = .bl true) λ _ _ _=>False)
 (hCX : ∀ H e s',CX [] H s₁ (λ _ _ _=>False) e s' -> False) :
 codeAny (model P w) callerA (.call (.ref fa) ⟨[.ref a],[]⟩) (λ r s'=>r = .ok (.ret (.bool true)) /\ OldK s₁.heap s'.heap /\ s'.os = s₁.os /\ AllBare s'.gens) s₁:=by
 have rv:=vals_ints hi
 have lenV:=hi.length
 have hTa : a ≠ T:=λ z=>by
  subst z
  rw [ha] at hT
  have:=Option.some.inj hT
  cases this
 have hT1a : a ≠ T1:=λ z=>by
  subst z
  rw [ha] at hT1
  have:=Option.some.inj hT1
  cases this
 have core : ∀ H : Hp,(∀ b,b ≠ a -> b ≠ T -> b ≠ T1 -> H b = none) -> H T = some (.tbl #[]) -> H T1 = some (.tbl #[]) -> (H a = none \/ ∃ o xs,H a = some (.frz o (.lst xs))) -> SqL K H a (ns.map V.int) -> HOk P w H s₁.heap -> (H a ≠ none -> K.lookup a = none) ->
  codeAny (model P w) callerA (.call (.ref fa) ⟨[.ref a],[]⟩) (λ r s'=>r = .ok (.ret (.bool true)) /\ OldK s₁.heap s'.heap /\ s'.os = s₁.os /\ AllBare s'.gens) s₁:=by
  intro H hA hHT hHT1 hHa hS hok hK
  have base_of : ∀ {b : Addr} {o : Obj},s₁.heap.get? b = some o -> H b = none -> (hidT s₁.heap H).get? b = some o:=λ e n=>hidT_get e n
  have noA : ∀ {b : Addr} {o : Obj} {es : Array DictEntry} {ep : Nat},s₁.heap.get? b = some o -> o.data = .dict es ep -> H b = none:=λ {b o es ep} e d=>by
   refine hA b (λ z=>?_) (λ z=>?_) (λ z=>?_)
   ·subst z; rw [ha] at e; cases e
    have d' : Data.seq vs.toArray _ = Data.dict es ep:=d
    cases d'
   ·subst z; rw [hT] at e; cases e
    have d' : Data.fields #[] = Data.dict es ep:=d
    cases d'
   ·subst z; rw [hT1] at e; cases e
    have d' : Data.fields #[] = Data.dict es ep:=d
    cases d'
  have noC : ∀ {b : Addr} {o : Obj} {n : String},s₁.heap.get? b = some o -> o.cls = .type n -> n ≠ "list" -> H b = none:=λ {b o n} e d hn=>by
   refine hA b (λ z=>?_) (λ z=>?_) (λ z=>?_)
   ·subst z; rw [ha] at e; cases e
    have d' : Value.type "list" = Value.type n:=d
    cases d'; exact hn rfl
   ·subst z; rw [hT] at e; cases e
    have d' : Value.none = Value.type n:=d
    cases d'
   ·subst z; rw [hT1] at e; cases e
    have d' : Value.none = Value.type n:=d
    cases d'
  have nsK : ∀ {b : Addr} {m : Str -> Option Value},s₁.heap.Ns b m -> (hidT s₁.heap H).Ns b m:=λ {b m} ⟨o,es,ep,e,d,r⟩=>⟨o,es,ep,base_of e (noA e d),d,r⟩
  have hKb : K.In (hidT s₁.heap H):=λ b o e=>base_of (KX b o e) (by
   by_cases hb : b = a
   ·subst hb
    cases q : H b with
    | none=>rfl
    | some u=>rw [hK (by rw [q]; simp)] at e; cases e
   ·have tb : s₁.heap.get? b = some (PySem.W.tabObj #[]) -> False:=λ hT=>by
     have e2:=KX _ _ e
     rw [hT] at e2
     have h2:=List.all_eq_true.mp hnt (b,o) (PySem.W.mem_of_lookupK e)
     cases e2
     exact absurd (show false = true from h2) Bool.false_ne_true
    exact hA b hb (λ hb2=>tb (by rw [hb2]; exact hT)) (λ hb2=>tb (by rw [hb2]; exact hT1)))
  have hM : Mod K mg (hidT s₁.heap H):=⟨hKb,nsK hns,⟨mb,nsK hb,hbb⟩,let ⟨mc,h1,h2⟩:=hlim; ⟨mc,nsK h1,h2⟩⟩
  have e0 : Env0 P w K mg (hidT s₁.heap H) callerA [] s₁ H:=⟨rfl,hM,λ b o e=>of_hidT e,Nat.le_of_eq (hidT_size _ _),trivial,λ b hb=>absurd (show b ∈ ([] : List Addr) from hb) (by simp),hok,.of_eq hg⟩
  have hC : PySem.W.CodeHd (hidT s₁.heap H) c T:=let ⟨o,us,file,tf,flags,tg,inF,text,tt,e,cl,r⟩:=C; ⟨o,us,file,tf,flags,tg,inF,text,tt,base_of e (noC e cl (by decide)),cl,r⟩
  have hC1 : PySem.W.CodeHd (hidT s₁.heap H) c1 T1:=let ⟨o,us,file,tf,flags,tg,inF,text,tt,e,cl,r⟩:=C1; ⟨o,us,file,tf,flags,tg,inF,text,tt,base_of e (noC e cl (by decide)),cl,r⟩
  have hBm : BM mg (hidT s₁.heap H):=let ⟨bm,ob,b1,b2,b3,b4,r⟩:=hB; ⟨bm,ob,b1,b2,base_of b3 (noC b3 b4 (by decide)),b4,r⟩
  refine codeAny_mono ((F _ hKb (nsK hns) hC hC1 hBm).run callerA [] s₁ H ⟨[.ref a],[]⟩ [.ref a] [.ref a] _ _ hr e0 (hbind s₁ (.ref a)) (.cons rfl .nil) (hsp H hS hHT hHT1)) λ r s' h=>?_
  cases r with
  | error e=>exact (hCX H e s' h).elim
  | ok fl =>
    cases fl with
    | next=>exact False.elim h
    | brk=>exact False.elim h
    | cont=>exact False.elim h
    | ret u =>
      obtain ⟨v,H',os,bare,un,hok',r',q⟩:=h
      have q' : v = .bl true:=q
      subst q'
      obtain rfl : u = Value.bool true:=r'
      obtain ⟨more,hm⟩:=un.tbls T #[] hHT
      have hT2 : s'.heap.get? T = some (PySem.W.tabObj (#[] ++ more)):=hok' T _ hm
      obtain ⟨more1,hm1⟩:=un.tbls T1 #[] hHT1
      have hT12 : s'.heap.get? T1 = some (PySem.W.tabObj (#[] ++ more1)):=hok' T1 _ hm1
      have kp : ∀ b o,b ≠ T -> b ≠ T1 -> s₁.heap.get? b = some o -> s'.heap.get? b = some o:=λ b o hb hb1 e=>by
       by_cases hba : b = a
       ·subst hba
        rcases hHa with z | ⟨ob,xs,z⟩
        ·exact un.keep b o e z (by intro z; exact absurd (show b ∈ ([] : List Addr) from z) (by simp)) (by simp)
        ·have z2:=un.frzs b ob _ z
         obtain ⟨e1,_⟩:=hok b _ z
         obtain ⟨e2,_⟩:=hok' b _ z2
         rw [e] at e1; cases e1
         exact e2
       ·exact un.keep b o e (hA b hba hb hb1) (by intro z; exact absurd (show b ∈ ([] : List Addr) from z) (by simp)) (by simp)
      refine ⟨rfl,⟨λ b o e=>?_,λ b o e=>?_⟩,os,bare⟩
      ·by_cases hb : b = T
       ·subst hb
        rw [hT] at e; cases e
        exact .inr (.inl ⟨(C.tab hT).isCodeTable,rfl,#[],more,rfl,hT2⟩)
       ·by_cases hb1 : b = T1
        ·subst hb1
         rw [hT1] at e; cases e
         exact .inr (.inl ⟨(C1.tab hT1).isCodeTable,rfl,#[],more1,rfl,hT12⟩)
        ·exact .inl (kp b o hb hb1 e)
      ·by_cases hb : b = T
       ·subst hb; exact ⟨_,hT2⟩
       ·by_cases hb1 : b = T1
        ·subst hb1; exact ⟨_,hT12⟩
        ·exact ⟨o,kp b o hb hb1 e⟩
 cases hk : K.lookup a with
 | some o =>
   have e:=KX a o hk
   rw [ha] at e
   cases e
   refine core (λ b=>if b = T then some (.tbl #[]) else if b = T1 then some (.tbl #[]) else none) (λ b _ h h'=>(if_neg h).trans (if_neg h')) (if_pos rfl) ((if_neg hTT.symm).trans (if_pos rfl)) (.inl ((if_neg hTa).trans (if_neg hT1a))) (.inr ⟨_,vs.toArray,_,hk,rfl,rfl,rfl,by rw [List.size_toArray,lenV]; exact hl,by simpa using rv⟩) (λ b u z=>?_) λ z=>absurd ((if_neg hTa).trans (if_neg hT1a)) z
   by_cases hb : b = T
   ·have z':=(if_pos hb).symm.trans z
    cases z'
    subst hb
    exact hT
   ·have z1:=(if_neg hb).symm.trans z
    by_cases hb1 : b = T1
    ·have z':=(if_pos hb1).symm.trans z1
     cases z'
     subst hb1
     exact hT1
    ·have z':=(if_neg hb1).symm.trans z1
     cases z'
 | none =>
   refine core (λ b=>if b = T then some (.tbl #[]) else if b = T1 then some (.tbl #[]) else if b = a then some (.frz { cls:=.type "list",data:=.seq vs.toArray } (.lst (ns.map V.int))) else none) (λ b h1 h2 h3=>(if_neg h2).trans ((if_neg h3).trans (if_neg h1))) (if_pos rfl) ((if_neg hTT.symm).trans (if_pos rfl)) (.inr ⟨_,_,(if_neg hTa).trans ((if_neg hT1a).trans (if_pos rfl))⟩)
    (.inl (.inr ⟨{ cls:=.type "list",data:=.seq vs.toArray },(if_neg hTa).trans ((if_neg hT1a).trans (if_pos rfl))⟩)) (λ b u z=>?_) λ _=>hk
   by_cases hb : b = T
   ·have z':=(if_pos hb).symm.trans z
    cases z'
    subst hb
    exact hT
   ·have z1:=(if_neg hb).symm.trans z
    by_cases hb1 : b = T1
    ·have z':=(if_pos hb1).symm.trans z1
     cases z'
     subst hb1
     exact hT1
    ·have z2:=(if_neg hb1).symm.trans z1
     by_cases hb2 : b = a
     ·have z':=(if_pos hb2).symm.trans z2
      cases z'
      subst hb2
      exact ⟨ha,by rw [List.length_map]; exact hl,vs,_,rv,ha⟩
     ·have z':=(if_neg hb2).symm.trans z2
      cases z'
theorem walk_t2 {l : PySem.W.OpenLaw} {n k : Nat} {q : Program} {loose : List Str} {XP : (Str -> Option Value) -> Heap -> Prop} {YP : World -> Heap -> Prop} {d : DefRec} {K : Params -> PySem.W.Frag} {CX : World -> CXT} {sp : World -> Addr -> Addr -> Sp} {x fn fn1 : Str}
 (hn : l.most = some n) (hn2 : n <= sizeLine) (hdf : d.params.defaults = []) (hr : Room k callerA)
 (hY : ∀ (w : World) (h : Heap),YP w h -> (K w.params).In h) (hnt : ∀ w : World,PySem.W.noTabs (K w.params) = true) (hdr : ((recsOf q).find? (λ e=>e.name == fn)).isSome = true) (hdr1 : ((recsOf q).find? (λ e=>e.name == fn1)).isSome = true) (htab : ∀ w : World,tabs2 (K w.params) fn fn1 = true)
 (F : ∀ (w : World) (mg : Str -> Option Value) (fa : Addr) (h : Heap) (c T c1 T1 : Addr),(K w.params).In h -> h.Ns mainGlobals mg -> mg d.name = some (.ref fa) -> T ≠ T1 ->
  ∃ fd : FuncData,(∀ (s : Shared) (u : Value),BindsTo s fd ⟨[u],[]⟩ [(x,u)]) /\
    ∀ base : Heap,TabX (K w.params) mg base fn c T -> TabX (K w.params) mg base fn1 c1 T1 -> FnOk l.prog w (K w.params) mg base (CX w) k fa fd [x] (sp w T T1))
 (hsp : ∀ (w : World) (H : Hp) (a T T1 : Addr) (ns : List Int),ns.length <= n -> (∀ n ∈ ns,Small n) -> SqL (K w.params) H a (ns.map V.int) -> H T = some (.tbl #[]) -> H T1 = some (.tbl #[]) -> sp w T T1 [.ref a] H (λ v _=>v = .bl true) λ _ _ _=>False)
 (hCX : ∀ (w : World) (H : Hp) (s : Shared) (e : Value) (s' : Shared),CX w [] H s (λ _ _ _=>False) e s' -> False) :
 PySem.W.WalkO q loose XP YP l.row.toRowW d [] (λ f vs=>PySem.call f vs):=by
 intro w s₀ s₁ mg mb G Y fa o pm cd doc dV kV ho hd hcd hD hmg hg args vals as hpre hlay hrd hwl hlo
 obtain rfl : dV = .none:=PySem.W.Dflts.none hD hdf
 obtain rfl : kV = .none:=PySem.W.Dflts.noKw hD
 obtain ⟨a,vs,ns,rfl,rfl,hobj,hints,hlen⟩:=Att.script_of hn hpre hwl
 have KX:=hY w _ Y
 obtain ⟨c,T,c1,T1,hct,hct1,hTT⟩:=tabs2_of (htab w)
 obtain ⟨dr,hdr'⟩:=Option.isSome_iff_exists.mp hdr
 obtain ⟨hC,hT⟩:=PySem.W.tab_of G.T KX hdr' hct
 obtain ⟨dr1,hdr1'⟩:=Option.isSome_iff_exists.mp hdr1
 obtain ⟨hC1,hT1⟩:=PySem.W.tab_of G.T KX hdr1' hct1
 obtain ⟨fd,hb,hF⟩:=F w mg fa _ c T c1 T1 KX G.T.g hmg hTT
 have hc:=law_callT2 KX (hnt w) G.T.g G.T.b G.T.builtins G.T.nolimit hg hobj hints (Nat.le_trans hlen hn2) hr hC hT hC1 hT1 hTT G.T.bmain (λ base h1 h2 h3 h5 h4=>hF base ⟨h1,h2,hct,h3,h4⟩ ⟨h1,h2,hct1,h5,h4⟩) hb (λ H hS hHT hHT1=>hsp w H a T T1 ns hlen (script_layable hlay) hS hHT hHT1) λ H e s'=>hCX w H s₁ e s'
 refine PySem.W.enter_call (codeAny_mono hc λ r s' hq=>?_)
 obtain ⟨rfl,h2,h3,h4⟩:=hq
 exact ⟨.inl ⟨.bool true,.bool true,[],rfl,λ _=>rfl,.bool true,Att.post_true l _,λ _=>⟨List.Pairwise.nil,λ _ hm=>(nomatch hm)⟩⟩,h2,h3,h4⟩
end L2
namespace Bp
def gcdI (a b : Int) : Int:=(Nat.gcd a.natAbs b.natAbs : Nat)
theorem gcdI_zero (a : Int) (h : 0 <= a) : gcdI a 0 = a:=by
 unfold gcdI
 rw [Int.natAbs_zero,Nat.gcd_zero_right]
 omega
theorem gcdI_step {a b : Int} (ha : 0 <= a) (hb : 0 < b) : gcdI b (a % b) = gcdI a b:=by
 unfold gcdI
 have e : (a % b).natAbs = a.natAbs % b.natAbs:=by
  obtain ⟨m,rfl⟩:=Int.eq_ofNat_of_zero_le ha
  obtain ⟨n,rfl⟩:=Int.eq_ofNat_of_zero_le (Int.le_of_lt hb)
  rfl
 rw [e,Nat.gcd_comm a.natAbs b.natAbs,Nat.gcd_rec b.natAbs a.natAbs,Nat.gcd_comm]
theorem gcdI_pos {a b : Int} (h : b ≠ 0) : 0 < gcdI a b:=by
 unfold gcdI
 have:=Nat.gcd_pos_of_pos_right a.natAbs (show 0 < b.natAbs by omega)
 omega
theorem gcdI_le {a b : Int} (h : b ≠ 0) : (gcdI a b).natAbs <= b.natAbs:=by
 unfold gcdI
 have:=Nat.gcd_le_right a.natAbs (show 0 < b.natAbs by omega)
 omega
theorem gcdI_dvd_left (a b : Int) : gcdI a b ∣ a:=by
 unfold gcdI
 exact Int.ofNat_dvd_left.mpr (Nat.gcd_dvd_left _ _)
theorem gcdI_dvd_right (a b : Int) : gcdI a b ∣ b:=by
 unfold gcdI
 exact Int.ofNat_dvd_left.mpr (Nat.gcd_dvd_right _ _)
theorem gcdI_abs (a b : Int) : gcdI (if a < 0 then -a else a) (if b < 0 then -b else b) = gcdI a b:=by
 unfold gcdI
 have e1 : (if a < 0 then -a else a).natAbs = a.natAbs:=by split <;> omega
 have e2 : (if b < 0 then -b else b).natAbs = b.natAbs:=by split <;> omega
 rw [e1,e2]
def sgn (b : Int) : Int:=if b < 0 then -1 else 1
def num (t b : Int) : Int:=t.fdiv (sgn b * gcdI t b)
def den (t b : Int) : Int:=b.fdiv (sgn b * gcdI t b)
theorem fdiv_exact {a d q : Int} (h : d ≠ 0) (e : a = d * q) : a.fdiv d = q:=by
 rw [e]; exact Int.mul_fdiv_cancel_left q h
theorem num_den {t b : Int} (h : b ≠ 0) : ∃ n d g,num t b = n /\ den t b = d /\ t = g * n /\ b = g * d /\ 0 < d /\ Nat.gcd n.natAbs d.natAbs = 1 /\ g.natAbs = (gcdI t b).natAbs:=by
 have gp:=gcdI_pos (a:=t) h
 obtain ⟨n,hn⟩:=gcdI_dvd_left t b
 obtain ⟨d,hd⟩:=gcdI_dvd_right t b
 have gg : ((Nat.gcd t.natAbs b.natAbs : Nat) : Int) = gcdI t b:=rfl
 have cop : ∀ n d : Int,t.natAbs = (gcdI t b).natAbs * n.natAbs -> b.natAbs = (gcdI t b).natAbs * d.natAbs -> Nat.gcd n.natAbs d.natAbs = 1:=by
  intro n d e1 e2
  have k : Nat.gcd t.natAbs b.natAbs = (gcdI t b).natAbs:=by omega
  have z : Nat.gcd ((gcdI t b).natAbs * n.natAbs) ((gcdI t b).natAbs * d.natAbs) = (gcdI t b).natAbs:=by rw [← e1,← e2]; exact k
  rw [Nat.gcd_mul_left] at z
  have gp' : 0 < (gcdI t b).natAbs:=by omega
  exact Nat.eq_of_mul_eq_mul_left gp' (by omega)
 by_cases hb : b < 0
 ·refine ⟨-n,-d,-gcdI t b,?_,?_,?_,?_,?_,?_,?_⟩
  ·unfold num sgn; rw [if_pos hb]; exact fdiv_exact (by omega) (by rw [Int.neg_one_mul,Int.neg_mul_neg]; exact hn)
  ·unfold den sgn; rw [if_pos hb]; exact fdiv_exact (by omega) (by rw [Int.neg_one_mul,Int.neg_mul_neg]; exact hd)
  ·rw [Int.neg_mul_neg]; exact hn
  ·rw [Int.neg_mul_neg]; exact hd
  ·rcases (by omega : d < 0 \/ d = 0 \/ 0 < d) with z | z | z
   ·omega
   ·rw [z] at hd; omega
   ·have:=Int.mul_pos gp z; omega
  ·have:=cop n d (by rw [← Int.natAbs_mul,← hn]) (by rw [← Int.natAbs_mul,← hd])
   simpa using this
  ·omega
 ·refine ⟨n,d,gcdI t b,?_,?_,hn,hd,?_,?_,rfl⟩
  ·unfold num sgn; rw [if_neg hb]; exact fdiv_exact (by omega) (by rw [Int.one_mul]; exact hn)
  ·unfold den sgn; rw [if_neg hb]; exact fdiv_exact (by omega) (by rw [Int.one_mul]; exact hd)
  ·rcases (by omega : d < 0 \/ d = 0 \/ 0 < d) with z | z | z
   ·have:=Int.mul_neg_of_pos_of_neg gp z; omega
   ·rw [z] at hd; omega
   ·exact z
  ·exact cop n d (by rw [← Int.natAbs_mul,← hn]) (by rw [← Int.natAbs_mul,← hd])
theorem den_pos {t b : Int} (h : b ≠ 0) : 0 < den t b:=by
 obtain ⟨n,d,g,e1,e2,_,_,p,_⟩:=num_den (t:=t) h
 omega
theorem num_cross {t b : Int} (h : b ≠ 0) : num t b * b = t * den t b:=by
 obtain ⟨n,d,g,e1,e2,e3,e4,p,_⟩:=num_den (t:=t) h
 rw [e1,e2]
 conv=>lhs; rw [e4]
 conv=>rhs; rw [e3]
 rw [← Int.mul_assoc,Int.mul_comm n g]
theorem num_gcd {t b : Int} (h : b ≠ 0) : gcdI (num t b) (den t b) = 1:=by
 obtain ⟨n,d,g,e1,e2,e3,e4,p,c,_⟩:=num_den (t:=t) h
 unfold gcdI
 rw [e1,e2,c]; rfl
theorem natAbs_le_mul {a g n : Int} (hg : g ≠ 0) (e : a = g * n) : n.natAbs <= a.natAbs:=by
 rw [e,Int.natAbs_mul]
 exact Nat.le_mul_of_pos_left _ (by omega)
theorem num_le {t b : Int} (h : b ≠ 0) : (num t b).natAbs <= t.natAbs:=by
 obtain ⟨n,d,g,e1,e2,e3,e4,p,c,e5⟩:=num_den (t:=t) h
 have gp:=gcdI_pos (a:=t) h
 rw [e1]; exact natAbs_le_mul (by omega) e3
theorem den_le {t b : Int} (h : b ≠ 0) : (den t b).natAbs <= b.natAbs:=by
 obtain ⟨n,d,g,e1,e2,e3,e4,p,c,e5⟩:=num_den (t:=t) h
 have gp:=gcdI_pos (a:=t) h
 rw [e2]; exact natAbs_le_mul (by omega) e4
end Bp
namespace Bp
open PySem PySem.Spec PyProof.Rows L2
def top (i : Nat) : Stmt:=PySem.Challenge.pw_boughpress_k41_weigh_paper_walked.main.body.getD i (.Pass ⟨0,0,0,0⟩)
abbrev s_Qr : Stmt:=top 7
abbrev s_Qx : Stmt:=top 8
abbrev s_rank : Stmt:=top 9
abbrev s_Ql : Stmt:=top 11
abbrev s_Qm : Stmt:=top 13
abbrev s_Qs : Stmt:=top 14
abbrev s_Qa : Stmt:=top 17
abbrev s_Qt : Stmt:=top 18
abbrev s_plus : Stmt:=top 19
abbrev s_Qbi : Stmt:=top 20
abbrev s_half : Stmt:=top 21
abbrev s_Qy : Stmt:=top 22
abbrev s_Qbj : Stmt:=top 24
abbrev s_Qbd : Stmt:=top 29
abbrev s_Qbk : Stmt:=top 31
abbrev s_Qbe : Stmt:=top 33
abbrev s_Qf : Stmt:=top 34
abbrev s_Qn : Stmt:=top 36
abbrev s_Qz : Stmt:=top 37
abbrev s_Qba : Stmt:=top 38
abbrev s_Qbf : Stmt:=top 39
abbrev s_Qu : Stmt:=top 40
abbrev s_Qbb : Stmt:=top 41
abbrev s_Qo : Stmt:=top 42
abbrev s_Qj : Stmt:=top 43
abbrev s_Qbg : Stmt:=top 44
abbrev s_Qbc : Stmt:=top 45
abbrev s_Qk : Stmt:=top 46
abbrev s_Qbl : Stmt:=top 47
abbrev s_Qbh : Stmt:=top 48
abbrev s_Qv : Stmt:=top 49
abbrev s_Qp : Stmt:=top 50
abbrev s_Qbm : Stmt:=top 51
abbrev s_Qw : Stmt:=top 52
abbrev s_Qg : Stmt:=top 53
abbrev s_Qq : Stmt:=top 54
abbrev s_law : Stmt:=top 55
abbrev s_Qh : Stmt:=inClass (top 30) 0
abbrev s_Qe : Stmt:=inClass (top 30) 1
abbrev s_Qb : Stmt:=inClass (top 30) 2
abbrev s_Qc : Stmt:=inClass (top 30) 3
abbrev s_Qd : Stmt:=inClass (top 30) 4
abbrev s_Qi : Stmt:=inClass (top 30) 6
theorem sc_Qr : FnScope ["thing"] ["thing"] (defScope s_Qr):=⟨rfl,rfl,rfl,by decide +kernel,rfl,by decide +kernel,by decide +kernel⟩
theorem sc_Qx : FnScope ["frame", "text", "letters", "sign"] ["frame", "text"] (defScope s_Qx):=⟨rfl,rfl,rfl,by decide +kernel,rfl,by decide +kernel,by decide +kernel⟩
theorem sc_rank : FnScope ["frame", "text", "letters"] ["frame", "text"] (defScope s_rank):=⟨rfl,rfl,rfl,by decide +kernel,rfl,by decide +kernel,by decide +kernel⟩
theorem sc_Ql : FnScope ["frame", "text", "at", "first_letter", "depth", "near"] ["frame", "text", "at"] (defScope s_Ql):=⟨rfl,rfl,rfl,by decide +kernel,rfl,by decide +kernel,by decide +kernel⟩
theorem sc_Qm : FnScope ["frame"] ["frame"] (defScope s_Qm):=⟨rfl,rfl,rfl,by decide +kernel,rfl,by decide +kernel,by decide +kernel⟩
theorem sc_Qs : FnScope ["frame", "texts"] ["frame", "texts"] (defScope s_Qs):=⟨rfl,rfl,rfl,by decide +kernel,rfl,by decide +kernel,by decide +kernel⟩
theorem sc_Qa : FnScope ["one", "other", "rest"] ["one", "other"] (defScope s_Qa):=⟨rfl,rfl,rfl,by decide +kernel,rfl,by decide +kernel,by decide +kernel⟩
theorem sc_Qt : FnScope ["top", "bottom", "divisor"] ["top", "bottom"] (defScope s_Qt):=⟨rfl,rfl,rfl,by decide +kernel,rfl,by decide +kernel,by decide +kernel⟩
theorem sc_plus : FnScope ["one", "other"] ["one", "other"] (defScope s_plus):=⟨rfl,rfl,rfl,by decide +kernel,rfl,by decide +kernel,by decide +kernel⟩
theorem sc_Qbi : FnScope ["one", "other"] ["one", "other"] (defScope s_Qbi):=⟨rfl,rfl,rfl,by decide +kernel,rfl,by decide +kernel,by decide +kernel⟩
theorem sc_half : FnScope ["one"] ["one"] (defScope s_half):=⟨rfl,rfl,rfl,by decide +kernel,rfl,by decide +kernel,by decide +kernel⟩
theorem sc_Qy : FnScope ["many", "told", "one"] ["many"] (defScope s_Qy):=⟨rfl,rfl,rfl,by decide +kernel,rfl,by decide +kernel,by decide +kernel⟩
theorem sc_Qbj : FnScope ["counts", "place"] ["counts", "place"] (defScope s_Qbj):=⟨rfl,rfl,rfl,by decide +kernel,rfl,by decide +kernel,by decide +kernel⟩
theorem sc_Qbd : FnScope ["counts", "place", "told"] ["counts", "place"] (defScope s_Qbd):=⟨rfl,rfl,rfl,by decide +kernel,rfl,by decide +kernel,by decide +kernel⟩
theorem sc_Qbk : FnScope ["frame", "text", "growth", "sign"] ["frame", "text"] (defScope s_Qbk):=⟨rfl,rfl,rfl,by decide +kernel,rfl,by decide +kernel,by decide +kernel⟩
theorem sc_Qbe : FnScope ["frame", "text"] ["frame", "text"] (defScope s_Qbe):=⟨rfl,rfl,rfl,by decide +kernel,rfl,by decide +kernel,by decide +kernel⟩
theorem sc_Qf : FnScope ["frame", "text", "table"] ["frame", "text"] (defScope s_Qf):=⟨rfl,rfl,rfl,by decide +kernel,rfl,by decide +kernel,by decide +kernel⟩
theorem sc_Qn : FnScope ["script", "k"] ["script", "k"] (defScope s_Qn):=⟨rfl,rfl,rfl,by decide +kernel,rfl,by decide +kernel,by decide +kernel⟩
theorem sc_Qz : FnScope ["cell", "many", "some", "number", "found", "k", "at"] ["cell", "many"] (defScope s_Qz):=⟨rfl,rfl,rfl,by decide +kernel,rfl,by decide +kernel,by decide +kernel⟩
theorem sc_Qba : FnScope ["cell", "many", "depth"] ["cell"] (defScope s_Qba):=⟨rfl,rfl,rfl,by decide +kernel,rfl,by decide +kernel,by decide +kernel⟩
theorem sc_Qbf : FnScope ["cells", "letters", "lean", "text", "cell", "pick"] ["cells", "letters", "lean"] (defScope s_Qbf):=⟨rfl,rfl,rfl,by decide +kernel,rfl,by decide +kernel,by decide +kernel⟩
theorem sc_Qu : FnScope ["frame", "text", "at", "row", "k"] ["frame", "text", "at"] (defScope s_Qu):=⟨rfl,rfl,rfl,by decide +kernel,rfl,by decide +kernel,by decide +kernel⟩
theorem sc_Qbb : FnScope ["found"] ["found"] (defScope s_Qbb):=⟨rfl,rfl,rfl,by decide +kernel,rfl,by decide +kernel,by decide +kernel⟩
theorem sc_Qo : FnScope ["one", "other"] ["one", "other"] (defScope s_Qo):=⟨rfl,rfl,rfl,by decide +kernel,rfl,by decide +kernel,by decide +kernel⟩
theorem sc_Qj : FnScope ["found", "top", "bottom"] ["found", "top", "bottom"] (defScope s_Qj):=⟨rfl,rfl,rfl,by decide +kernel,rfl,by decide +kernel,by decide +kernel⟩
theorem sc_Qbg : FnScope ["frame", "text", "found", "at", "row", "size"] ["frame", "text"] (defScope s_Qbg):=⟨rfl,rfl,rfl,by decide +kernel,rfl,by decide +kernel,by decide +kernel⟩
theorem sc_Qbc : FnScope ["came", "many", "top", "bottom", "at"] ["came", "many"] (defScope s_Qbc):=⟨rfl,rfl,rfl,by decide +kernel,rfl,by decide +kernel,by decide +kernel⟩
theorem sc_Qk : FnScope ["frame", "weights", "knot", "top", "bottom", "letter", "one"] ["frame", "weights", "knot"] (defScope s_Qk):=⟨rfl,rfl,rfl,by decide +kernel,rfl,by decide +kernel,by decide +kernel⟩
theorem sc_Qbl : FnScope ["frame", "came", "weights", "row", "knot", "worth_due", "more", "top"] ["frame", "came", "weights", "row"] (defScope s_Qbl):=⟨rfl,rfl,rfl,by decide +kernel,rfl,by decide +kernel,by decide +kernel⟩
theorem sc_Qbh : FnScope ["thing"] ["thing"] (defScope s_Qbh):=⟨rfl,rfl,rfl,by decide +kernel,rfl,by decide +kernel,by decide +kernel⟩
theorem sc_Qv : FnScope ["frame", "text", "paper", "weights", "row", "came", "due"] ["frame", "text", "paper"] (defScope s_Qv):=⟨rfl,rfl,rfl,by decide +kernel,rfl,by decide +kernel,by decide +kernel⟩
theorem sc_Qp : FnScope ["letters", "cell", "some"] ["letters", "cell"] (defScope s_Qp):=⟨rfl,rfl,rfl,by decide +kernel,rfl,by decide +kernel,by decide +kernel⟩
theorem sc_Qbm : FnScope ["letters", "text", "cell", "at", "rest", "one", "other"] ["letters", "text", "cell"] (defScope s_Qbm):=⟨rfl,rfl,rfl,by decide +kernel,rfl,by decide +kernel,by decide +kernel⟩
theorem sc_Qw : FnScope ["cells", "size", "found", "k", "again"] ["cells", "size"] (defScope s_Qw):=⟨rfl,rfl,rfl,by decide +kernel,rfl,by decide +kernel,by decide +kernel⟩
theorem sc_Qg : FnScope ["script", "frame", "cells"] ["script", "frame"] (defScope s_Qg):=⟨rfl,rfl,rfl,by decide +kernel,rfl,by decide +kernel,by decide +kernel⟩
theorem sc_Qq : FnScope ["frame", "text", "whole", "kinds", "e"] ["frame", "text", "whole"] (defScope s_Qq):=⟨rfl,rfl,rfl,by decide +kernel,rfl,by decide +kernel,by decide +kernel⟩
theorem sc_law : FnScope ["script", "frame", "text", "bad", "paper", "first", "found"] ["script"] (defScope s_law):=⟨rfl,rfl,rfl,by decide +kernel,rfl,by decide +kernel,by decide +kernel⟩
theorem sc_Qh : FnScope ["self", "frame"] ["self", "frame"] (defScope s_Qh):=⟨rfl,rfl,rfl,by decide +kernel,rfl,by decide +kernel,by decide +kernel⟩
theorem sc_Qe : FnScope ["self", "knot"] ["self", "knot"] (defScope s_Qe):=⟨rfl,rfl,rfl,by decide +kernel,rfl,by decide +kernel,by decide +kernel⟩
theorem sc_Qb : FnScope ["self", "knot", "changed", "weights", "letter"] ["self", "knot", "changed"] (defScope s_Qb):=⟨rfl,rfl,rfl,by decide +kernel,rfl,by decide +kernel,by decide +kernel⟩
theorem sc_Qc : FnScope ["self", "sign", "place", "path", "told", "size", "knot", "entry", "worth", "weight"] ["self", "sign"] (defScope s_Qc):=⟨rfl,rfl,rfl,by decide +kernel,rfl,by decide +kernel,by decide +kernel⟩
theorem sc_Qd : FnScope ["self"] ["self"] (defScope s_Qd):=⟨rfl,rfl,rfl,by decide +kernel,rfl,by decide +kernel,by decide +kernel⟩
theorem sc_Qi : FnScope ["self", "sign", "changed", "knot", "entry"] ["self", "sign"] (defScope s_Qi):=⟨rfl,rfl,rfl,by decide +kernel,rfl,by decide +kernel,by decide +kernel⟩
theorem bt_ValueError : bootBuiltins "ValueError" = some (.type "ValueError"):=by decide +kernel
theorem bt_abs : bootBuiltins "abs" = some (.builtin "abs"):=by decide +kernel
theorem bt_all : bootBuiltins "all" = some (.builtin "all"):=by decide +kernel
theorem bt_bool : bootBuiltins "bool" = some (.type "bool"):=by decide +kernel
theorem bt_int : bootBuiltins "int" = some (.type "int"):=by decide +kernel
theorem bt_isinstance : bootBuiltins "isinstance" = some (.builtin "isinstance"):=by decide +kernel
theorem bt_len : bootBuiltins "len" = some (.builtin "len"):=by decide +kernel
theorem bt_list : bootBuiltins "list" = some (.type "list"):=by decide +kernel
theorem bt_max : bootBuiltins "max" = some (.builtin "max"):=by decide +kernel
theorem bt_reversed : bootBuiltins "reversed" = some (.type "reversed"):=by decide +kernel
theorem bt_str : bootBuiltins "str" = some (.type "str"):=by decide +kernel
theorem bt_sum : bootBuiltins "sum" = some (.builtin "sum"):=by decide +kernel
theorem bt_tuple : bootBuiltins "tuple" = some (.type "tuple"):=by decide +kernel
set_option genInjectivity false in
set_option genSizeOf false in
structure Adr where
 a_Qr : Addr
 fd_Qr : FuncData
 a_Qx : Addr
 fd_Qx : FuncData
 a_rank : Addr
 fd_rank : FuncData
 a_Ql : Addr
 fd_Ql : FuncData
 a_Qm : Addr
 fd_Qm : FuncData
 a_Qs : Addr
 fd_Qs : FuncData
 a_Qa : Addr
 fd_Qa : FuncData
 a_Qt : Addr
 fd_Qt : FuncData
 a_plus : Addr
 fd_plus : FuncData
 a_Qbi : Addr
 fd_Qbi : FuncData
 a_half : Addr
 fd_half : FuncData
 a_Qy : Addr
 fd_Qy : FuncData
 a_Qbj : Addr
 fd_Qbj : FuncData
 a_Qbd : Addr
 fd_Qbd : FuncData
 a_Qbk : Addr
 fd_Qbk : FuncData
 a_Qbe : Addr
 fd_Qbe : FuncData
 a_Qf : Addr
 fd_Qf : FuncData
 a_Qn : Addr
 fd_Qn : FuncData
 a_Qz : Addr
 fd_Qz : FuncData
 a_Qba : Addr
 fd_Qba : FuncData
 a_Qbf : Addr
 fd_Qbf : FuncData
 a_Qu : Addr
 fd_Qu : FuncData
 a_Qbb : Addr
 fd_Qbb : FuncData
 a_Qo : Addr
 fd_Qo : FuncData
 a_Qj : Addr
 fd_Qj : FuncData
 a_Qbg : Addr
 fd_Qbg : FuncData
 a_Qbc : Addr
 fd_Qbc : FuncData
 a_Qk : Addr
 fd_Qk : FuncData
 a_Qbl : Addr
 fd_Qbl : FuncData
 a_Qbh : Addr
 fd_Qbh : FuncData
 a_Qv : Addr
 fd_Qv : FuncData
 a_Qp : Addr
 fd_Qp : FuncData
 a_Qbm : Addr
 fd_Qbm : FuncData
 a_Qw : Addr
 fd_Qw : FuncData
 a_Qg : Addr
 fd_Qg : FuncData
 a_Qq : Addr
 fd_Qq : FuncData
 a_law : Addr
 fd_law : FuncData
 a_Qh : Addr
 fd_Qh : FuncData
 a_Qe : Addr
 fd_Qe : FuncData
 a_Qb : Addr
 fd_Qb : FuncData
 a_Qc : Addr
 fd_Qc : FuncData
 a_Qd : Addr
 fd_Qd : FuncData
 a_Qi : Addr
 fd_Qi : FuncData
 c_PressError : Addr
 c_NoFraction : Addr
 c_NoText : Addr
 c_NoSign : Addr
 c_Growth : Addr
 q_ONE : Addr
 k_COUNTS : Tok
 k_WORTH : Tok
 k_WEIGHT : Tok
structure Txt (K : PySem.W.Frag) (mg : Str -> Option Value) (t : Adr) : Prop where
 F_Qr : Fun K "is_whole" "is_whole" s_Qr t.a_Qr t.fd_Qr
 b_Qr : Binds K t.fd_Qr ["thing"] []
 m_Qr : mg "is_whole" = some (.ref t.a_Qr)
 F_Qx : Fun K "checked" "checked" s_Qx t.a_Qx t.fd_Qx
 b_Qx : Binds K t.fd_Qx ["frame", "text"] []
 m_Qx : mg "checked" = some (.ref t.a_Qx)
 F_rank : Fun K "rank" "rank" s_rank t.a_rank t.fd_rank
 b_rank : Binds K t.fd_rank ["frame", "text"] []
 m_rank : mg "rank" = some (.ref t.a_rank)
 F_Ql : Fun K "elders_at" "elders_at" s_Ql t.a_Ql t.fd_Ql
 b_Ql : Binds K t.fd_Ql ["frame", "text", "at"] []
 m_Ql : mg "elders_at" = some (.ref t.a_Ql)
 F_Qm : Fun K "no_counts" "no_counts" s_Qm t.a_Qm t.fd_Qm
 b_Qm : Binds K t.fd_Qm ["frame"] []
 m_Qm : mg "no_counts" = some (.ref t.a_Qm)
 F_Qs : Fun K "in_order" "in_order" s_Qs t.a_Qs t.fd_Qs
 b_Qs : Binds K t.fd_Qs ["frame", "texts"] []
 m_Qs : mg "in_order" = some (.ref t.a_Qs)
 F_Qa : Fun K "greatest_divisor" "greatest_divisor" s_Qa t.a_Qa t.fd_Qa
 b_Qa : Binds K t.fd_Qa ["one", "other"] []
 m_Qa : mg "greatest_divisor" = some (.ref t.a_Qa)
 F_Qt : Fun K "fraction" "fraction" s_Qt t.a_Qt t.fd_Qt
 b_Qt : Binds K t.fd_Qt ["top", "bottom"] []
 m_Qt : mg "fraction" = some (.ref t.a_Qt)
 F_plus : Fun K "plus" "plus" s_plus t.a_plus t.fd_plus
 b_plus : Binds K t.fd_plus ["one", "other"] []
 m_plus : mg "plus" = some (.ref t.a_plus)
 F_Qbi : Fun K "times" "times" s_Qbi t.a_Qbi t.fd_Qbi
 b_Qbi : Binds K t.fd_Qbi ["one", "other"] []
 m_Qbi : mg "times" = some (.ref t.a_Qbi)
 F_half : Fun K "half" "half" s_half t.a_half t.fd_half
 b_half : Binds K t.fd_half ["one"] []
 m_half : mg "half" = some (.ref t.a_half)
 F_Qy : Fun K "product" "product" s_Qy t.a_Qy t.fd_Qy
 b_Qy : Binds K t.fd_Qy ["many"] []
 m_Qy : mg "product" = some (.ref t.a_Qy)
 F_Qbj : Fun K "share" "share" s_Qbj t.a_Qbj t.fd_Qbj
 b_Qbj : Binds K t.fd_Qbj ["counts", "place"] []
 m_Qbj : mg "share" = some (.ref t.a_Qbj)
 F_Qbd : Fun K "raised" "raised" s_Qbd t.a_Qbd t.fd_Qbd
 b_Qbd : Binds K t.fd_Qbd ["counts", "place"] []
 m_Qbd : mg "raised" = some (.ref t.a_Qbd)
 F_Qbk : Fun K "grown" "grown" s_Qbk t.a_Qbk t.fd_Qbk
 b_Qbk : Binds K t.fd_Qbk ["frame", "text"] []
 m_Qbk : mg "grown" = some (.ref t.a_Qbk)
 F_Qbe : Fun K "weight" "weight" s_Qbe t.a_Qbe t.fd_Qbe
 b_Qbe : Binds K t.fd_Qbe ["frame", "text"] []
 m_Qbe : mg "weight" = some (.ref t.a_Qbe)
 F_Qf : Fun K "weigh_paper" "weigh_paper" s_Qf t.a_Qf t.fd_Qf
 b_Qf : Binds K t.fd_Qf ["frame", "text"] []
 m_Qf : mg "weigh_paper" = some (.ref t.a_Qf)
 F_Qn : Fun K "_law_cell_at" "_law_cell_at" s_Qn t.a_Qn t.fd_Qn
 b_Qn : Binds K t.fd_Qn ["script", "k"] []
 m_Qn : mg "_law_cell_at" = some (.ref t.a_Qn)
 F_Qz : Fun K "_law_signs" "_law_signs" s_Qz t.a_Qz t.fd_Qz
 b_Qz : Binds K t.fd_Qz ["cell", "many"] []
 m_Qz : mg "_law_signs" = some (.ref t.a_Qz)
 F_Qba : Fun K "_law_frame" "_law_frame" s_Qba t.a_Qba t.fd_Qba
 b_Qba : Binds K t.fd_Qba ["cell"] []
 m_Qba : mg "_law_frame" = some (.ref t.a_Qba)
 F_Qbf : Fun K "_law_text" "_law_text" s_Qbf t.a_Qbf t.fd_Qbf
 b_Qbf : Binds K t.fd_Qbf ["cells", "letters", "lean"] []
 m_Qbf : mg "_law_text" = some (.ref t.a_Qbf)
 F_Qu : Fun K "_law_elders" "_law_elders" s_Qu t.a_Qu t.fd_Qu
 b_Qu : Binds K t.fd_Qu ["frame", "text", "at"] []
 m_Qu : mg "_law_elders" = some (.ref t.a_Qu)
 F_Qbb : Fun K "_law_whole" "_law_whole" s_Qbb t.a_Qbb t.fd_Qbb
 b_Qbb : Binds K t.fd_Qbb ["found"] []
 m_Qbb : mg "_law_whole" = some (.ref t.a_Qbb)
 F_Qo : Fun K "_law_divisor" "_law_divisor" s_Qo t.a_Qo t.fd_Qo
 b_Qo : Binds K t.fd_Qo ["one", "other"] []
 m_Qo : mg "_law_divisor" = some (.ref t.a_Qo)
 F_Qj : Fun K "_law_fraction" "_law_fraction" s_Qj t.a_Qj t.fd_Qj
 b_Qj : Binds K t.fd_Qj ["found", "top", "bottom"] []
 m_Qj : mg "_law_fraction" = some (.ref t.a_Qj)
 F_Qbg : Fun K "_law_came" "_law_came" s_Qbg t.a_Qbg t.fd_Qbg
 b_Qbg : Binds K t.fd_Qbg ["frame", "text"] []
 m_Qbg : mg "_law_came" = some (.ref t.a_Qbg)
 F_Qbc : Fun K "_law_worth" "_law_worth" s_Qbc t.a_Qbc t.fd_Qbc
 b_Qbc : Binds K t.fd_Qbc ["came", "many"] []
 m_Qbc : mg "_law_worth" = some (.ref t.a_Qbc)
 F_Qk : Fun K "_law_branches" "_law_branches" s_Qk t.a_Qk t.fd_Qk
 b_Qk : Binds K t.fd_Qk ["frame", "weights", "knot"] []
 m_Qk : mg "_law_branches" = some (.ref t.a_Qk)
 F_Qbl : Fun K "_law_row" "_law_row" s_Qbl t.a_Qbl t.fd_Qbl
 b_Qbl : Binds K t.fd_Qbl ["frame", "came", "weights", "row"] []
 m_Qbl : mg "_law_row" = some (.ref t.a_Qbl)
 F_Qbh : Fun K "_law_pair" "_law_pair" s_Qbh t.a_Qbh t.fd_Qbh
 b_Qbh : Binds K t.fd_Qbh ["thing"] []
 m_Qbh : mg "_law_pair" = some (.ref t.a_Qbh)
 F_Qv : Fun K "_law_walked" "_law_walked" s_Qv t.a_Qv t.fd_Qv
 b_Qv : Binds K t.fd_Qv ["frame", "text", "paper"] []
 m_Qv : mg "_law_walked" = some (.ref t.a_Qv)
 F_Qp : Fun K "_law_strange" "_law_strange" s_Qp t.a_Qp t.fd_Qp
 b_Qp : Binds K t.fd_Qp ["letters", "cell"] []
 m_Qp : mg "_law_strange" = some (.ref t.a_Qp)
 F_Qbm : Fun K "_law_bad" "_law_bad" s_Qbm t.a_Qbm t.fd_Qbm
 b_Qbm : Binds K t.fd_Qbm ["letters", "text", "cell"] []
 m_Qbm : mg "_law_bad" = some (.ref t.a_Qbm)
 F_Qw : Fun K "_law_spread" "_law_spread" s_Qw t.a_Qw t.fd_Qw
 b_Qw : Binds K t.fd_Qw ["cells", "size"] []
 m_Qw : mg "_law_spread" = some (.ref t.a_Qw)
 F_Qg : Fun K "_law_told_text" "_law_told_text" s_Qg t.a_Qg t.fd_Qg
 b_Qg : Binds K t.fd_Qg ["script", "frame"] []
 m_Qg : mg "_law_told_text" = some (.ref t.a_Qg)
 F_Qq : Fun K "_law_refused" "_law_refused" s_Qq t.a_Qq t.fd_Qq
 b_Qq : Binds K t.fd_Qq ["frame", "text", "whole"] []
 m_Qq : mg "_law_refused" = some (.ref t.a_Qq)
 F_law : Fun K "law" "law" s_law t.a_law t.fd_law
 b_law : Binds K t.fd_law ["script"] []
 m_law : mg "law" = some (.ref t.a_law)
 F_Qh : Fun K "__init__" "Growth.__init__" s_Qh t.a_Qh t.fd_Qh
 b_Qh : Binds K t.fd_Qh ["self", "frame"] []
 mk_Growth : Mk K t.c_Growth t.a_Qh
 F_Qe : Fun K "entry" "Growth.entry" s_Qe t.a_Qe t.fd_Qe
 b_Qe : Binds K t.fd_Qe ["self", "knot"] []
 me_Qe : Meth K t.c_Growth "entry" t.a_Qe
 F_Qb : Fun K "branching" "Growth.branching" s_Qb t.a_Qb t.fd_Qb
 b_Qb : Binds K t.fd_Qb ["self", "knot", "changed"] []
 me_Qb : Meth K t.c_Growth "branching" t.a_Qb
 F_Qc : Fun K "changes" "Growth.changes" s_Qc t.a_Qc t.fd_Qc
 b_Qc : Binds K t.fd_Qc ["self", "sign"] []
 me_Qc : Meth K t.c_Growth "changes" t.a_Qc
 F_Qd : Fun K "weight" "Growth.weight" s_Qd t.a_Qd t.fd_Qd
 b_Qd : Binds K t.fd_Qd ["self"] []
 me_Qd : Meth K t.c_Growth "weight" t.a_Qd
 F_Qi : Fun K "grow" "Growth.grow" s_Qi t.a_Qi t.fd_Qi
 b_Qi : Binds K t.fd_Qi ["self", "sign"] []
 me_Qi : Meth K t.c_Growth "grow" t.a_Qi
 cl_Growth : Cls K t.c_Growth
 na_Growth_frame : NoAttr K t.c_Growth "frame"
 na_Growth_replaced : NoAttr K t.c_Growth "replaced"
 na_Growth_table : NoAttr K t.c_Growth "table"
 na_Growth_text : NoAttr K t.c_Growth "text"
 m_ValueError : mg "ValueError" = none
 m_abs : mg "abs" = none
 m_all : mg "all" = none
 m_bool : mg "bool" = none
 m_int : mg "int" = none
 m_isinstance : mg "isinstance" = none
 m_len : mg "len" = none
 m_list : mg "list" = none
 m_max : mg "max" = none
 m_range : mg "range" = none
 m_reversed : mg "reversed" = none
 m_sorted : mg "sorted" = none
 m_str : mg "str" = none
 m_sum : mg "sum" = none
 m_tuple : mg "tuple" = none
 m_PressError : mg "PressError" = some (.ref t.c_PressError)
 m_NoFraction : mg "NoFraction" = some (.ref t.c_NoFraction)
 m_NoText : mg "NoText" = some (.ref t.c_NoText)
 m_NoSign : mg "NoSign" = some (.ref t.c_NoSign)
 m_Growth : mg "Growth" = some (.ref t.c_Growth)
 m_COUNTS : mg "COUNTS" = some (.int 0 t.k_COUNTS)
 m_WORTH : mg "WORTH" = some (.int 1 t.k_WORTH)
 m_WEIGHT : mg "WEIGHT" = some (.int 2 t.k_WEIGHT)
 m_ONE : mg "ONE" = some (.ref t.q_ONE)
 tc_ONE : ∃ (o : Obj) (its : Array Value) (n : Nat),K.lookup t.q_ONE = some o /\ o.cls = .type "tuple" /\ o.data = .seq its n /\ its.size <= sizeLine /\ Vals [.int 1,.int 1] its.toList
 x_NoFraction : PySem.W.excIn K t.c_NoFraction [.type "ValueError",.type "Exception",.type "BaseException",.type "object"] "ValueError.__new__" = true
 z_NoFraction : XT.ExcK K t.c_NoFraction
 x_NoText : PySem.W.excIn K t.c_NoText [.type "ValueError",.type "Exception",.type "BaseException",.type "object"] "ValueError.__new__" = true
 z_NoText : XT.ExcK K t.c_NoText
 x_PressError : PySem.W.excIn K t.c_PressError [.type "ValueError",.type "Exception",.type "BaseException",.type "object"] "ValueError.__new__" = true
 z_PressError : XT.ExcK K t.c_PressError
 i_NoFraction_ValueError : PySem.W.kitOne K (.ref t.c_NoFraction) (.type "ValueError") = some true
 i_NoText_ValueError : PySem.W.kitOne K (.ref t.c_NoText) (.type "ValueError") = some true
 i_NoFraction_NoText : PySem.W.kitOne K (.ref t.c_NoFraction) (.ref t.c_NoText) = some false
 i_NoText_NoText : PySem.W.kitOne K (.ref t.c_NoText) (.ref t.c_NoText) = some true
 i_NoFraction_NoSign : PySem.W.kitOne K (.ref t.c_NoFraction) (.ref t.c_NoSign) = some false
 i_NoText_NoSign : PySem.W.kitOne K (.ref t.c_NoText) (.ref t.c_NoSign) = some false
 u_NoFraction_PressError : PySem.W.mroIn K t.c_NoFraction (.ref t.c_PressError) = some true
 u_NoText_PressError : PySem.W.mroIn K t.c_NoText (.ref t.c_PressError) = some true
 bl : ∀ (s : Shared) (v : Value),BindsTo s t.fd_law ⟨[v],[]⟩ [("script",v)]
section
variable {K : PySem.W.Frag}
abbrev fnx (x qual : Str) (st : Stmt) (kV doc pm : Value) (an : Option Addr) (cdv ct : Value) : FuncData:=PySem.W.fnOf x qual (defArgs st) (defBody st) (defScope st) .none kV doc pm an cdv ct
def Fx (K : PySem.W.Frag) (x : Str) (st : Stmt) (a : Addr) (fd : FuncData) : Prop:=Fun K x x st a fd /\ PySem.W.nsIn K mainGlobals x = some (some (.ref a))
def Mx (K : PySem.W.Frag) (x qual : Str) (st : Stmt) (c a : Addr) (fd : FuncData) : Prop:=Fun K x qual st a fd /\ PySem.W.findIn K (.ref c) x = some (some (.ref a)) /\ PySem.W.isFn K (.ref a) = true
theorem fx {x : Str} {st : Stmt} {a : Addr} {oc kV doc pm cdv ct : Value} {od an : Option Addr} {osl : Array (Option Value)} (n : PySem.W.nsIn K mainGlobals x = some (some (.ref a))) (l : K.lookup a = some ⟨oc,od,.func (PySem.W.fnOf x x (defArgs st) (defBody st) (defScope st) .none kV doc pm an cdv ct),osl⟩)
 (c : PySem.W.codeIn K cdv x = true) (k : PySem.W.keepIn K (.ref a) = true) : Fx K x st a (PySem.W.fnOf x x (defArgs st) (defBody st) (defScope st) .none kV doc pm an cdv ct):=⟨fun_mk l c k,n⟩
theorem mx {x qual : Str} {st : Stmt} {b a : Addr} {oc kV doc pm cdv ct : Value} {od an : Option Addr} {osl : Array (Option Value)} (n : PySem.W.findIn K (.ref b) x = some (some (.ref a))) (i : PySem.W.isFn K (.ref a) = true) (l : K.lookup a = some ⟨oc,od,.func (PySem.W.fnOf x qual (defArgs st) (defBody st) (defScope st) .none kV doc pm an cdv ct),osl⟩)
 (c : PySem.W.codeIn K cdv qual = true) (k : PySem.W.keepIn K (.ref a) = true) : Mx K x qual st b a (PySem.W.fnOf x qual (defArgs st) (defBody st) (defScope st) .none kV doc pm an cdv ct):=⟨fun_mk l c k,n,i⟩
variable {x qual : Str} {st : Stmt} {f : Addr} {fd : FuncData}
theorem b1 {p0 : Str} (F : Fun K x qual st f fd) (h : ∀ (kV doc pm : Value) (an : Option Addr) (cdv ct u0 : Value),bindArgs (fnx x qual st kV doc pm an cdv ct) ⟨[u0],[]⟩ = pure [(p0,u0)]) : Binds K fd [p0] []:=F.binds λ _ _ _ _ _ _ us hl=>match us,hl with | [_],_=>h ..
theorem b2 {p0 p1 : Str} (F : Fun K x qual st f fd) (h : ∀ (kV doc pm : Value) (an : Option Addr) (cdv ct u0 u1 : Value),bindArgs (fnx x qual st kV doc pm an cdv ct) ⟨[u0,u1],[]⟩ = pure [(p0,u0),(p1,u1)]) : Binds K fd [p0,p1] []:=F.binds λ _ _ _ _ _ _ us hl=>match us,hl with | [_,_],_=>h ..
theorem b3 {p0 p1 p2 : Str} (F : Fun K x qual st f fd) (h : ∀ (kV doc pm : Value) (an : Option Addr) (cdv ct u0 u1 u2 : Value),bindArgs (fnx x qual st kV doc pm an cdv ct) ⟨[u0,u1,u2],[]⟩ = pure [(p0,u0),(p1,u1),(p2,u2)]) : Binds K fd [p0,p1,p2] []:=F.binds λ _ _ _ _ _ _ us hl=>match us,hl with | [_,_,_],_=>h ..
theorem b4 {p0 p1 p2 p3 : Str} (F : Fun K x qual st f fd) (h : ∀ (kV doc pm : Value) (an : Option Addr) (cdv ct u0 u1 u2 u3 : Value),bindArgs (fnx x qual st kV doc pm an cdv ct) ⟨[u0,u1,u2,u3],[]⟩ = pure [(p0,u0),(p1,u1),(p2,u2),(p3,u3)]) : Binds K fd [p0,p1,p2,p3] []:=F.binds λ _ _ _ _ _ _ us hl=>match us,hl with | [_,_,_,_],_=>h ..
theorem b5 {p0 p1 p2 p3 p4 : Str} (F : Fun K x qual st f fd) (h : ∀ (kV doc pm : Value) (an : Option Addr) (cdv ct u0 u1 u2 u3 u4 : Value),bindArgs (fnx x qual st kV doc pm an cdv ct) ⟨[u0,u1,u2,u3,u4],[]⟩ = pure [(p0,u0),(p1,u1),(p2,u2),(p3,u3),(p4,u4)]) : Binds K fd [p0,p1,p2,p3,p4] []:=F.binds λ _ _ _ _ _ _ us hl=>match us,hl with | [_,_,_,_,_],_=>h ..
theorem b6 {p0 p1 p2 p3 p4 p5 : Str} (F : Fun K x qual st f fd) (h : ∀ (kV doc pm : Value) (an : Option Addr) (cdv ct u0 u1 u2 u3 u4 u5 : Value),bindArgs (fnx x qual st kV doc pm an cdv ct) ⟨[u0,u1,u2,u3,u4,u5],[]⟩ = pure [(p0,u0),(p1,u1),(p2,u2),(p3,u3),(p4,u4),(p5,u5)]) : Binds K fd [p0,p1,p2,p3,p4,p5] []:=F.binds λ _ _ _ _ _ _ us hl=>match us,hl with | [_,_,_,_,_,_],_=>h ..
theorem b0 (F : Fun K x qual st f fd) (h : ∀ (kV doc pm : Value) (an : Option Addr) (cdv ct : Value),bindArgs (fnx x qual st kV doc pm an cdv ct) ⟨[],[]⟩ = pure []) : Binds K fd [] []:=F.binds λ _ _ _ _ _ _ us hl=>match us,hl with | [],_=>h ..
theorem bl0 {p0 : Str} (F : Fun K x qual st f fd) (h : ∀ (kV doc pm : Value) (an : Option Addr) (cdv ct u0 : Value),bindArgs (fnx x qual st kV doc pm an cdv ct) ⟨[u0],[]⟩ = pure [(p0,u0)]) (s : Shared) (v : Value) : BindsTo s fd ⟨[v],[]⟩ [(p0,v)]:=by
 obtain ⟨oc,od,kV,doc,pm,an,cdv,ct,osl,rfl,lk,hcd⟩:=F.ex
 exact .of_eq (h ..)
end
theorem txt_mk {K : PySem.W.Frag} {h : Heap} {mg : Str -> Option Value} (X : K.In h) (G : h.Ns mainGlobals mg)
 {a_Qr : Addr} {fd_Qr : FuncData}
 {a_Qx : Addr} {fd_Qx : FuncData}
 {a_rank : Addr} {fd_rank : FuncData}
 {a_Ql : Addr} {fd_Ql : FuncData}
 {a_Qm : Addr} {fd_Qm : FuncData}
 {a_Qs : Addr} {fd_Qs : FuncData}
 {a_Qa : Addr} {fd_Qa : FuncData}
 {a_Qt : Addr} {fd_Qt : FuncData}
 {a_plus : Addr} {fd_plus : FuncData}
 {a_Qbi : Addr} {fd_Qbi : FuncData}
 {a_half : Addr} {fd_half : FuncData}
 {a_Qy : Addr} {fd_Qy : FuncData}
 {a_Qbj : Addr} {fd_Qbj : FuncData}
 {a_Qbd : Addr} {fd_Qbd : FuncData}
 {a_Qbk : Addr} {fd_Qbk : FuncData}
 {a_Qbe : Addr} {fd_Qbe : FuncData}
 {a_Qf : Addr} {fd_Qf : FuncData}
 {a_Qn : Addr} {fd_Qn : FuncData}
 {a_Qz : Addr} {fd_Qz : FuncData}
 {a_Qba : Addr} {fd_Qba : FuncData}
 {a_Qbf : Addr} {fd_Qbf : FuncData}
 {a_Qu : Addr} {fd_Qu : FuncData}
 {a_Qbb : Addr} {fd_Qbb : FuncData}
 {a_Qo : Addr} {fd_Qo : FuncData}
 {a_Qj : Addr} {fd_Qj : FuncData}
 {a_Qbg : Addr} {fd_Qbg : FuncData}
 {a_Qbc : Addr} {fd_Qbc : FuncData}
 {a_Qk : Addr} {fd_Qk : FuncData}
 {a_Qbl : Addr} {fd_Qbl : FuncData}
 {a_Qbh : Addr} {fd_Qbh : FuncData}
 {a_Qv : Addr} {fd_Qv : FuncData}
 {a_Qp : Addr} {fd_Qp : FuncData}
 {a_Qbm : Addr} {fd_Qbm : FuncData}
 {a_Qw : Addr} {fd_Qw : FuncData}
 {a_Qg : Addr} {fd_Qg : FuncData}
 {a_Qq : Addr} {fd_Qq : FuncData}
 {a_law : Addr} {fd_law : FuncData}
 {a_Qh : Addr} {fd_Qh : FuncData}
 {a_Qe : Addr} {fd_Qe : FuncData}
 {a_Qb : Addr} {fd_Qb : FuncData}
 {a_Qc : Addr} {fd_Qc : FuncData}
 {a_Qd : Addr} {fd_Qd : FuncData}
 {a_Qi : Addr} {fd_Qi : FuncData}
 {c_PressError : Addr}
 {c_NoFraction : Addr}
 {c_NoText : Addr}
 {c_NoSign : Addr}
 {c_Growth : Addr}
 {q_ONE : Addr} {od_ONE : Option Addr} {sl_ONE : Array (Option Value)} {nn_ONE : Nat} {i0_ONE i1_ONE : Tok}
 {k_COUNTS : Tok}
 {k_WORTH : Tok}
 {k_WEIGHT : Tok}
 (f_Qr : Fx K "is_whole" s_Qr a_Qr fd_Qr)
 (f_Qx : Fx K "checked" s_Qx a_Qx fd_Qx)
 (f_rank : Fx K "rank" s_rank a_rank fd_rank)
 (f_Ql : Fx K "elders_at" s_Ql a_Ql fd_Ql)
 (f_Qm : Fx K "no_counts" s_Qm a_Qm fd_Qm)
 (f_Qs : Fx K "in_order" s_Qs a_Qs fd_Qs)
 (f_Qa : Fx K "greatest_divisor" s_Qa a_Qa fd_Qa)
 (f_Qt : Fx K "fraction" s_Qt a_Qt fd_Qt)
 (f_plus : Fx K "plus" s_plus a_plus fd_plus)
 (f_Qbi : Fx K "times" s_Qbi a_Qbi fd_Qbi)
 (f_half : Fx K "half" s_half a_half fd_half)
 (f_Qy : Fx K "product" s_Qy a_Qy fd_Qy)
 (f_Qbj : Fx K "share" s_Qbj a_Qbj fd_Qbj)
 (f_Qbd : Fx K "raised" s_Qbd a_Qbd fd_Qbd)
 (f_Qbk : Fx K "grown" s_Qbk a_Qbk fd_Qbk)
 (f_Qbe : Fx K "weight" s_Qbe a_Qbe fd_Qbe)
 (f_Qf : Fx K "weigh_paper" s_Qf a_Qf fd_Qf)
 (f_Qn : Fx K "_law_cell_at" s_Qn a_Qn fd_Qn)
 (f_Qz : Fx K "_law_signs" s_Qz a_Qz fd_Qz)
 (f_Qba : Fx K "_law_frame" s_Qba a_Qba fd_Qba)
 (f_Qbf : Fx K "_law_text" s_Qbf a_Qbf fd_Qbf)
 (f_Qu : Fx K "_law_elders" s_Qu a_Qu fd_Qu)
 (f_Qbb : Fx K "_law_whole" s_Qbb a_Qbb fd_Qbb)
 (f_Qo : Fx K "_law_divisor" s_Qo a_Qo fd_Qo)
 (f_Qj : Fx K "_law_fraction" s_Qj a_Qj fd_Qj)
 (f_Qbg : Fx K "_law_came" s_Qbg a_Qbg fd_Qbg)
 (f_Qbc : Fx K "_law_worth" s_Qbc a_Qbc fd_Qbc)
 (f_Qk : Fx K "_law_branches" s_Qk a_Qk fd_Qk)
 (f_Qbl : Fx K "_law_row" s_Qbl a_Qbl fd_Qbl)
 (f_Qbh : Fx K "_law_pair" s_Qbh a_Qbh fd_Qbh)
 (f_Qv : Fx K "_law_walked" s_Qv a_Qv fd_Qv)
 (f_Qp : Fx K "_law_strange" s_Qp a_Qp fd_Qp)
 (f_Qbm : Fx K "_law_bad" s_Qbm a_Qbm fd_Qbm)
 (f_Qw : Fx K "_law_spread" s_Qw a_Qw fd_Qw)
 (f_Qg : Fx K "_law_told_text" s_Qg a_Qg fd_Qg)
 (f_Qq : Fx K "_law_refused" s_Qq a_Qq fd_Qq)
 (f_law : Fx K "law" s_law a_law fd_law)
 (n_Growth : PySem.W.nsIn K mainGlobals "Growth" = some (some (.ref c_Growth)))
 (f_Qh : Mx K "__init__" "Growth.__init__" s_Qh c_Growth a_Qh fd_Qh)
 (f_Qe : Mx K "entry" "Growth.entry" s_Qe c_Growth a_Qe fd_Qe)
 (f_Qb : Mx K "branching" "Growth.branching" s_Qb c_Growth a_Qb fd_Qb)
 (f_Qc : Mx K "changes" "Growth.changes" s_Qc c_Growth a_Qc fd_Qc)
 (f_Qd : Mx K "weight" "Growth.weight" s_Qd c_Growth a_Qd fd_Qd)
 (f_Qi : Mx K "grow" "Growth.grow" s_Qi c_Growth a_Qi fd_Qi)
 (pg_Growth : PySem.W.plainGet K c_Growth Str.empty = true)
 (hd_Growth : PySem.W.hasDictIn K c_Growth = true)
 (po_Growth : PySem.W.plainOver K c_Growth = true)
 (sa_Growth : PySem.W.findIn K (.ref c_Growth) "__setattr__" = some (some (.builtin "object.__setattr__")))
 (mk_Growth : PySem.W.makesIn K c_Growth = true)
 (kc_Growth : PySem.W.keepIn K (.ref c_Growth) = true)
 (na_Growth_frame : PySem.W.findIn K (.ref c_Growth) "frame" = some none)
 (na_Growth_replaced : PySem.W.findIn K (.ref c_Growth) "replaced" = some none)
 (na_Growth_table : PySem.W.findIn K (.ref c_Growth) "table" = some none)
 (na_Growth_text : PySem.W.findIn K (.ref c_Growth) "text" = some none)
 (n_ValueError : PySem.W.nsIn K mainGlobals "ValueError" = some none)
 (n_abs : PySem.W.nsIn K mainGlobals "abs" = some none)
 (n_all : PySem.W.nsIn K mainGlobals "all" = some none)
 (n_bool : PySem.W.nsIn K mainGlobals "bool" = some none)
 (n_int : PySem.W.nsIn K mainGlobals "int" = some none)
 (n_isinstance : PySem.W.nsIn K mainGlobals "isinstance" = some none)
 (n_len : PySem.W.nsIn K mainGlobals "len" = some none)
 (n_list : PySem.W.nsIn K mainGlobals "list" = some none)
 (n_max : PySem.W.nsIn K mainGlobals "max" = some none)
 (n_range : PySem.W.nsIn K mainGlobals "range" = some none)
 (n_reversed : PySem.W.nsIn K mainGlobals "reversed" = some none)
 (n_sorted : PySem.W.nsIn K mainGlobals "sorted" = some none)
 (n_str : PySem.W.nsIn K mainGlobals "str" = some none)
 (n_sum : PySem.W.nsIn K mainGlobals "sum" = some none)
 (n_tuple : PySem.W.nsIn K mainGlobals "tuple" = some none)
 (n_PressError : PySem.W.nsIn K mainGlobals "PressError" = some (some (.ref c_PressError)))
 (n_NoFraction : PySem.W.nsIn K mainGlobals "NoFraction" = some (some (.ref c_NoFraction)))
 (n_NoText : PySem.W.nsIn K mainGlobals "NoText" = some (some (.ref c_NoText)))
 (n_NoSign : PySem.W.nsIn K mainGlobals "NoSign" = some (some (.ref c_NoSign)))
 (n_COUNTS : PySem.W.nsIn K mainGlobals "COUNTS" = some (some (.int 0 k_COUNTS)))
 (n_WORTH : PySem.W.nsIn K mainGlobals "WORTH" = some (some (.int 1 k_WORTH)))
 (n_WEIGHT : PySem.W.nsIn K mainGlobals "WEIGHT" = some (some (.int 2 k_WEIGHT)))
 (n_ONE : PySem.W.nsIn K mainGlobals "ONE" = some (some (.ref q_ONE)))
 (lk_ONE : K.lookup q_ONE = some ⟨.type "tuple",od_ONE,.seq #[.int 1 i0_ONE,.int 1 i1_ONE] nn_ONE,sl_ONE⟩)
 (x_NoFraction : PySem.W.excIn K c_NoFraction [.type "ValueError",.type "Exception",.type "BaseException",.type "object"] "ValueError.__new__" = true)
 (zga_NoFraction : PySem.W.findIn K (.ref c_NoFraction) "__getattribute__" = some (some (.builtin "BaseException.__getattribute__")))
 (zgt_NoFraction : PySem.W.findIn K (.ref c_NoFraction) "__getattr__" = some none)
 (zcl_NoFraction : PySem.W.findIn K (.ref c_NoFraction) "__class__" = some (some (.builtin "object.__class__")))
 (zob_NoFraction : PySem.W.mroIn K c_NoFraction (.type "object") = some true)
 (zbe_NoFraction : PySem.W.mroIn K c_NoFraction (.type "BaseException") = some true)
 (x_NoText : PySem.W.excIn K c_NoText [.type "ValueError",.type "Exception",.type "BaseException",.type "object"] "ValueError.__new__" = true)
 (zga_NoText : PySem.W.findIn K (.ref c_NoText) "__getattribute__" = some (some (.builtin "BaseException.__getattribute__")))
 (zgt_NoText : PySem.W.findIn K (.ref c_NoText) "__getattr__" = some none)
 (zcl_NoText : PySem.W.findIn K (.ref c_NoText) "__class__" = some (some (.builtin "object.__class__")))
 (zob_NoText : PySem.W.mroIn K c_NoText (.type "object") = some true)
 (zbe_NoText : PySem.W.mroIn K c_NoText (.type "BaseException") = some true)
 (x_PressError : PySem.W.excIn K c_PressError [.type "ValueError",.type "Exception",.type "BaseException",.type "object"] "ValueError.__new__" = true)
 (zga_PressError : PySem.W.findIn K (.ref c_PressError) "__getattribute__" = some (some (.builtin "BaseException.__getattribute__")))
 (zgt_PressError : PySem.W.findIn K (.ref c_PressError) "__getattr__" = some none)
 (zcl_PressError : PySem.W.findIn K (.ref c_PressError) "__class__" = some (some (.builtin "object.__class__")))
 (zob_PressError : PySem.W.mroIn K c_PressError (.type "object") = some true)
 (zbe_PressError : PySem.W.mroIn K c_PressError (.type "BaseException") = some true)
 (i_NoFraction_ValueError : PySem.W.kitOne K (.ref c_NoFraction) (.type "ValueError") = some true)
 (i_NoText_ValueError : PySem.W.kitOne K (.ref c_NoText) (.type "ValueError") = some true)
 (i_NoFraction_NoText : PySem.W.kitOne K (.ref c_NoFraction) (.ref c_NoText) = some false)
 (i_NoText_NoText : PySem.W.kitOne K (.ref c_NoText) (.ref c_NoText) = some true)
 (i_NoFraction_NoSign : PySem.W.kitOne K (.ref c_NoFraction) (.ref c_NoSign) = some false)
 (i_NoText_NoSign : PySem.W.kitOne K (.ref c_NoText) (.ref c_NoSign) = some false)
 (u_NoFraction_PressError : PySem.W.mroIn K c_NoFraction (.ref c_PressError) = some true)
 (u_NoText_PressError : PySem.W.mroIn K c_NoText (.ref c_PressError) = some true)
 : ∃ t,Txt K mg t:=by
 exact ⟨⟨_,_,_,_,_,_,_,_,_,_,_,_,_,_,_,_,_,_,_,_,_,_,_,_,_,_,_,_,_,_,_,_,_,_,_,_,_,_,_,_,_,_,_,_,_,_,_,_,_,_,_,_,_,_,_,_,_,_,_,_,_,_,_,_,_,_,_,_,_,_,_,_,_,_,_,_,_,_,_,_,_,_,_,_,_,_,_,_,_,_,_,_,_,_,_⟩,⟨
  f_Qr.1,b1 f_Qr.1 λ _ _ _ _ _ _ _=>rfl,PySem.W.mg_of X G f_Qr.2,
  f_Qx.1,b2 f_Qx.1 λ _ _ _ _ _ _ _ _=>rfl,PySem.W.mg_of X G f_Qx.2,
  f_rank.1,b2 f_rank.1 λ _ _ _ _ _ _ _ _=>rfl,PySem.W.mg_of X G f_rank.2,
  f_Ql.1,b3 f_Ql.1 λ _ _ _ _ _ _ _ _ _=>rfl,PySem.W.mg_of X G f_Ql.2,
  f_Qm.1,b1 f_Qm.1 λ _ _ _ _ _ _ _=>rfl,PySem.W.mg_of X G f_Qm.2,
  f_Qs.1,b2 f_Qs.1 λ _ _ _ _ _ _ _ _=>rfl,PySem.W.mg_of X G f_Qs.2,
  f_Qa.1,b2 f_Qa.1 λ _ _ _ _ _ _ _ _=>rfl,PySem.W.mg_of X G f_Qa.2,
  f_Qt.1,b2 f_Qt.1 λ _ _ _ _ _ _ _ _=>rfl,PySem.W.mg_of X G f_Qt.2,
  f_plus.1,b2 f_plus.1 λ _ _ _ _ _ _ _ _=>rfl,PySem.W.mg_of X G f_plus.2,
  f_Qbi.1,b2 f_Qbi.1 λ _ _ _ _ _ _ _ _=>rfl,PySem.W.mg_of X G f_Qbi.2,
  f_half.1,b1 f_half.1 λ _ _ _ _ _ _ _=>rfl,PySem.W.mg_of X G f_half.2,
  f_Qy.1,b1 f_Qy.1 λ _ _ _ _ _ _ _=>rfl,PySem.W.mg_of X G f_Qy.2,
  f_Qbj.1,b2 f_Qbj.1 λ _ _ _ _ _ _ _ _=>rfl,PySem.W.mg_of X G f_Qbj.2,
  f_Qbd.1,b2 f_Qbd.1 λ _ _ _ _ _ _ _ _=>rfl,PySem.W.mg_of X G f_Qbd.2,
  f_Qbk.1,b2 f_Qbk.1 λ _ _ _ _ _ _ _ _=>rfl,PySem.W.mg_of X G f_Qbk.2,
  f_Qbe.1,b2 f_Qbe.1 λ _ _ _ _ _ _ _ _=>rfl,PySem.W.mg_of X G f_Qbe.2,
  f_Qf.1,b2 f_Qf.1 λ _ _ _ _ _ _ _ _=>rfl,PySem.W.mg_of X G f_Qf.2,
  f_Qn.1,b2 f_Qn.1 λ _ _ _ _ _ _ _ _=>rfl,PySem.W.mg_of X G f_Qn.2,
  f_Qz.1,b2 f_Qz.1 λ _ _ _ _ _ _ _ _=>rfl,PySem.W.mg_of X G f_Qz.2,
  f_Qba.1,b1 f_Qba.1 λ _ _ _ _ _ _ _=>rfl,PySem.W.mg_of X G f_Qba.2,
  f_Qbf.1,b3 f_Qbf.1 λ _ _ _ _ _ _ _ _ _=>rfl,PySem.W.mg_of X G f_Qbf.2,
  f_Qu.1,b3 f_Qu.1 λ _ _ _ _ _ _ _ _ _=>rfl,PySem.W.mg_of X G f_Qu.2,
  f_Qbb.1,b1 f_Qbb.1 λ _ _ _ _ _ _ _=>rfl,PySem.W.mg_of X G f_Qbb.2,
  f_Qo.1,b2 f_Qo.1 λ _ _ _ _ _ _ _ _=>rfl,PySem.W.mg_of X G f_Qo.2,
  f_Qj.1,b3 f_Qj.1 λ _ _ _ _ _ _ _ _ _=>rfl,PySem.W.mg_of X G f_Qj.2,
  f_Qbg.1,b2 f_Qbg.1 λ _ _ _ _ _ _ _ _=>rfl,PySem.W.mg_of X G f_Qbg.2,
  f_Qbc.1,b2 f_Qbc.1 λ _ _ _ _ _ _ _ _=>rfl,PySem.W.mg_of X G f_Qbc.2,
  f_Qk.1,b3 f_Qk.1 λ _ _ _ _ _ _ _ _ _=>rfl,PySem.W.mg_of X G f_Qk.2,
  f_Qbl.1,b4 f_Qbl.1 λ _ _ _ _ _ _ _ _ _ _=>rfl,PySem.W.mg_of X G f_Qbl.2,
  f_Qbh.1,b1 f_Qbh.1 λ _ _ _ _ _ _ _=>rfl,PySem.W.mg_of X G f_Qbh.2,
  f_Qv.1,b3 f_Qv.1 λ _ _ _ _ _ _ _ _ _=>rfl,PySem.W.mg_of X G f_Qv.2,
  f_Qp.1,b2 f_Qp.1 λ _ _ _ _ _ _ _ _=>rfl,PySem.W.mg_of X G f_Qp.2,
  f_Qbm.1,b3 f_Qbm.1 λ _ _ _ _ _ _ _ _ _=>rfl,PySem.W.mg_of X G f_Qbm.2,
  f_Qw.1,b2 f_Qw.1 λ _ _ _ _ _ _ _ _=>rfl,PySem.W.mg_of X G f_Qw.2,
  f_Qg.1,b2 f_Qg.1 λ _ _ _ _ _ _ _ _=>rfl,PySem.W.mg_of X G f_Qg.2,
  f_Qq.1,b3 f_Qq.1 λ _ _ _ _ _ _ _ _ _=>rfl,PySem.W.mg_of X G f_Qq.2,
  f_law.1,b1 f_law.1 λ _ _ _ _ _ _ _=>rfl,PySem.W.mg_of X G f_law.2,
  f_Qh.1,b2 f_Qh.1 λ _ _ _ _ _ _ _ _=>rfl,⟨mk_Growth,f_Qh.2.1,f_Qh.2.2,kc_Growth⟩,
  f_Qe.1,b2 f_Qe.1 λ _ _ _ _ _ _ _ _=>rfl,⟨f_Qe.2.1,f_Qe.2.2,f_Qe.1.kp⟩,
  f_Qb.1,b3 f_Qb.1 λ _ _ _ _ _ _ _ _ _=>rfl,⟨f_Qb.2.1,f_Qb.2.2,f_Qb.1.kp⟩,
  f_Qc.1,b2 f_Qc.1 λ _ _ _ _ _ _ _ _=>rfl,⟨f_Qc.2.1,f_Qc.2.2,f_Qc.1.kp⟩,
  f_Qd.1,b1 f_Qd.1 λ _ _ _ _ _ _ _=>rfl,⟨f_Qd.2.1,f_Qd.2.2,f_Qd.1.kp⟩,
  f_Qi.1,b2 f_Qi.1 λ _ _ _ _ _ _ _ _=>rfl,⟨f_Qi.2.1,f_Qi.2.2,f_Qi.1.kp⟩,
  ⟨pg_Growth,hd_Growth,po_Growth,sa_Growth⟩,
  na_Growth_frame,
  na_Growth_replaced,
  na_Growth_table,
  na_Growth_text,
  PySem.W.mg_none_of X G n_ValueError,
  PySem.W.mg_none_of X G n_abs,
  PySem.W.mg_none_of X G n_all,
  PySem.W.mg_none_of X G n_bool,
  PySem.W.mg_none_of X G n_int,
  PySem.W.mg_none_of X G n_isinstance,
  PySem.W.mg_none_of X G n_len,
  PySem.W.mg_none_of X G n_list,
  PySem.W.mg_none_of X G n_max,
  PySem.W.mg_none_of X G n_range,
  PySem.W.mg_none_of X G n_reversed,
  PySem.W.mg_none_of X G n_sorted,
  PySem.W.mg_none_of X G n_str,
  PySem.W.mg_none_of X G n_sum,
  PySem.W.mg_none_of X G n_tuple,
  PySem.W.mg_of X G n_PressError,
  PySem.W.mg_of X G n_NoFraction,
  PySem.W.mg_of X G n_NoText,
  PySem.W.mg_of X G n_NoSign,
  PySem.W.mg_of X G n_Growth,
  PySem.W.mg_of X G n_COUNTS,
  PySem.W.mg_of X G n_WORTH,
  PySem.W.mg_of X G n_WEIGHT,
  PySem.W.mg_of X G n_ONE,⟨_,_,_,lk_ONE,rfl,rfl,(by show 2 <= sizeLine; decide),(.cons ⟨_,rfl⟩ (.cons ⟨_,rfl⟩ .nil))⟩,
  x_NoFraction,⟨zga_NoFraction,zgt_NoFraction,zcl_NoFraction,zob_NoFraction,zbe_NoFraction,cls_of_mro zob_NoFraction⟩,
  x_NoText,⟨zga_NoText,zgt_NoText,zcl_NoText,zob_NoText,zbe_NoText,cls_of_mro zob_NoText⟩,
  x_PressError,⟨zga_PressError,zgt_PressError,zcl_PressError,zob_PressError,zbe_PressError,cls_of_mro zob_PressError⟩,
  i_NoFraction_ValueError,
  i_NoText_ValueError,
  i_NoFraction_NoText,
  i_NoText_NoText,
  i_NoFraction_NoSign,
  i_NoText_NoSign,
  u_NoFraction_PressError,
  u_NoText_PressError,
  bl0 f_law.1 λ _ _ _ _ _ _ _=>rfl⟩⟩
section
variable {P : Program} {w : World} {K : PySem.W.Frag} {mg : Str -> Option Value} {base : Heap} {t : Adr}
seal L2.PE L2.PA L2.PS L2.PSs L2.PT L2.PW L2.PG L2.PGs L2.PI L2.PIfs L2.PF L2.PFs L2.PO
local macro_rules | `(tactic| array_mem_dec)=>`(tactic| ((first | show SqL ‹PySem.W.Frag› _ _ _ | show SqT ‹PySem.W.Frag› _ _ _ | skip); first | with_reducible assumption | with_reducible exact upd_same | with_reducible exact SqT.of upd_same | with_reducible exact SqL.of upd_same | with_reducible exact Same.refl _ | (with_reducible apply new_at; (focus with_reducible assumption); (focus array_mem_dec)) | (with_reducible apply new_tup; (focus with_reducible assumption); (focus array_mem_dec)) | (with_reducible apply new_lst; (focus with_reducible assumption); (focus array_mem_dec)) | (with_reducible apply new_same; (focus with_reducible assumption); (focus array_mem_dec)) | (with_reducible apply ne_at; (focus with_reducible assumption); (focus array_mem_dec)) | (with_reducible apply ne_tup; (focus with_reducible assumption); (focus array_mem_dec)) | (with_reducible apply ne_lst; (focus with_reducible assumption); (focus array_mem_dec)) | (with_reducible apply over_same; (focus with_reducible assumption); (focus array_mem_dec)) | (with_reducible apply same_at; (focus with_reducible assumption); (focus array_mem_dec)) | (with_reducible apply same_tup; (focus with_reducible assumption); (focus array_mem_dec)) | (with_reducible apply same_lst; (focus with_reducible assumption); (focus array_mem_dec)) | (with_reducible apply SqT.of; (focus array_mem_dec)) | (with_reducible apply SqL.of; (focus array_mem_dec))))
local macro_rules | `(tactic| array_get_dec)=>`(tactic| first
 | refine ⟨_,rfl,?_⟩
 | refine ⟨_,_,rfl,rfl,cdivK (by decide) (by decide),?_⟩
 | refine ⟨_,_,rfl,rfl,(by show (0 : Int) < _; decide),?_⟩
 | refine ⟨_,_,rfl,rfl,⟨by decide,by decide,by decide⟩,?_⟩
 | refine Or.inl ⟨_,_,rfl,rfl,mulL (by decide) (by decide),?_⟩
 | refine Or.inl ⟨_,_,rfl,rfl,mulR (by decide) (by decide),?_⟩
 | refine ⟨_,_,rfl,rfl,?_⟩
 | refine Or.inl ⟨_,_,rfl,rfl,?_⟩
 | refine Or.inl ⟨rfl,?_⟩
 | refine Or.inr (Or.inl ⟨_,_,_,_,rfl,rfl,(by array_mem_dec),(by rfl),?_⟩)
 | refine Or.inl ⟨_,_,_,_,rfl,rfl,(by array_mem_dec),(by rfl),?_⟩
 | refine ⟨_,_,rfl,Or.inr ⟨_,(by array_mem_dec),rfl⟩,?_⟩
 | refine ⟨_,_,rfl,Or.inl ⟨_,(by array_mem_dec),rfl⟩,?_⟩
 | refine ⟨_,_,rfl,lenvS (by first | assumption | (rw [sizeLine_eq]; omega)),?_⟩
 | refine Or.inr (Or.inl ⟨_,_,rfl,rfl,(by simp only [List.length_append,List.length_cons,List.length_nil,List.length_take,List.length_drop,sizeLine_eq]; omega),?_⟩)
 | refine Or.inr ⟨_,_,rfl,rfl,(by simp only [List.length_append,List.length_cons,List.length_nil,List.length_take,List.length_drop,sizeLine_eq]; omega),?_⟩
 | refine ⟨_,_,rfl,?_⟩
 | refine ⟨_,_,_,rfl,?_⟩)
def spWhole (K : PySem.W.Frag) : Sp:=λ vs H Q _=>∃ x ty b1 b2,vs = [x] /\ TyOf K H x ty /\ PySem.W.kitOne K ty (.type "int") = some b1 /\ PySem.W.kitOne K ty (.type "bool") = some b2 /\ Q (.bl (b1 && !b2)) H
theorem ok_Qr (T : Txt K mg t) : FnOk P w K mg base (CX1 P w) 1 t.a_Qr t.fd_Qr ["thing"] (spWhole K):=by
 refine T.F_Qr.okn (k:=0) sc_Qr (λ vs H Q E h=>?_) (λ cdv A outer s H vs Q E hr h=>?_)
 ·obtain ⟨x,ty,b1,b2,rfl,_⟩:=h; rfl
 obtain ⟨x,ty,b1,b2,rfl,hty,e1,e2,q⟩:=h
 refine ⟨_,(pss_one (ps_ret (pe_and (pe_callB isiAny rfl T.m_isinstance bt_isinstance (PAs.h (pas_cons (pv 0) (pas_cons (pe_bltn (v:=.ty "int") rfl T.m_int bt_int rfl) pas_nil)))) (pe_one (pe_not (pe_callB isiAny rfl T.m_isinstance bt_isinstance (PAs.h (pas_cons (pv 0) (pas_cons (pe_bltn (v:=.ty "bool") rfl T.m_bool bt_bool rfl) pas_nil))))))))),?_⟩
 refine ⟨_,rfl,.inl ⟨x,ty,_,b1,rfl,hty,e1,b1,rfl,?_⟩⟩
 cases b1 with
 | false=>exact iteF q
 | true=>exact iteT ⟨_,rfl,.inl ⟨x,ty,_,b2,rfl,hty,e2,b2,rfl,q⟩⟩
def spGcd : Sp:=λ vs H Q _=>∃ a b : Int,vs = [.int a,.int b] /\ 0 <= a /\ 0 <= b /\ Q (.int (gcdI a b)) H
theorem neI {b : Int} (h : b ≠ 0) : (!decide (V.int b = V.int 0)) = true:=by
 have : ¬ V.int b = V.int 0:=λ z=>h (V.int.inj z)
 rw [decide_eq_false this]; rfl
theorem ok_Qa (T : Txt K mg t) : FnOk P w K mg base (CX1 P w) 1 t.a_Qa t.fd_Qa ["one", "other"] spGcd:=by
 refine T.F_Qa.okn (k:=0) sc_Qa (λ vs H Q E h=>?_) (λ cdv A outer s H vs Q E hr h=>?_)
 ·obtain ⟨a,b,rfl,_⟩:=h; rfl
 obtain ⟨a,b,rfl,ha,hb,q⟩:=h
 refine ⟨_,(pss_cons (ps_while PassesOwn.never (pt_cmpR (oNeN (hr.units0)) (pv 1) pe_int (nomark _)) (pss_cons (ps_set (i:=2) sc_Qa.nd rfl (Or.inl rfl) (pe_op op_mod (pv 0) (pv 1)))
  (pss_cons (ps_set (i:=0) sc_Qa.nd rfl (Or.inl rfl) (pv 1))
  (pss_one (ps_set (i:=1) sc_Qa.nd rfl (Or.inl rfl) (pv 2))))))
  (pss_one (ps_ret (pv 0)))),?_⟩
 refine while_by (λ σ H'=>∃ a' b' r,σ = [some (.int a'),some (.int b'),r] /\ 0 <= a' /\ 0 <= b' /\ gcdI a' b' = gcdI a b /\ H' = H) (λ σ _=>match σ with | [_,some (.int b'),_]=>b'.natAbs | _=>0) ⟨a,b,none,rfl,ha,hb,rfl,rfl⟩ ?_ ?_
 ·rintro _ _ ⟨a',b',r,rfl,h1,h2,h3,rfl⟩
  refine ⟨_,rfl,.inl ⟨rfl,_,rfl,?_⟩⟩
  by_cases z : b' = 0
  ·subst z
   refine iteF ⟨_,rfl,?_⟩
   rw [gcdI_zero a' h1] at h3
   rw [h3]; exact q
  ·rw [neI z]
   refine iteT ⟨_,rfl,_,rfl,_,_,rfl,rfl,by omega,?_⟩
   refine ⟨_,rfl,_,rfl,⟨b',a' % b',_,rfl,h2,Int.emod_nonneg _ z,?_,rfl⟩,?_⟩
   ·rw [gcdI_step h1 (by omega)]; exact h3
   ·show (a' % b').natAbs < b'.natAbs
    have:=Int.emod_nonneg a' z
    have:=Int.emod_lt_of_pos a' (show 0 < b' by omega)
    omega
 ·rintro σ1 H1 Q1 Q2 hq ⟨v,e,z⟩
  refine ⟨v,e,?_⟩
  rcases z with ⟨s,k,e2,z⟩ | ⟨a1,b1,xs,ys,h1,h2,h3,h4,h5,h6,k,hk,z⟩ | ⟨a1,b1,xs,ys,h1,h2,h3,h4,h5,h6,k,hk,z⟩
  ·exact .inl ⟨s,k,e2,hq _ _ z⟩
  ·exact .inr (.inl ⟨a1,b1,xs,ys,h1,h2,h3,h4,h5,h6,k,hk,hq _ _ z⟩)
  ·exact .inr (.inr ⟨a1,b1,xs,ys,h1,h2,h3,h4,h5,h6,k,hk,hq _ _ z⟩)
def spFr (C : Addr) : Sp:=λ vs H Q E=>∃ a b : Int,vs = [.int a,.int b] /\ (b = 0 -> E (.ref C) none H) /\ (b ≠ 0 -> b.natAbs < 2 ^ 8999 /\ ∀ p,H p = none -> Q (.ref p) (upd H p (.tup [.int (num a b),.int (den a b)])))
theorem ok_Qt (T : Txt K mg t) : FnOk P w K mg base (CX1 P w) 2 t.a_Qt t.fd_Qt ["top", "bottom"] (spFr t.c_NoFraction):=by
 refine T.F_Qt.okx (k:=1) sc_Qt (λ vs H Q E h=>?_) (λ cdv A outer s H vs Q E hr h=>?_)
 ·obtain ⟨a,b,rfl,_⟩:=h; rfl
 obtain ⟨a,b,rfl,h0,h1⟩:=h
 have G_Qr:=@ok_Qr P w K mg base t T
 have G_Qa:=@ok_Qa P w K mg base t T
 refine ⟨_,(pss_cons (ps_if (PW.pt (pw_or (pt_not (pt_val (pe_call G_Qr hr rfl T.m_Qr T.F_Qr.kp T.b_Qr .nil pass1 (pa_cons (pv 0) pa_nil)))) (pw_or1 (pt_not (pt_val (pe_call G_Qr hr rfl T.m_Qr T.F_Qr.kp T.b_Qr .nil pass1 (pa_cons (pv 1) pa_nil))))))) (pss_one (ps_raise raises1 rfl rfl T.m_NoFraction T.x_NoFraction PySem.F.excBase_ValueError (pa_cons pe_str pa_nil))) pss_nil)
  (pss_cons (ps_if (pt_cmpR (oEqA (hr.units0)) (pv 1) pe_int (nomark _)) (pss_one (ps_raise raises1 rfl rfl T.m_NoFraction T.x_NoFraction PySem.F.excBase_ValueError (pa_cons pe_str pa_nil))) pss_nil)
  (pss_cons (ps_set (i:=2) sc_Qt.nd rfl (Or.inl rfl) (pe_call G_Qa hr rfl T.m_Qa T.F_Qa.kp T.b_Qa .nil pass1 (PAs.h (pas_cons (pe_callB call_abs rfl T.m_abs bt_abs (pa_cons (pv 0) pa_nil)) (pas_cons (pe_callB call_abs rfl T.m_abs bt_abs (pa_cons (pv 1) pa_nil)) pas_nil)))))
  (pss_cons (ps_if (pt_cmpR oLt (pv 1) pe_int (nomark _)) (pss_one (ps_set (i:=2) sc_Qt.nd rfl (Or.inl rfl) (pe_un un_neg (pv 2)))) pss_nil)
  (pss_one (ps_ret (pe_tup (PAs.h (pas_cons (pe_op op_fdivL (pv 0) (pv 2)) (pas_cons (pe_op op_fdivL (pv 1) (pv 2)) pas_nil)))))))))),?_⟩
 refine ⟨_,rfl,⟨_,_,true,false,rfl,.int _,kit_same K _,kit_int_bool K,true,rfl,iteF ⟨_,rfl,⟨_,_,true,false,rfl,.int _,kit_same K _,kit_int_bool K,true,rfl,iteF ?_⟩⟩⟩⟩
 refine ⟨_,rfl,.inl ⟨rfl,_,rfl,?_⟩⟩
 by_cases z : b = 0
 ·subst z
  exact iteT ⟨by decide,h0 rfl⟩
 obtain ⟨hb,q⟩:=h1 z
 have gp:=gcdI_pos (a:=a) z
 have gl:=gcdI_le (a:=a) z
 rw [decide_eq_false (show ¬ V.int b = V.int 0 from λ e=>z (V.int.inj e))]
 refine iteF ⟨_,rfl,_,rfl,_,rfl,_,rfl,_,_,rfl,by split <;> omega,by split <;> omega,?_⟩
 rw [gcdI_abs]
 refine ⟨_,rfl,.inl ⟨_,_,rfl,rfl,_,rfl,?_⟩⟩
 have last : ∀ d : Int,d = sgn b * gcdI a b -> (tRet (tTup (tCons (tOp (rI CDivL λ i j=>V.int (i.fdiv j)) (tVar 0) (tVar 2)) (tCons (tOp (rI CDivL λ i j=>V.int (i.fdiv j)) (tVar 1) (tVar 2)) tNil)))) { nx:=λ _ H'=>Q .non H',rt:=Q } [some (.int a),some (.int b),some (.int d)] H:=by
  intro d hd
  have dn : d ≠ 0 /\ d.natAbs < 2 ^ 8999:=by
   have : d.natAbs = (gcdI a b).natAbs:=by
    rw [hd]; unfold sgn; split <;> omega
   refine ⟨by omega,?_⟩
   rw [this]; exact Nat.lt_of_le_of_lt gl hb
  refine ⟨_,rfl,_,rfl,_,_,rfl,rfl,dn,_,rfl,_,rfl,_,_,rfl,rfl,dn,(by show 2 <= sizeLine; decide),λ p hp=>?_⟩
  rw [hd]; exact q p hp
 by_cases y : b < 0
 ·rw [decide_eq_true y]
  refine iteT ⟨_,rfl,_,rfl,?_⟩
  exact last _ (by unfold sgn; rw [if_pos y]; omega)
 ·rw [decide_eq_false y]
  refine iteF ?_
  exact last _ (by unfold sgn; rw [if_neg y]; omega)
theorem ok_Qbb (T : Txt K mg t) : FnOk P w K mg base (CX1 P w) 1 t.a_Qbb t.fd_Qbb ["found"] (spWhole K):=by
 refine T.F_Qbb.okn (k:=0) sc_Qbb (λ vs H Q E h=>?_) (λ cdv A outer s H vs Q E hr h=>?_)
 ·obtain ⟨x,ty,b1,b2,rfl,_⟩:=h; rfl
 obtain ⟨x,ty,b1,b2,rfl,hty,e1,e2,q⟩:=h
 refine ⟨_,(pss_one (ps_ret (pe_and (pe_callB isiAny rfl T.m_isinstance bt_isinstance (PAs.h (pas_cons (pv 0) (pas_cons (pe_bltn (v:=.ty "int") rfl T.m_int bt_int rfl) pas_nil)))) (pe_one (pe_not (pe_callB isiAny rfl T.m_isinstance bt_isinstance (PAs.h (pas_cons (pv 0) (pas_cons (pe_bltn (v:=.ty "bool") rfl T.m_bool bt_bool rfl) pas_nil))))))))),?_⟩
 refine ⟨_,rfl,.inl ⟨x,ty,_,b1,rfl,hty,e1,b1,rfl,?_⟩⟩
 cases b1 with
 | false=>exact iteF q
 | true=>exact iteT ⟨_,rfl,.inl ⟨x,ty,_,b2,rfl,hty,e2,b2,rfl,q⟩⟩
theorem gcdI_emod {a b : Int} (hb : 0 < b) : gcdI b (a % b) = gcdI a b:=by
 unfold gcdI
 congr 1
 show Int.gcd b (a % b) = Int.gcd a b
 rw [Int.gcd_comm b]
 have:=Int.gcd_add_mul_right_left b (a % b) (a / b)
 rw [← this,Int.add_comm,Int.mul_comm,Int.mul_ediv_add_emod]
def spDiv : Sp:=λ vs H Q _=>∃ a b : Int,vs = [.int a,.int b] /\ 0 < b /\ Q (.int (gcdI a b)) H
theorem ok_Qo (T : Txt K mg t) : FnOk P w K mg base (CX1 P w) 1 t.a_Qo t.fd_Qo ["one", "other"] spDiv:=by
 refine T.F_Qo.okn (k:=0) sc_Qo (λ vs H Q E h=>?_) (λ cdv A outer s H vs Q E hr h=>?_)
 ·obtain ⟨a,b,rfl,_⟩:=h; rfl
 obtain ⟨a,b,rfl,hb,q⟩:=h
 refine ⟨_,(pss_cons (ps_while PassesOwn.never (pt_cmpR (oNeN (hr.units0)) (pv 1) pe_int (nomark _)) (pss_one (ps_par (i:=0) (j:=1) rfl sc_Qo.nd rfl rfl (by decide) rfl rfl (PAs.h (pas_cons (pv 1) (pas_cons (pe_op op_mod (pv 0) (pv 1)) pas_nil))) (by rfl))))
  (pss_one (ps_ret (pv 0)))),?_⟩
 refine while_by (λ σ H'=>∃ a' b',σ = [some (.int a'),some (.int b')] /\ 0 <= b' /\ (b' = 0 -> 0 <= a') /\ gcdI a' b' = gcdI a b /\ H' = H) (λ σ _=>match σ with | [_,some (.int b')]=>b'.natAbs | _=>0)
  ⟨a,b,rfl,by omega,λ z=>by omega,rfl,rfl⟩ ?_ ?_
 ·rintro _ _ ⟨a',b',rfl,h1,h2,h3,rfl⟩
  repeat array_get_dec
  refine ifn2 (λ z=>?_) (λ z=>?_)
  ·have z' : b' ≠ 0:=λ e=>z (congrArg _ e)
   refine ⟨_,rfl,_,rfl,_,rfl,_,_,rfl,rfl,by omega,_,_,rfl,⟨b',a' % b',rfl,Int.emod_nonneg _ z',λ _=>h1,?_,rfl⟩,?_⟩
   ·rw [gcdI_emod (by omega)]; exact h3
   ·show (a' % b').natAbs < b'.natAbs
    have:=Int.emod_nonneg a' z'
    have:=Int.emod_lt_of_pos a' (show 0 < b' by omega)
    omega
  ·have z' : b' = 0:=V.int.inj z
   subst z'
   refine ⟨_,rfl,?_⟩
   rw [gcdI_zero a' (h2 rfl)] at h3
   rw [h3]; exact q
 ·rintro σ1 H1 Q1 Q2 hq ⟨v,e,z⟩
  refine ⟨v,e,?_⟩
  rcases z with ⟨s,k,e2,z⟩ | ⟨a1,b1,xs,ys,h1,h2,h3,h4,h5,h6,k,hk,z⟩ | ⟨a1,b1,xs,ys,h1,h2,h3,h4,h5,h6,k,hk,z⟩
  ·exact .inl ⟨s,k,e2,hq _ _ z⟩
  ·exact .inr (.inl ⟨a1,b1,xs,ys,h1,h2,h3,h4,h5,h6,k,hk,hq _ _ z⟩)
  ·exact .inr (.inr ⟨a1,b1,xs,ys,h1,h2,h3,h4,h5,h6,k,hk,hq _ _ z⟩)
def cellN (ns : List Int) (k : Int) : Int:=ns.getD k.toNat 0
theorem cellN_small {ns : List Int} (hb : ∀ n ∈ ns,Small n) (k : Int) : Small (cellN ns k):=by
 unfold cellN
 rw [List.getD_eq_getElem?_getD]
 cases h : ns[k.toNat]? with
 | none=>exact small_zero
 | some v=>exact hb v (List.mem_of_getElem? h)
def spCell (K : PySem.W.Frag) : Sp:=λ vs H Q _=>∃ (a : Addr) (ns : List Int) (k : Int),vs = [.ref a,.int k] /\ SqL K H a (ns.map V.int) /\ 0 <= k /\ Q (.int (cellN ns k)) H
theorem ok_Qn (T : Txt K mg t) : FnOk P w K mg base (CX1 P w) 1 t.a_Qn t.fd_Qn ["script", "k"] (spCell K):=by
 refine T.F_Qn.okn (k:=0) sc_Qn (λ vs H Q E h=>?_) (λ cdv A outer s H vs Q E hr h=>?_)
 ·obtain ⟨a,ns,k,rfl,_⟩:=h; rfl
 obtain ⟨a,ns,k,rfl,hS,h0,q⟩:=h
 refine ⟨_,(pss_cons (ps_if (pt_cmpR oLt (pv 1) (pe_callB call_len rfl T.m_len bt_len (pa_cons (pv 0) pa_nil)) (nomark _)) (pss_one (ps_ret (pe_ix ixAny (pv 0) (pv 1) (λ _ _=>rfl)))) pss_nil)
  (pss_one (ps_ret pe_int))),?_⟩
 repeat array_get_dec
 refine if2 (λ c=>?_) (λ c=>?_)
 ·rw [List.length_map] at c
  have hk : k.toNat < ns.length:=by omega
  have e : atI (ns.map V.int) ((k.toNat : Nat) : Int) = some (.int ns[k.toNat]):=atI_nat (by rw [List.getElem?_map,List.getElem?_eq_getElem hk] <;> rfl)
  rw [show ((k.toNat : Nat) : Int) = k by omega] at e
  refine ⟨_,rfl,_,rfl,.inl ⟨_,_,_,_,rfl,rfl,hS,e,?_⟩⟩
  unfold cellN at q
  rw [List.getD_eq_getElem?_getD,List.getElem?_eq_getElem hk] at q; exact q
 ·rw [List.length_map] at c
  unfold cellN at q
  rw [List.getD_eq_getElem?_getD,List.getElem?_eq_none (by omega)] at q; exact q
def cutN (ns : List Int) (lo hi : Option Int) : List Int:=(ns.drop (HT.sIx ns.length 0 lo)).take (HT.sIx ns.length ns.length hi - HT.sIx ns.length 0 lo)
theorem cut_ints (ns : List Int) (lo hi : Option Int) : cutV (ns.map V.int) lo hi = (cutN ns lo hi).map V.int:=by
 unfold cutV cutN
 rw [List.length_map,List.map_take,List.map_drop]
theorem cut_mid (l : List Nat) {a b : Nat} (h1 : a <= b) (h2 : b <= l.length) : cutL l (some (a : Int)) (some (b : Int)) = (l.drop a).take (b - a):=by
 unfold cutL
 have e : ∀ (k d : Nat),k <= l.length -> HT.sIx l.length d (some (k : Int)) = k:=λ k d hk=>by
  unfold HT.sIx
  simp only
  split <;> (try split) <;> omega
 rw [e a 0 (by omega),e b l.length h2]
theorem sign_at {l : List Nat} {i : Nat} {x : V} (h : (l.map λ c=>vt [c])[i]? = some x) : ∃ c,l[i]? = some c /\ x = vt [c]:=by
 rw [List.getElem?_map] at h
 cases q : l[i]? with
 | none=>rw [q] at h; cases h
 | some c=>rw [q] at h; exact ⟨c,rfl,(Option.some.inj h).symm⟩
theorem int_at {ns : List Int} {i : Nat} {x : V} (h : (ns.map V.int)[i]? = some x) : ∃ n,ns[i]? = some n /\ x = .int n:=by
 rw [List.getElem?_map] at h
 cases q : ns[i]? with
 | none=>rw [q] at h; cases h
 | some c=>rw [q] at h; exact ⟨c,rfl,(Option.some.inj h).symm⟩
theorem at_mod {α : Type} (xs : List α) (hx : 0 < xs.length) (n : Int) : ∃ v,v ∈ xs /\ atI xs (n % (xs.length : Int)) = some v:=by
 have m1:=Int.emod_nonneg n (show (xs.length : Int) ≠ 0 by omega)
 have m2:=Int.emod_lt_of_pos n (show (0 : Int) < xs.length by omega)
 obtain ⟨j,hj⟩ : ∃ j : Nat,n % (xs.length : Int) = (j : Int):=⟨_,(Int.toNat_of_nonneg m1).symm⟩
 have hl : j < xs.length:=by omega
 rw [hj]
 exact ⟨xs[j],List.getElem_mem hl,atI_nat (List.getElem?_eq_getElem hl)⟩
theorem at_back {α : Type} (xs : List α) {k : Int} (h0 : 0 < k) (h : k <= xs.length) : ∃ v,v ∈ xs /\ atI xs (-k) = some v:=by
 have hl : xs.length - k.toNat < xs.length:=by omega
 refine ⟨xs[xs.length - k.toNat],List.getElem_mem hl,?_⟩
 unfold atI ixN
 rw [if_neg (by omega),if_pos (by omega)]
 show xs[(-k + (xs.length : Int)).toNat]? = _
 rw [show (-k + (xs.length : Int)).toNat = xs.length - k.toNat by omega,List.getElem?_eq_getElem hl]
theorem ite2' {c A B : Prop} [Decidable c] (h2 : ¬ c -> B) (h1 : c -> A) : if c then A else B:=ite2 h1 h2
theorem with_rest {F G S : Int -> Prop} (k : ∀ n0,S n0 -> (∀ n,F n) -> G n0) (r : ∀ n,F n) : ∀ n0,S n0 -> G n0:=λ n0 h=>k n0 h r
theorem fdiv_small {c j : Int} (hj : 0 < j) (h : Small c) : Small (c.fdiv j):=by
 refine h.le ?_
 rw [Int.fdiv_eq_ediv_of_nonneg _ (by omega)]
 exact Int.natAbs_ediv_le_natAbs ..
theorem small_bits {c : Int} (h : Small c) : Builtin.Int.intBits c <= 4000000:=Nat.le_trans h (by decide)
def signs : List Nat:=((List.range 95).map (· + 32)).filter (· != 37)
theorem signs_len : signs.length = 94:=by decide +kernel
theorem signs_nodup : signs.Nodup:=by decide +kernel
theorem signs_lt : ∀ c ∈ signs,32 <= c /\ c < 127 /\ c ≠ 37:=by decide +kernel
structure Drawn (k : Nat) (L S : List Nat) : Prop where
 len : L.length = k
 all : (L ++ S).Perm signs
theorem Drawn.start : Drawn 0 [] signs:=⟨rfl,.refl _⟩
theorem Drawn.left {k : Nat} {L S : List Nat} (d : Drawn k L S) : S.length + k = 94:=by
 have:=d.all.length_eq
 rw [List.length_append,signs_len,d.len] at this
 omega
theorem Drawn.next {k : Nat} {L S : List Nat} (d : Drawn k L S) {j c : Nat} (h : S[j]? = some c) : Drawn (k + 1) (L ++ [c]) (S.take j ++ S.drop (j + 1)):=by
 obtain ⟨hj,e⟩:=List.getElem?_eq_some_iff.mp h
 refine ⟨by rw [List.length_append,d.len]; rfl,?_⟩
 have p : (c :: (S.take j ++ S.drop (j + 1))).Perm S:=by
  have e2 : S.take j ++ c :: S.drop (j + 1) = S:=by rw [← e,← List.drop_eq_getElem_cons hj,List.take_append_drop]
  conv=>rhs; rw [← e2]
  exact List.perm_middle.symm
 rw [List.append_assoc]
 exact (List.Perm.append_left L p).trans d.all
theorem Drawn.nodup {k : Nat} {L S : List Nat} (d : Drawn k L S) : L.Nodup:=(List.nodup_append.mp (d.all.nodup_iff.mpr signs_nodup)).1
theorem Drawn.mem {k : Nat} {L S : List Nat} (d : Drawn k L S) : ∀ c ∈ L,c ∈ signs:=λ c hc=>d.all.mem_iff.mp (List.mem_append_left _ hc)
theorem ofString_nil : Str.ofString "" = tx []:=by decide +kernel
def spSigns : Sp:=λ vs H Q _=>∃ c m : Int,vs = [.int c,.int m] /\ Small c /\ 0 <= m /\ m <= 6 /\ ∀ L S,Drawn m.toNat L S -> Q (vt L) H
theorem ok_Qz (T : Txt K mg t) : FnOk P w K mg base (CX1 P w) 1 t.a_Qz t.fd_Qz ["cell", "many"] spSigns:=by
 refine T.F_Qz.okn (k:=0) sc_Qz (λ vs H Q E h=>?_) (λ cdv A outer s H vs Q E hr h=>?_)
 ·obtain ⟨c,m,rfl,_⟩:=h; rfl
 obtain ⟨c,m,rfl,hs,hm0,hm6,q⟩:=h
 refine ⟨_,(pss_cons (ps_set (i:=2) sc_Qz.nd rfl (Or.inl rfl) pe_str)
  (pss_cons (ps_set (i:=2) sc_Qz.nd rfl (Or.inl rfl) (pe_op oAddN (pv 2) pe_str))
  (pss_cons (ps_set (i:=3) sc_Qz.nd rfl (Or.inl rfl) (pe_op op_fdivL (pv 0) pe_int))
  (pss_cons (ps_if (pt_cmpR (oEqA (hr.units0)) (pe_op op_mod (pv 0) pe_int) pe_int (nomark _)) (pss_one (ps_set (i:=3) sc_Qz.nd rfl (Or.inl rfl) (pe_op oAddN (pe_op oMulN (pv 3) (pe_op op_pow pe_int pe_int)) pe_int))) pss_nil)
  (pss_cons (ps_set (i:=4) sc_Qz.nd rfl (Or.inl rfl) pe_str)
  (pss_cons (ps_for PassesOwn.never rfl (pi_range1 rfl T.m_range (pa_cons (pv 1) pa_nil)) (pg_name (i:=5) sc_Qz.nd rfl (Or.inl rfl)) (pss_cons (ps_set (i:=6) sc_Qz.nd rfl (Or.inl rfl) (pe_op op_mod (pv 3) (pe_callB call_len rfl T.m_len bt_len (pa_cons (pv 2) pa_nil))))
  (pss_cons (ps_set (i:=3) sc_Qz.nd rfl (Or.inl rfl) (pe_op op_fdivL (pv 3) (pe_callB call_len rfl T.m_len bt_len (pa_cons (pv 2) pa_nil))))
  (pss_cons (ps_set (i:=4) sc_Qz.nd rfl (Or.inl rfl) (pe_op oAddN (pv 4) (pe_ix ixAny (pv 2) (pv 6) (λ _ _=>rfl))))
  (pss_one (ps_set (i:=2) sc_Qz.nd rfl (Or.inl rfl) (pe_op oAddN (pe_slice slAny (pv 2) po_none (po_some (pv 6))) (pe_slice slAny (pv 2) (po_some (pe_op oAddN (pv 6) pe_int)) po_none))))))))
  (pss_one (ps_ret (pv 4))))))))),?_⟩
 have e1 : V.str (Str.ofString " !\"#$&'()*+,-./0123456789:;<=>?@ABCDEFGHIJKLMNOPQRSTUVWXYZ[\\]^_`") = vt (signs.take 64):=congrArg V.str (by decide +kernel)
 have e2 : V.str (Str.ofString "abcdefghijklmnopqrstuvwxyz{|}~") = vt (signs.drop 64):=congrArg V.str (by decide +kernel)
 refine ⟨_,rfl,.inr (.inl ⟨_,_,e1,e2,by decide +kernel,?_⟩)⟩
 rw [List.take_append_drop]
 refine ⟨_,rfl,_,_,rfl,rfl,cdivK (by decide) (by decide),?_⟩
 show gName 3 (V.int (c.fdiv 2)) _ _ _
 have hs1:=fdiv_small (c:=c) (j:=2) (by decide) hs
 generalize c.fdiv 2 = n0 at hs1 ⊢
 revert n0
 refine with_rest (λ n0 hs1 k=>⟨_,rfl,_,_,rfl,rfl,(by show (0 : Int) < 2; decide),.inl ⟨rfl,_,rfl,ite2' (λ _=>k n0) (λ _=>?_)⟩⟩) (λ n=>?_)
 ·exact ⟨_,rfl,_,_,rfl,rfl,⟨by decide,by decide,by decide⟩,.inl ⟨_,_,rfl,rfl,.inr (.inr ⟨small_bits hs1,by decide +kernel⟩),.inl ⟨_,_,rfl,rfl,k _⟩⟩⟩
 refine ⟨_,rfl,_,rfl,by omega,by omega,?_⟩
 refine for_range (λ i σ H'=>∃ n L S r1 r2,σ = [some (.int c),some (.int m),some (vt S),some (.int n),some (vt L),r1,r2] /\ H' = H /\ Drawn i L S) ⟨n,[],signs,_,_,by rw [ofString_nil]; rfl,rfl,.start⟩ ?_ ?_
 ·rintro i _ _ hi ⟨n,L,S,r1',r2',rfl,rfl,d⟩
  have hl:=d.left
  have hi' : i < 6:=by omega
  have hLl:=d.len
  have hS : S.length <= sizeLine:=by rw [sizeLine_eq]; omega
  have hp : (0 : Int) < (S.length : Nat):=by omega
  have m1:=Int.emod_nonneg n (show ((S.length : Nat) : Int) ≠ 0 by omega)
  have m2:=Int.emod_lt_of_pos n hp
  obtain ⟨j,hj⟩ : ∃ j : Nat,n % ((S.length : Nat) : Int) = (j : Int):=⟨_,(Int.toNat_of_nonneg m1).symm⟩
  have hjl : j < S.length:=by omega
  have hc:=List.getElem?_eq_getElem hjl
  repeat array_get_dec
  refine ⟨hp,?_⟩
  try dsimp (config:={ proj:=false,eta:=false,zeta:=false,iota:=false }) only [tNil,tC]
  rw [hj]
  repeat array_get_dec
  refine ⟨⟨by omega,Nat.lt_of_lt_of_le (show ((S.length : Nat) : Int).natAbs < 2 ^ 30 by omega) (Nat.pow_le_pow_right (by decide) (by decide))⟩,?_⟩
  repeat array_get_dec
  refine ixS hS (atI_nat hc) ?_
  repeat array_get_dec
  refine .inr (cutT hS ?_)
  rw [cut_to]
  repeat array_get_dec
  refine .inr (cutT hS ?_)
  try dsimp (config:={ proj:=false,eta:=false,zeta:=false,iota:=false }) only [tNil,tC]
  rw [show ((j : Int) + 1) = ((j + 1 : Nat) : Int) by omega,cut_from]
  repeat array_get_dec
  exact ⟨_,_,_,_,_,rfl,rfl,d.next hc⟩
 ·rintro _ _ ⟨n,L,S,r1',r2',rfl,rfl,d⟩
  exact ⟨_,rfl,q L S d⟩
def spFrame : Sp:=λ vs H Q _=>∃ c : Int,vs = [.int c] /\ Small c /\ ∀ L S (d : Nat) H' p,2 <= L.length -> L.length <= 6 -> Drawn L.length L S -> d <= 6 -> Same H H' -> H p = none -> H' p = some (.tup [vt L,.int d]) -> Q (.ref p) H'
theorem depth_at {i : Int} (h1 : 0 <= i) (h2 : i < 10) : ∃ d : Nat,d <= 6 /\ atI [V.int 2,.int 3,.int 1,.int 0,.int 2,.int 3,.int 4,.int 1,.int 5,.int 6] i = some (.int d):=by
 obtain ⟨j,rfl⟩ : ∃ j : Nat,i = (j : Int):=⟨_,(Int.toNat_of_nonneg h1).symm⟩
 match j,h2 with
 | 0,_=>exact ⟨2,by decide,rfl⟩
 | 1,_=>exact ⟨3,by decide,rfl⟩
 | 2,_=>exact ⟨1,by decide,rfl⟩
 | 3,_=>exact ⟨0,by decide,rfl⟩
 | 4,_=>exact ⟨2,by decide,rfl⟩
 | 5,_=>exact ⟨3,by decide,rfl⟩
 | 6,_=>exact ⟨4,by decide,rfl⟩
 | 7,_=>exact ⟨1,by decide,rfl⟩
 | 8,_=>exact ⟨5,by decide,rfl⟩
 | 9,_=>exact ⟨6,by decide,rfl⟩
 | n + 10,h=>exact absurd h (by omega)
theorem ok_Qba (T : Txt K mg t) : FnOk P w K mg base (CX1 P w) 2 t.a_Qba t.fd_Qba ["cell"] spFrame:=by
 refine T.F_Qba.okn (k:=1) sc_Qba (λ vs H Q E h=>?_) (λ cdv A outer s H vs Q E hr h=>?_)
 ·obtain ⟨c,rfl,_⟩:=h; rfl
 obtain ⟨c,rfl,hs,q⟩:=h
 have G_Qz:=@ok_Qz P w K mg base t T
 refine ⟨_,(pss_cons (ps_set (i:=1) sc_Qba.nd rfl (Or.inl rfl) (pe_op oAddN pe_int (pe_op op_mod (pv 0) pe_int)))
  (pss_cons (ps_set (i:=2) sc_Qba.nd rfl (Or.inl rfl) (pe_ix ixAny (pe_lst (PAs.h (pas_cons pe_int (pas_cons pe_int (pas_cons pe_int (pas_cons pe_int (pas_cons pe_int (pas_cons pe_int (pas_cons pe_int (pas_cons pe_int (pas_cons pe_int (pas_cons pe_int pas_nil)))))))))))) (pe_op op_mod (pe_op op_fdivL (pv 0) pe_int) pe_int) (λ _ _=>rfl)))
  (pss_one (ps_ret (pe_tup (PAs.h (pas_cons (pe_call G_Qz hr rfl T.m_Qz T.F_Qz.kp T.b_Qz .nil pass1 (PAs.h (pas_cons (pe_op op_fdivL (pv 0) pe_int) (pas_cons (pv 1) pas_nil)))) (pas_cons (pv 2) pas_nil)))))))),?_⟩
 have r1:=Int.emod_nonneg c (show (5 : Int) ≠ 0 by decide)
 have r2:=Int.emod_lt_of_pos c (show (0 : Int) < 5 by decide)
 have t1:=Int.emod_nonneg (c.fdiv 5) (show (10 : Int) ≠ 0 by decide)
 have t2:=Int.emod_lt_of_pos (c.fdiv 5) (show (0 : Int) < 10 by decide)
 obtain ⟨d,hd,ed⟩:=depth_at t1 t2
 repeat array_get_dec
 try dsimp (config:={ proj:=false,eta:=false,zeta:=false,iota:=false }) only [tNil,tC]
 refine ⟨by rw [sizeLine_eq]; decide,λ p0 h0=>?_⟩
 refine ⟨_,rfl,_,_,rfl,rfl,cdivK (by decide) (by decide),_,_,rfl,rfl,(by show (0 : Int) < 10; decide),?_⟩
 refine ixL (.inl (.inl upd_same)) ed ?_
 repeat array_get_dec
 try dsimp (config:={ proj:=false,eta:=false,zeta:=false,iota:=false }) only [tNil,tC]
 have hs1:=fdiv_small (c:=c) (j:=50) (by decide) hs
 refine ⟨hs1,by omega,by omega,λ L S D=>?_⟩
 have hL:=D.len
 refine ⟨_,rfl,by rw [sizeLine_eq]; show 2 <= _; decide,λ p hp=>?_⟩
 exact q L S d _ p (by omega) (by omega) (by rw [hL]; exact D) hd (new_same hp (same_new h0 _)) ((same_new h0 _).free hp) upd_same
def spChecked (K : PySem.W.Frag) (C : Addr) : Sp:=λ vs H Q E=>∃ p L d l,vs = [.ref p,vt l] /\ SqT K H p [vt L,d] /\ (∀ c ∈ l,c < 16 ^ 8) /\ ((∀ c ∈ l,c ∈ L) -> Q (vt l) H) /\ ((∃ c ∈ l,c ∉ L) -> E (.ref C) none H)
theorem ok_Qx (T : Txt K mg t) : FnOk P w K mg base (CX1 P w) 1 t.a_Qx t.fd_Qx ["frame", "text"] (spChecked K t.c_NoText):=by
 refine T.F_Qx.okx (k:=0) sc_Qx (λ vs H Q E h=>?_) (λ cdv A outer s H vs Q E hr h=>?_)
 ·obtain ⟨p,L,d,l,rfl,_⟩:=h; rfl
 obtain ⟨p,L,d,l,rfl,hS,hc,h1,h2⟩:=h
 refine ⟨_,(pss_cons (ps_set (i:=2) sc_Qx.nd rfl (Or.inl rfl) (pe_ix ixAny (pv 0) pe_int (λ _ _=>rfl)))
  (pss_cons (ps_for PassesOwn.leaving rfl (piAny (pv 1)) (pg_name (i:=3) sc_Qx.nd rfl (Or.inl rfl)) (pss_one (ps_if (pt_cmpR oNotIn (pv 3) (pv 2) (by with_unfolding_all rfl)) (pss_one (ps_raise raises1 rfl rfl T.m_NoText T.x_NoText PySem.F.excBase_ValueError (pa_cons (pe_joined (pfs_cons (pf_repr (pv 3)) (pfs_cons pf_str pfs_nil))) pa_nil))) pss_nil)))
  (pss_one (ps_ret (pv 1))))),?_⟩
 refine ⟨_,rfl,.inr (.inl ⟨p,_,0,_,rfl,rfl,hS,rfl,?_⟩)⟩
 refine ⟨_,rfl,.inr (.inr ⟨_,rfl,?_⟩)⟩
 refine for_walk (walk_tx l) (λ i σ H'=>∃ r,σ = [some (.ref p),some (vt l),some (vt L),r] /\ H' = H /\ ∀ c ∈ l.take i,c ∈ L) ⟨_,rfl,rfl,λ c hc=>nomatch hc⟩ (λ _ _ _ _ _=>trivial) ?_ ?_
 ·rintro i x _ _ hx ⟨r,rfl,rfl,hL⟩
  rw [List.getElem?_map] at hx
  cases hi : l[i]? with
  | none=>rw [hi] at hx; cases hx
  | some c =>
    rw [hi] at hx
    cases (show some (vt [c]) = some x from hx)
    have hm : c ∈ l:=List.mem_of_getElem? hi
    refine ⟨_,rfl,_,rfl,.inl ⟨c,L,rfl,rfl,_,rfl,?_⟩⟩
    by_cases z : c ∈ L
    ·rw [if_pos rfl,decide_eq_true z]
     refine iteF ⟨_,rfl,rfl,λ c' hc'=>?_⟩
     rw [List.take_add_one,hi] at hc'
     rcases List.mem_append.mp hc' with q | q
     ·exact hL c' q
     ·have : c' = c:=by simpa using q
      rw [this]; exact z
    ·rw [if_pos rfl,decide_eq_false z]
     have ls : (Str.ofString " is no letter of the frame").length = 26:=by decide +kernel
     refine iteT ⟨_,rfl,_,rfl,⟨by show 1 <= 100000; decide,λ c' hc'=>?_⟩,λ y hy=>?_⟩
     ·have : c' = c:=by simpa using (show c' ∈ [c] from hc')
      rw [this]; exact hc c hm
     have hy' : y.length <= 12:=hy
     have e0 : (Str.empty ++ y).length <= 12:=by rw [Str.length_append]; show 0 + y.length <= 12; omega
     have e1 : (Str.empty ++ y ++ Str.ofString " is no letter of the frame").length <= sizeLine:=by rw [Str.length_append,ls,sizeLine_eq]; omega
     exact ⟨Nat.le_trans e0 (by decide),e1,e1,(by show 1 <= sizeLine; decide),h2 ⟨c,hm,z⟩⟩
 ·rintro _ _ ⟨r,rfl,rfl,hL⟩
  rw [List.length_map,List.take_length] at hL
  exact ⟨_,rfl,h1 hL⟩
def eldL (f d : Nat) (l : List Nat) (k : Nat) : List Nat:=(List.range d).map λ j=>if j < k then l.getD (k - 1 - j) 0 else f
theorem eldL_len (f d : Nat) (l : List Nat) (k : Nat) : (eldL f d l k).length = d:=by unfold eldL; rw [List.length_map,List.length_range]
theorem eldL_at (f d : Nat) (l : List Nat) (k : Nat) {j : Nat} (h : j < d) : (eldL f d l k)[j]? = some (if j < k then l.getD (k - 1 - j) 0 else f):=by
 unfold eldL; rw [List.getElem?_map,List.getElem?_range h]; rfl
theorem eldL_eq (f d : Nat) (l : List Nat) {k : Nat} (hk : k <= l.length) : ((l.drop (k - d)).take (k - (k - d))).reverse ++ List.replicate (d - (k - (k - d))) f = eldL f d l k:=by
 have hlen : ((l.drop (k - d)).take (k - (k - d))).length = k - (k - d):=by rw [List.length_take,List.length_drop]; omega
 refine List.ext_getElem? λ j=>?_
 by_cases hj : j < d
 ·rw [eldL_at f d l k hj]
  by_cases hjk : j < k
  ·rw [if_pos hjk,List.getElem?_append_left (by rw [List.length_reverse,hlen]; omega),List.getElem?_reverse (by rw [hlen]; omega),hlen,List.getElem?_take_of_lt (by omega),List.getElem?_drop,List.getD_eq_getElem?_getD]
   rw [show k - d + (k - (k - d) - 1 - j) = k - 1 - j by omega,List.getElem?_eq_getElem (by omega)]
   rfl
  ·rw [if_neg hjk,List.getElem?_append_right (by rw [List.length_reverse,hlen]; omega),List.length_reverse,hlen,List.getElem?_replicate,if_pos (by omega)]
 ·rw [List.getElem?_eq_none (by rw [List.length_append,List.length_reverse,hlen,List.length_replicate]; omega),List.getElem?_eq_none (by rw [eldL_len]; omega)]
theorem at_zero {α : Type} {f : α} {L : List α} : atI (f :: L) 0 = some f:=atI_nat (j:=0) rfl
theorem flatten_ones (l : List Nat) : (l.map λ c=>[c]).flatten = l:=by
 induction l with
 | nil=>rfl
 | cons c r ih=>rw [List.map_cons,List.flatten_cons,ih]; rfl
theorem rep_ones (n c : Nat) : (List.replicate n [c]).flatten = List.replicate n c:=by
 induction n with
 | zero=>rfl
 | succ n ih=>rw [List.replicate_succ,List.flatten_cons,ih]; rfl
theorem str_nil : V.str (Str.ofString "") = vt []:=congrArg V.str (by decide +kernel)
def spEldAt (K : PySem.W.Frag) : Sp:=λ vs H Q _=>∃ (p : Addr) (f : Nat) (L : List Nat) (d k : Nat) (l : List Nat),vs = [.ref p,vt l,.int k] /\ SqT K H p [vt (f :: L),.int d] /\ (f :: L).length <= 100 /\ d <= 6 /\ l.length <= 1000 /\ k <= l.length /\ Q (vt (eldL f d l k)) H
theorem ok_Ql (T : Txt K mg t) : FnOk P w K mg base (CX1 P w) 1 t.a_Ql t.fd_Ql ["frame", "text", "at"] (spEldAt K):=by
 refine T.F_Ql.okn (k:=0) sc_Ql (λ vs H Q E h=>?_) (λ cdv A outer s H vs Q E hr h=>?_)
 ·obtain ⟨p,f,L,d,k,l,rfl,_⟩:=h; rfl
 obtain ⟨p,f,L,d,k,l,rfl,hF,hL,hd,hl,hk,q⟩:=h
 have zL : (f :: L).length <= sizeLine:=by rw [sizeLine_eq]; omega
 have zl : l.length <= sizeLine:=by rw [sizeLine_eq]; omega
 refine ⟨_,(pss_cons (ps_set (i:=3) sc_Ql.nd rfl (Or.inl rfl) (pe_ix ixAny (pe_ix ixAny (pv 0) pe_int (λ _ _=>rfl)) pe_int (λ _ _=>rfl)))
  (pss_cons (ps_set (i:=4) sc_Ql.nd rfl (Or.inl rfl) (pe_ix ixAny (pv 0) pe_int (λ _ _=>rfl)))
  (pss_cons (ps_set (i:=5) sc_Ql.nd rfl (Or.inl rfl) (pe_slice slAny (pv 1) (po_some (pe_callB (call_max2 rfl) rfl T.m_max bt_max (PAs.h (pas_cons pe_int (pas_cons (pe_op op_sub (pv 2) (pv 4)) pas_nil))))) (po_some (pv 2))))
  (pss_one (ps_ret (pe_op oAddN (pe_joinRev rfl rfl T.m_reversed bt_reversed pe_str (pv 5)) (pe_op oMulN (pv 3) (pe_op op_sub (pv 4) (pe_callB call_len rfl T.m_len bt_len (pa_cons (pv 5) pa_nil)))))))))),?_⟩
 repeat array_get_dec
 refine ixS zL at_zero ?_
 repeat array_get_dec
 refine .inr (cutT zl ?_)
 have e : (if ((k : Int) - d) > 0 then ((k : Int) - d) else 0) = ((k - d : Nat) : Int):=by split <;> omega
 try dsimp (config:={ proj:=false,eta:=false,zeta:=false,iota:=false }) only [tNil,tC]
 rw [e,cut_mid l (by omega) hk]
 have hlen : ((l.drop (k - d)).take (k - (k - d))).length = k - (k - d):=by rw [List.length_take,List.length_drop]; omega
 generalize hn : (l.drop (k - d)).take (k - (k - d)) = near at hlen ⊢
 refine ⟨[],str_nil,?_⟩
 refine ⟨_,rfl,near,rfl,⟨by omega,by decide⟩,?_⟩
 rw [between_nil,flatten_ones]
 have zn : near.length <= sizeLine:=by rw [sizeLine_eq]; omega
 repeat array_get_dec
 rw [rep_ones]
 refine .inr (.inl (catX ?_ ?_))
 ·rw [List.length_reverse,List.length_replicate,sizeLine_eq]; omega
 ·rw [show ((d : Int) - (near.length : Int)).toNat = d - (k - (k - d)) by omega,← hn,eldL_eq f d l hk]; exact q
def oddP : Nat -> Int
 | 0=>1
 | n + 1=>oddP n * (2 * (n : Int) + 1)
def topW : List Nat -> Int
 | []=>1
 | c :: cs=>topW cs * oddP c
def botW (k : Nat) : Nat -> Int
 | 0=>1
 | n + 1=>botW k n * (2 * (n : Int) + k)
def ivs (cs : List Nat) : List V:=(cs.map λ (c : Nat)=>(c : Int)).map V.int
theorem ivs_len (cs : List Nat) : (ivs cs).length = cs.length:=by unfold ivs; rw [List.length_map,List.length_map]
theorem ivs_get (cs : List Nat) (i : Nat) : (ivs cs)[i]? = (cs[i]?).map (λ c : Nat=>V.int (c : Int)):=by unfold ivs; rw [List.getElem?_map,List.getElem?_map,Option.map_map]; rfl
theorem ivs_set (cs : List Nat) (j c : Nat) : (ivs cs).set j (.int (c : Int)) = ivs (cs.set j c):=by unfold ivs; rw [List.map_set,List.map_set]
theorem ints_sum (cs : List Nat) : (cs.map λ (c : Nat)=>(c : Int)).sum = (cs.sum : Int):=by
 induction cs with
 | nil=>rfl
 | cons c cs ih=>rw [List.map_cons,List.sum_cons,ih,List.sum_cons]; push_cast; rfl
theorem topW_set : ∀ {cs : List Nat} {j c : Nat},cs[j]? = some c -> topW (cs.set j (c + 1)) = topW cs * (2 * (c : Int) + 1)
 | [],_,_,h=>by cases h
 | a :: cs,0,c,h=>by
   cases h
   show topW cs * (oddP a * (2 * (a : Int) + 1)) = topW cs * oddP a * (2 * (a : Int) + 1)
   rw [Int.mul_assoc]
 | a :: cs,j + 1,c,h=>by
   show topW (cs.set j (c + 1)) * oddP a = topW cs * oddP a * (2 * (c : Int) + 1)
   rw [topW_set (cs:=cs) h,Int.mul_assoc,Int.mul_comm (2 * (c : Int) + 1),← Int.mul_assoc]
theorem sum_set : ∀ {cs : List Nat} {j c : Nat},cs[j]? = some c -> (cs.set j (c + 1)).sum = cs.sum + 1
 | [],_,_,h=>by cases h
 | a :: cs,0,c,h=>by cases h; show (a + 1) + cs.sum = a + cs.sum + 1; omega
 | a :: cs,j + 1,c,h=>by
   show a + (cs.set j (c + 1)).sum = a + cs.sum + 1
   rw [sum_set (cs:=cs) h]; omega
theorem le_sum : ∀ {cs : List Nat} {j c : Nat},cs[j]? = some c -> c <= cs.sum
 | [],_,_,h=>by cases h
 | a :: cs,0,c,h=>by cases h; show a <= a + cs.sum; omega
 | a :: cs,j + 1,c,h=>by have:=le_sum (cs:=cs) h; show c <= a + cs.sum; omega
theorem pow_lt {n a b : Nat} (h : n < 2 ^ a) (hb : a <= b) : n < 2 ^ b:=Nat.lt_of_lt_of_le h (Nat.pow_le_pow_right (by decide) hb)
theorem mul_lt {x y : Int} {a b : Nat} (hx : x.natAbs < 2 ^ a) (hy : y.natAbs < 2 ^ b) : (x * y).natAbs < 2 ^ (a + b):=by
 rw [Int.natAbs_mul,Nat.pow_add]
 exact Nat.mul_lt_mul'' hx hy
theorem oddP_bd : ∀ n : Nat,n <= 500 -> 0 < oddP n /\ (oddP n).natAbs < 2 ^ (1 + 10 * n)
 | 0,_=>by decide
 | n + 1,h=>by
   obtain ⟨h0,h1⟩:=oddP_bd n (by omega)
   refine ⟨Int.mul_pos h0 (by omega),?_⟩
   have:=mul_lt h1 (show (2 * (n : Int) + 1).natAbs < 2 ^ 10 by omega)
   rw [show 1 + 10 * (n + 1) = 1 + 10 * n + 10 by omega]; exact this
theorem topW_bd : ∀ cs : List Nat,cs.sum <= 500 -> 0 < topW cs /\ (topW cs).natAbs < 2 ^ (1 + cs.length + 10 * cs.sum)
 | [],_=>by decide
 | c :: cs,h=>by
   have h' : c + cs.sum <= 500:=h
   obtain ⟨h0,h1⟩:=topW_bd cs (by omega)
   obtain ⟨o0,o1⟩:=oddP_bd c (by omega)
   refine ⟨Int.mul_pos h0 o0,?_⟩
   have:=mul_lt h1 o1
   have e : 1 + (c :: cs).length + 10 * (c :: cs).sum = 1 + cs.length + 10 * cs.sum + (1 + 10 * c):=by
    show 1 + (cs.length + 1) + 10 * (c + cs.sum) = _; omega
   rw [e]; exact this
theorem botW_bd {k : Nat} (hk : 1 <= k) (hk2 : k <= 20) : ∀ n : Nat,n <= 500 -> 0 < botW k n /\ (botW k n).natAbs < 2 ^ (1 + 10 * n)
 | 0,_=>by show 0 < (1 : Int) /\ (1 : Int).natAbs < 2 ^ 1; decide
 | n + 1,h=>by
   obtain ⟨h0,h1⟩:=botW_bd hk hk2 n (by omega)
   refine ⟨Int.mul_pos h0 (by omega),?_⟩
   have:=mul_lt h1 (show (2 * (n : Int) + k).natAbs < 2 ^ 10 by omega)
   rw [show 1 + 10 * (n + 1) = 1 + 10 * n + 10 by omega]; exact this
def falls (f d : Nat) (l kn : List Nat) (k : Nat) : Bool:=decide ((eldL f d l k).take kn.length = kn)
def cntL (L : List Nat) (f d : Nat) (l kn : List Nat) (n : Nat) : List Nat:=L.map λ c=>((List.range n).filter λ k=>falls f d l kn k && decide (l[k]? = some c)).length
def seen (f d : Nat) (l kn : List Nat) (n : Nat) : Bool:=(List.range n).any (falls f d l kn)
theorem cntL_len (L : List Nat) (f d : Nat) (l kn : List Nat) (n : Nat) : (cntL L f d l kn n).length = L.length:=List.length_map ..
theorem filter_range_succ (p : Nat -> Bool) (n : Nat) : ((List.range (n + 1)).filter p).length = ((List.range n).filter p).length + if p n = true then 1 else 0:=by
 rw [List.range_succ,List.filter_append,List.length_append]
 cases h : p n <;> simp [h]
theorem cntL_no {L : List Nat} {f d : Nat} {l kn : List Nat} {n : Nat} (h : falls f d l kn n = false) : cntL L f d l kn (n + 1) = cntL L f d l kn n:=by
 unfold cntL
 refine List.map_congr_left λ c _=>?_
 rw [filter_range_succ,h,Bool.false_and,if_neg Bool.false_ne_true]; rfl
theorem seen_no {f d : Nat} {l kn : List Nat} {n : Nat} (h : falls f d l kn n = false) : seen f d l kn (n + 1) = seen f d l kn n:=by
 unfold seen; rw [List.range_succ,List.any_append]; simp [h]
theorem seen_yes {f d : Nat} {l kn : List Nat} {n : Nat} (h : falls f d l kn n = true) : seen f d l kn (n + 1) = true:=by
 unfold seen; rw [List.range_succ,List.any_append]; simp [h]
theorem cntL_yes {L : List Nat} {f d : Nat} {l kn : List Nat} {n i c : Nat} (hL : L.Nodup) (h : falls f d l kn n = true) (hi : L[i]? = some c) (hc : l[n]? = some c) :
 ∃ v,(cntL L f d l kn n)[i]? = some v /\ cntL L f d l kn (n + 1) = (cntL L f d l kn n).set i (v + 1):=by
 obtain ⟨hil,hic⟩:=List.getElem?_eq_some_iff.mp hi
 refine ⟨((List.range n).filter λ k=>falls f d l kn k && decide (l[k]? = some c)).length,by unfold cntL; rw [List.getElem?_map,hi]; rfl,?_⟩
 refine List.ext_getElem? λ j=>?_
 by_cases hj : j < L.length
 ·rw [List.getElem?_set]
  unfold cntL
  rw [List.getElem?_map,List.getElem?_eq_getElem hj,Option.map_some,filter_range_succ,h,Bool.true_and]
  by_cases hij : i = j
  ·subst hij
   rw [hic,decide_eq_true hc,if_pos rfl,if_pos rfl,if_pos (by rw [List.length_map]; exact hj)]
  ·rw [if_neg hij,List.getElem?_map,List.getElem?_eq_getElem hj,Option.map_some]
   have : L[j] ≠ c:=λ e=>hij ((List.getElem_inj hL).mp (hic.trans e.symm))
   rw [hc,decide_eq_false (λ e=>this (Option.some.inj e).symm),if_neg Bool.false_ne_true]; rfl
 ·rw [List.getElem?_eq_none (by rw [cntL_len]; omega),List.getElem?_eq_none (by rw [List.length_set,cntL_len]; omega)]
theorem cntL_zero {L : List Nat} {f d : Nat} {l kn : List Nat} {n : Nat} (h : seen f d l kn n = false) : cntL L f d l kn n = List.replicate L.length 0:=by
 unfold cntL
 refine List.ext_getElem? λ j=>?_
 rw [List.getElem?_map,List.getElem?_replicate]
 by_cases hj : j < L.length
 ·rw [List.getElem?_eq_getElem hj,if_pos hj,Option.map_some]
  congr 1
  rw [List.length_eq_zero_iff,List.filter_eq_nil_iff]
  intro k hk
  have:=List.any_eq_false.mp h k hk
  simp [this]
 ·rw [List.getElem?_eq_none (by omega),if_neg hj]; rfl
theorem ivs_rep (m : Nat) : (List.replicate m [V.int 0]).flatten = ivs (List.replicate m 0):=by
 unfold ivs
 rw [List.map_replicate,List.map_replicate]
 induction m with
 | zero=>rfl
 | succ m ih=>rw [List.replicate_succ,List.flatten_cons,ih,List.replicate_succ]; rfl
def spNoC (K : PySem.W.Frag) : Sp:=λ vs H Q _=>∃ (p : Addr) (L : List Nat) (d : V),vs = [.ref p] /\ SqT K H p [vt L,d] /\ L.length <= 100 /\ ∀ r H',Same H H' -> H r = none -> H' r = some (.lst (ivs (List.replicate L.length 0))) -> Q (.ref r) H'
theorem ok_Qm (T : Txt K mg t) : FnOk P w K mg base (CX1 P w) 1 t.a_Qm t.fd_Qm ["frame"] (spNoC K):=by
 refine T.F_Qm.okn (k:=0) sc_Qm (λ vs H Q E h=>?_) (λ cdv A outer s H vs Q E hr h=>?_)
 ·obtain ⟨p,L,d,rfl,_⟩:=h; rfl
 obtain ⟨p,L,d,rfl,hF,hL,q⟩:=h
 have zL : L.length <= sizeLine:=by rw [sizeLine_eq]; omega
 refine ⟨_,(pss_one (ps_ret (pe_op oMulN (pe_lst (pa_cons pe_int pa_nil)) (pe_callB call_len rfl T.m_len bt_len (pa_cons (pe_ix ixAny (pv 0) pe_int (λ _ _=>rfl)) pa_nil))))),?_⟩
 refine ⟨by show 1 <= sizeLine; decide,λ l1 hl1=>?_⟩
 repeat array_get_dec
 refine .inr (.inr ⟨l1,_,_,rfl,rfl,upd_same,by omega,by omega,by rw [sizeLine_eq,Int.toNat_natCast]; show 1 * L.length <= _; omega,λ l hl=>?_⟩)
 rw [Int.toNat_natCast,ivs_rep]
 exact q l _ (by array_mem_dec) ((same_new hl1 _).free hl) upd_same
def key (kn : List Nat) : Key:=Sum.inr (tx kn)
theorem key_inj {a b : List Nat} (h : key a = key b) : a = b:=tx_inj (Sum.inr.inj h)
theorem at_uniq {L : List Nat} (h : L.Nodup) {i j c : Nat} (hi : L[i]? = some c) (hj : L[j]? = some c) : j = i:=by
 obtain ⟨h1,e1⟩:=List.getElem?_eq_some_iff.mp hi
 obtain ⟨h2,e2⟩:=List.getElem?_eq_some_iff.mp hj
 exact (List.getElem_inj h).mp (e2.trans e1.symm)
theorem meet {A B : TS} {D : Ends} {σ : L2.St} {H : Hp} (S : L2.St -> Hp -> Prop) (k : ∀ N : L2.St -> Hp -> Prop,(∀ σ H,S σ H -> N σ H) -> A { D with nx:=N } σ H) (r : ∀ σ H,S σ H -> B D σ H) : tSeq A B D σ H:=k (B D) r
theorem if_test {c : TT} {A B : TS} {D : Ends} {σ : L2.St} {H : Hp} (C : Prop) (k : ∀ Q : Bool -> Hp -> Prop,(C -> Q true H) -> Q false H -> c σ H Q) (a : C -> A D σ H) (b : B D σ H) : tIfS c A B D σ H:=k _ (λ h=>iteT (a h)) (iteF b)
theorem str_nil0 : V.str (Str.ofString "") = vt []:=congrArg V.str (by decide +kernel)
theorem cutN_60 (ns : List Int) : (cutN ns (some 3) (some 63)).length <= 60:=by
 unfold cutN
 rw [List.length_take,List.length_drop]
 have e1 : HT.sIx ns.length 0 (some 3) = min 3 ns.length:=HT.sIx_nat _ _ 3
 have e2 : HT.sIx ns.length ns.length (some 63) = min 63 ns.length:=HT.sIx_nat _ _ 63
 rw [e1,e2]; omega
def spText (K : PySem.W.Frag) : Sp:=λ vs H Q _=>∃ (c : Addr) (cs : List Int) (L : List Nat) (b : Bool),vs = [.ref c,vt L,.bl b] /\ SqL K H c (cs.map V.int) /\ 2 <= L.length /\ L.length <= 6 /\ cs.length <= 100 /\ ∀ l : List Nat,(∀ x ∈ l,x ∈ L) -> l.length = cs.length -> Q (vt l) H
theorem ok_Qbf (T : Txt K mg t) : FnOk P w K mg base (CX1 P w) 1 t.a_Qbf t.fd_Qbf ["cells", "letters", "lean"] (spText K):=by
 refine T.F_Qbf.okn (k:=0) sc_Qbf (λ vs H Q E h=>?_) (λ cdv A outer s H vs Q E hr h=>?_)
 ·obtain ⟨c,cs,L,b,rfl,_⟩:=h; rfl
 obtain ⟨c,cs,L,b,rfl,hc,hL2,hL6,hcl,q⟩:=h
 have zL : L.length <= sizeLine:=by rw [sizeLine_eq]; omega
 refine ⟨_,(pss_cons (ps_set (i:=3) sc_Qbf.nd rfl (Or.inl rfl) pe_str)
  (pss_cons (ps_for PassesOwn.never rfl (piAny (pv 0)) (pg_name (i:=4) sc_Qbf.nd rfl (Or.inl rfl)) (pss_cons (ps_set (i:=5) sc_Qbf.nd rfl (Or.inl rfl) (pe_op op_fdivL (pv 4) pe_int))
  (pss_one (ps_if (PW.pt (pw_and (pt_val (pv 2)) (pw_and (pt_cmpR op_gt (pe_callB call_len rfl T.m_len bt_len (pa_cons (pv 3) pa_nil)) pe_int (nomark _)) (pw_and1 (pt_cmpR op_gt (pe_op op_mod (pv 5) pe_int) pe_int (nomark _)))))) (pss_one (ps_set (i:=3) sc_Qbf.nd rfl (Or.inl rfl) (pe_op oAddN (pv 3) (pe_ix ixAny (pv 3) (pe_op op_sub (pe_un un_neg pe_int) (pe_op op_mod (pe_op op_fdivL (pv 5) pe_int) pe_int)) (λ _ _=>rfl))))) (pss_one (ps_set (i:=3) sc_Qbf.nd rfl (Or.inl rfl) (pe_op oAddN (pv 3) (pe_ix ixAny (pv 1) (pe_op op_mod (pe_op op_fdivL (pv 5) pe_int) (pe_callB call_len rfl T.m_len bt_len (pa_cons (pv 1) pa_nil))) (λ _ _=>rfl)))))))))
  (pss_one (ps_ret (pv 3))))),?_⟩
 show gName 3 (V.str (Str.ofString "")) _ _ _
 rw [str_nil0]
 refine ⟨_,rfl,.inl ⟨c,_,rfl,hc,?_⟩⟩
 refine for_walk (walk_list (xs:=cs.map V.int)) (λ i σ H'=>∃ l r4 r5,σ = [some (.ref c),some (vt L),some (.bl b),some (vt l),r4,r5] /\ H' = H /\ (∀ x ∈ l,x ∈ L) /\ l.length = i) ⟨[],_,_,rfl,rfl,λ x h=>(nomatch h),rfl⟩ (λ i σ H' _ ⟨_,_,_,_,e,_⟩=>e ▸ hc) ?_ ?_
 ·rintro i x _ _ hx ⟨l,r4,r5,rfl,rfl,hl,hn⟩
  obtain ⟨n,hnn,rfl⟩:=int_at hx
  have hi:=(List.getElem?_eq_some_iff.mp hnn).1
  have zl : l.length <= sizeLine:=by rw [sizeLine_eq]; omega
  refine ⟨_,rfl,_,_,rfl,rfl,cdivK (by decide) (by decide),?_⟩
  show gName 5 (V.int (n.fdiv 3)) _ _ _
  generalize n.fdiv 3 = pk
  dsimp (config:={ eta:=false,zeta:=false,iota:=false }) only [gName]
  refine if_test (2 < l.length) (λ Q' h1 h2=>?_) (λ z=>?_) ?_
  ·refine ⟨_,rfl,b,rfl,?_⟩
   cases b with
   | false=>exact iteF h2
   | true =>
     refine iteT ⟨_,rfl,_,_,rfl,lenvS zl,_,_,rfl,rfl,_,rfl,if2 (λ z=>?_) (λ _=>h2)⟩
     have z' : 2 < l.length:=by have : (2 : Int) < ((l.length : Nat) : Int):=z; omega
     refine ⟨_,rfl,_,_,rfl,rfl,(by show (0 : Int) < 4; decide),_,_,rfl,rfl,_,rfl,?_⟩
     cases decide (pk % 4 > 0) with
     | true=>exact h1 z'
     | false=>exact h2
  ·have m1:=Int.emod_nonneg (pk.fdiv 4) (show (3 : Int) ≠ 0 by decide)
   have m2:=Int.emod_lt_of_pos (pk.fdiv 4) (show (0 : Int) < 3 by decide)
   obtain ⟨s1,hs1,es⟩:=at_back l (k:=1 + pk.fdiv 4 % 3) (by omega) (by omega)
   refine ⟨_,rfl,_,rfl,1,rfl,_,rfl,_,_,rfl,rfl,cdivK (by decide) (by decide),_,_,rfl,rfl,(by show (0 : Int) < 3; decide),_,_,rfl,rfl,?_⟩
   try dsimp (config:={ proj:=false,eta:=false,zeta:=false,iota:=false }) only [tNil,tC]
   rw [show (-1 : Int) - pk.fdiv 4 % 3 = -(1 + pk.fdiv 4 % 3) by omega]
   refine ixS zl es (.inr (.inl (catX (by rw [sizeLine_eq]; show _ + 1 <= _; omega) ?_)))
   refine ⟨l ++ [s1],_,_,rfl,rfl,λ x hx=>?_,by rw [List.length_append,hn]; rfl⟩
   rcases List.mem_append.mp hx with z | z
   ·exact hl x z
   ·cases List.mem_singleton.mp z; exact hl s1 hs1
  ·obtain ⟨s1,hs1,es⟩:=at_mod L (by omega) (pk.fdiv 4)
   refine ⟨_,rfl,_,rfl,_,rfl,_,_,rfl,rfl,cdivK (by decide) (by decide),_,rfl,_,_,rfl,lenvS zL,_,_,rfl,rfl,(by show (0 : Int) < (L.length : Nat); omega),?_⟩
   refine ixS zL es (.inr (.inl (catX (by rw [sizeLine_eq]; show _ + 1 <= _; omega) ?_)))
   refine ⟨l ++ [s1],_,_,rfl,rfl,λ x hx=>?_,by rw [List.length_append,hn]; rfl⟩
   rcases List.mem_append.mp hx with z | z
   ·exact hl x z
   ·cases List.mem_singleton.mp z; exact hs1
 ·rintro _ _ ⟨l,r4,r5,rfl,rfl,hl,hn⟩
  rw [List.length_map] at hn
  exact ⟨_,rfl,q l hl hn⟩
def prodI : List Int -> Int
 | []=>1
 | x :: xs=>x * prodI xs
theorem prodI_app (a b : List Int) : prodI (a ++ b) = prodI a * prodI b:=by
 induction a with
 | nil=>simp [prodI]
 | cons x a ih=>show x * prodI (a ++ b) = x * prodI a * prodI b; rw [ih,Int.mul_assoc]
theorem prodI_pos : ∀ {a : List Int},(∀ x ∈ a,1 <= x) -> 1 <= prodI a
 | [],_=>Int.le_refl _
 | x :: a,h=>by
   have h1:=h x List.mem_cons_self
   have h2:=prodI_pos (a:=a) λ y hy=>h y (List.mem_cons_of_mem _ hy)
   show 1 <= x * prodI a
   have:=Int.mul_le_mul h1 h2 (by decide) (by omega)
   simpa using this
theorem prodI_le {a b : List Int} (ha : ∀ x ∈ a,1 <= x) (hb : ∀ x ∈ b,1 <= x) : prodI a <= prodI (a ++ b):=by
 rw [prodI_app]
 have h1:=prodI_pos ha
 have h2:=prodI_pos hb
 have:=Int.mul_le_mul_of_nonneg_left h2 (show 0 <= prodI a by omega)
 simpa using this
theorem falls_iff {f d : Nat} {l kn : List Nat} {k : Nat} : falls f d l kn k = true ↔ kn <+: eldL f d l k:=by
 unfold falls
 rw [decide_eq_true_iff,List.prefix_iff_eq_take]
 exact ⟨Eq.symm,Eq.symm⟩
theorem falls_no {f d : Nat} {l kn : List Nat} {k : Nat} (h : ¬ kn <+: eldL f d l k) : falls f d l kn k = false:=by
 cases z : falls f d l kn k with
 | false=>rfl
 | true=>exact absurd (falls_iff.mp z) h
def sg (f d : Nat) (l kn : List Nat) (n : Nat) : List Nat:=((List.range n).filter (falls f d l kn)).map λ k=>l.getD k 0
theorem sg_yes {f d : Nat} {l kn : List Nat} {n : Nat} (h : falls f d l kn n = true) : sg f d l kn (n + 1) = sg f d l kn n ++ [l.getD n 0]:=by
 unfold sg
 rw [List.range_succ,List.filter_append,List.map_append,List.filter_cons,if_pos h]; rfl
theorem sg_no {f d : Nat} {l kn : List Nat} {n : Nat} (h : falls f d l kn n = false) : sg f d l kn (n + 1) = sg f d l kn n:=by
 unfold sg
 rw [List.range_succ,List.filter_append,List.filter_cons,if_neg (by rw [h]; decide)]; simp
theorem sg_count {L : List Nat} {f d : Nat} {l kn : List Nat} {j c : Nat} (hj : L[j]? = some c) : ∀ n,n <= l.length -> (cntL L f d l kn n)[j]? = some ((sg f d l kn n).count c):=by
 intro n
 unfold cntL
 rw [List.getElem?_map,hj]
 induction n with
 | zero=>intro _; rfl
 | succ n ih =>
   intro hn
   have ih':=Option.some.inj (ih (by omega))
   refine congrArg some ?_
   show ((List.range (n + 1)).filter λ k=>falls f d l kn k && decide (l[k]? = some c)).length = _
   rw [filter_range_succ]
   have hl : l[n]? = some (l.getD n 0):=by rw [List.getD_eq_getElem?_getD,List.getElem?_eq_getElem (show n < l.length by omega)]; rfl
   cases z : falls f d l kn n with
   | false=>rw [sg_no z,if_neg (by simp)]; exact ih'
   | true =>
     rw [sg_yes z,List.count_append,hl]
     by_cases e : l.getD n 0 = c
     ·rw [if_pos (by rw [e,Bool.true_and]; exact decide_eq_true rfl),e,List.count_cons_self,List.count_nil]
      exact congrArg (· + 1) ih'
     ·rw [if_neg (by rw [Bool.true_and,decide_eq_false (λ h=>e (Option.some.inj h))]; decide),List.count_cons_of_ne e,List.count_nil]
      exact ih'
theorem sg_len {L : List Nat} (hL : L.Nodup) {f d : Nat} {l kn : List Nat} (hl : ∀ c ∈ l,c ∈ L) : ∀ n,n <= l.length -> (cntL L f d l kn n).sum = (sg f d l kn n).length:=by
 intro n
 induction n with
 | zero =>
   intro _
   rw [cntL_zero (by rfl),sg]
   simp
 | succ n ih =>
   intro hn
   have ih':=ih (by omega)
   cases z : falls f d l kn n with
   | false=>rw [cntL_no z,sg_no z]; exact ih'
   | true =>
     have hln : l[n]? = some (l.getD n 0):=by rw [List.getD_eq_getElem?_getD,List.getElem?_eq_getElem (show n < l.length by omega)]; rfl
     obtain ⟨j,hj⟩:=List.getElem?_of_mem (hl _ (List.mem_of_getElem? hln))
     obtain ⟨v,hv,e⟩:=cntL_yes (d:=d) (kn:=kn) (f:=f) hL z hj hln
     rw [e,sum_set hv,sg_yes z,List.length_append,ih']; rfl
theorem sg_le (f d : Nat) (l kn : List Nat) (n : Nat) : (sg f d l kn n).length <= n:=by
 unfold sg
 rw [List.length_map]
 have:=List.length_filter_le (falls f d l kn) (List.range n)
 rw [List.length_range] at this
 exact this
theorem lc_growF {J : It} {xs : List V} {Ok : Hp -> Prop} (Wk : Walk J xs Ok) {tt : TT} {te : TE} {H : Hp} {D : Addr} {Q : VK} {caps : L2.St} (hD : H D = none) (p : V -> Bool) (R : Hp -> V -> V -> Prop) (hm : ∀ H1 H2 x v,(∀ b o,b ≠ D -> H1 b = some o -> H2 b = some o) -> R H1 x v -> R H2 x v)
 (hl : ∀ H1,Same H H1 -> Ok H1) (hz : xs.length < sizeLine)
 (hs : ∀ (i : Nat) (x : V) (H1 : Hp) (ys : List V) (C : Bool -> Hp -> Prop) ,xs[i]? = some x -> Same H H1 -> H1 D = some (.lst ys) -> C (p x) H1 -> tt (some x :: caps) H1 C)
 (he : ∀ (i : Nat) (x : V) (H1 : Hp) (ys : List V) (C : VK),xs[i]? = some x -> p x = true -> Same H H1 -> H1 D = some (.lst ys) -> (∀ H2 v,Same H1 H2 -> R H2 x v -> C v H2) -> te (some x :: caps) H1 C)
 (hd : ∀ H1 ys,Same H H1 -> H1 D = some (.lst ys) -> ys.length = (xs.filter p).length -> (∀ (j : Nat) v x,ys[j]? = some v -> (xs.filter p)[j]? = some x -> R H1 x v) -> Q (.ref D) H1) : LCgo J (gName 0) tt te D (none :: caps) (upd H D (.lst [])) Q:=by
 refine lc_walk Wk (λ i σ H'=>∃ r ys,σ = r :: caps /\ Same H H' /\ H' D = some (.lst ys) /\ ys.length = ((xs.take i).filter p).length /\ ∀ (j : Nat) v x,ys[j]? = some v -> ((xs.take i).filter p)[j]? = some x -> R H' x v) ⟨none,[],rfl,same_new hD _,upd_same,rfl,λ j v x h=>nomatch h⟩ (λ i σ H' _ ⟨_,_,_,e,_⟩=>hl _ e) ?_ ?_
 ·rintro i x σ H' hx ⟨r,ys,rfl,hS,hy,hn,hR⟩
  have hi:=(List.getElem?_eq_some_iff.mp hx).1
  have ht : xs.take (i + 1) = xs.take i ++ [x]:=by rw [List.take_add_one,hx]; rfl
  simp only [gName]
  refine hs i x H' ys _ hx hS hy ?_
  cases hp : p x with
  | true =>
    rw [if_pos rfl]
    have hyl : ys.length < sizeLine:=by
     have:=List.length_filter_le p (xs.take i)
     rw [List.length_take] at this
     omega
    refine he i x H' ys _ hx hp hS hy λ H2 v h2 hv=>⟨ys,h2 _ _ hy,hyl,_,_,rfl,same_over (hS.trans h2) hD _,upd_same,?_,λ j u z hu hz'=>?_⟩
    ·rw [ht,List.filter_append,List.filter_cons,if_pos hp,List.length_append,List.length_append,hn]; rfl
    ·have up : ∀ b o,b ≠ D -> H2 b = some o -> upd H2 D (.lst (ys ++ [v])) b = some o:=λ b o hb e=>by rw [upd_ne hb]; exact e
     rw [ht,List.filter_append,List.filter_cons,if_pos hp,List.filter_nil] at hz'
     by_cases q : j < ys.length
     ·rw [List.getElem?_append_left q] at hu
      rw [List.getElem?_append_left (by omega)] at hz'
      exact hm _ _ _ _ up (hm _ _ _ _ (λ b o _ e=>h2 b o e) (hR j u z hu hz'))
     ·rw [List.getElem?_append_right (by omega)] at hu
      rw [List.getElem?_append_right (by omega)] at hz'
      have : j - ys.length = 0:=by
       have:=(List.getElem?_eq_some_iff.mp hu).1
       simp at this; omega
      rw [← hn,this] at hz'
      rw [this] at hu
      cases hu; cases hz'
      exact hm _ _ _ _ up hv
  | false =>
    rw [if_neg Bool.false_ne_true]
    refine ⟨_,ys,rfl,hS,hy,?_,?_⟩
    ·rw [ht,List.filter_append,List.filter_cons,if_neg (by rw [hp]; decide),List.filter_nil,List.append_nil]; exact hn
    ·rw [ht,List.filter_append,List.filter_cons,if_neg (by rw [hp]; decide),List.filter_nil,List.append_nil]; exact hR
 ·rintro σ H' ⟨r,ys,rfl,hS,hy,hn,hR⟩
  rw [List.take_length] at hn hR
  exact hd H' ys hS hy hn hR
def FrV (K : PySem.W.Frag) (H : Hp) (x : V) (A B : Int) : Prop:=∃ p n d,x = .ref p /\ SqT K H p [.int n,.int d] /\ 0 < n /\ 0 < d /\ n * B = A * d /\ gcdI n d = 1 /\ n <= A /\ d <= B
theorem FrV.same {H H' : Hp} {x : V} {A B : Int} (h : FrV K H x A B) (g : Same H H') : FrV K H' x A B:=by
 obtain ⟨p,n,d,e,h1,h2⟩:=h
 exact ⟨p,n,d,e,same_tup g h1,h2⟩
theorem num_pos {t b : Int} (ht : 0 < t) (hb : 0 < b) : 0 < num t b:=by
 have h:=num_cross (t:=t) (b:=b) (by omega)
 have hd:=den_pos (t:=t) (b:=b) (by omega)
 have : 0 < num t b * b:=by rw [h]; exact Int.mul_pos ht hd
 exact Int.pos_of_mul_pos_left this hb
theorem FrV.made {H : Hp} {p : Addr} {t b : Int} (ht : 0 < t) (hb : 0 < b) (e : SqT K H p [.int (num t b),.int (den t b)]) : FrV K H (.ref p) t b:=by
 have h0 : b ≠ 0:=by omega
 have l1:=num_le (t:=t) h0
 have l2:=den_le (t:=t) h0
 have p1:=num_pos ht hb
 have p2:=den_pos (t:=t) h0
 exact ⟨p,_,_,rfl,e,p1,p2,num_cross h0,num_gcd h0,by omega,by omega⟩
theorem FrV.times {n d m e A B C D : Int} (hd : 0 < d) (he : 0 < e) (hn : 0 < n) (hm : 0 < m) (h1 : n * B = A * d) (h2 : m * D = C * e) : num (n * m) (d * e) * (B * D) = A * C * den (n * m) (d * e):=by
 have hde : 0 < d * e:=Int.mul_pos hd he
 have hx:=num_cross (t:=n * m) (b:=d * e) (by omega)
 refine Int.eq_of_mul_eq_mul_right (a:=d * e) (by omega) ?_
 calc num (n * m) (d * e) * (B * D) * (d * e) = (num (n * m) (d * e) * (d * e)) * (B * D):=by simp only [Int.mul_assoc,Int.mul_comm,Int.mul_left_comm]
  _ = (n * m * den (n * m) (d * e)) * (B * D):=by rw [hx]
  _ = (n * B) * (m * D) * den (n * m) (d * e):=by simp only [Int.mul_assoc,Int.mul_comm,Int.mul_left_comm]
  _ = (A * d) * (C * e) * den (n * m) (d * e):=by rw [h1,h2]
  _ = A * C * den (n * m) (d * e) * (d * e):=by simp only [Int.mul_assoc,Int.mul_comm,Int.mul_left_comm]
theorem abs_lt {n A : Int} {k : Nat} (h0 : 0 < n) (h : n <= A) (hA : A < 2 ^ k) : n.natAbs < 2 ^ k:=by
 have : (n.natAbs : Int) < ((2 ^ k : Nat) : Int):=by
  rw [Int.natCast_pow]
  have : (n.natAbs : Int) = n:=by omega
  rw [this]; exact Int.lt_of_le_of_lt h hA
 exact Int.ofNat_lt.mp this
theorem int_lt {n : Int} {k : Nat} (h : n.natAbs < 2 ^ k) : n < 2 ^ k:=by
 have h1 : (n.natAbs : Int) < ((2 ^ k : Nat) : Int):=Int.ofNat_lt.mpr h
 rw [Int.natCast_pow] at h1
 have h2 : n <= (n.natAbs : Int):=Int.le_natAbs
 exact Int.lt_of_le_of_lt h2 h1
def spTimes (K : PySem.W.Frag) : Sp:=λ vs H Q _=>∃ x y A B C D,vs = [x,y] /\ FrV K H x A B /\ FrV K H y C D /\ A < 2 ^ 9000 /\ B < 2 ^ 9000 /\ C < 2 ^ 9000 /\ D < 2 ^ 9000 /\ B * D < 2 ^ 8999 /\ ∀ H' z,Same H H' -> FrV K H' z (A * C) (B * D) -> Q z H'
theorem ok_Qbi (T : Txt K mg t) : FnOk P w K mg base (CX1 P w) 3 t.a_Qbi t.fd_Qbi ["one", "other"] (spTimes K):=by
 refine T.F_Qbi.okn (k:=2) sc_Qbi (λ vs H Q E h=>?_) (λ cdv A outer s H vs Q E hr h=>?_)
 ·obtain ⟨x,y,_,_,_,_,rfl,_⟩:=h; rfl
 obtain ⟨_,_,a,b,c,e,rfl,⟨p,n,d,rfl,h1,n0,d0,c1,g1,l1,l2⟩,⟨q',m,f,rfl,h2,m0,f0,c2,g2,l3,l4⟩,ba,bb,bc,be,bbe,q⟩:=h
 have G_Qt:=@ok_Qt P w K mg base t T
 refine ⟨_,(pss_one (ps_ret (pe_call G_Qt hr rfl T.m_Qt T.F_Qt.kp T.b_Qt .nil pass1 (PAs.h (pas_cons (pe_op oMulN (pe_ix ixAny (pv 0) pe_int (λ _ _=>rfl)) (pe_ix ixAny (pv 1) pe_int (λ _ _=>rfl))) (pas_cons (pe_op oMulN (pe_ix ixAny (pv 0) pe_int (λ _ _=>rfl)) (pe_ix ixAny (pv 1) pe_int (λ _ _=>rfl))) pas_nil)))))),?_⟩
 have an:=abs_lt n0 l1 ba
 have ad:=abs_lt d0 l2 bb
 have am:=abs_lt m0 l3 bc
 have af:=abs_lt f0 l4 be
 have mo1 : MulOk n m:=mulB (pow_lt an (by decide)) (pow_lt am (by decide))
 have mo2 : MulOk d f:=mulB (pow_lt ad (by decide)) (pow_lt af (by decide))
 have hde : 0 < d * f:=Int.mul_pos d0 f0
 have hle : d * f <= b * e:=Int.mul_le_mul l2 l4 (by omega) (by omega)
 refine ⟨_,rfl,ixT h1 rfl ⟨_,rfl,ixT h2 rfl (.inl ⟨_,_,rfl,rfl,mo1,_,rfl,ixT h1 rfl ⟨_,rfl,ixT h2 rfl (.inl ⟨_,_,rfl,rfl,mo2,?_⟩)⟩⟩)⟩⟩
 refine ⟨n * m,d * f,rfl,λ z=>absurd z (by omega),λ _=>⟨abs_lt hde hle bbe,λ r hr0=>?_⟩⟩
 refine q _ _ (same_new hr0 _) ⟨r,_,_,rfl,.inl (.inl upd_same),num_pos (Int.mul_pos n0 m0) hde,den_pos (by omega),FrV.times d0 f0 n0 m0 c1 c2,num_gcd (by omega),?_,?_⟩
 ·have:=num_le (t:=n * m) (b:=d * f) (by omega)
  have h3:=Int.mul_le_mul l1 l3 (by omega) (by omega)
  have:=num_pos (Int.mul_pos n0 m0) hde
  have:=Int.mul_pos n0 m0
  omega
 ·have:=den_le (t:=n * m) (b:=d * f) (by omega)
  have:=den_pos (t:=n * m) (b:=d * f) (by omega)
  omega
theorem prodI_one (a : List Int) (x : Int) : prodI (a ++ [x]) = prodI a * x:=by
 rw [prodI_app]; show _ * (x * 1) = _; rw [Int.mul_one]
def spProduct (K : PySem.W.Frag) : Sp:=λ vs H Q _=>∃ (p : Addr) (xs : List V) (ab : List (Int × Int)),vs = [.ref p] /\ SqL K H p xs /\ xs.length = ab.length /\ (∀ (i : Nat) x e,xs[i]? = some x -> ab[i]? = some e -> FrV K H x e.1 e.2) /\
 (∀ i,prodI ((ab.take i).map (·.1)) < 2 ^ 8999 /\ prodI ((ab.take i).map (·.2)) < 2 ^ 8999) /\ (∀ e ∈ ab,e.1 < 2 ^ 9000 /\ e.2 < 2 ^ 9000) /\ ∀ H' z,Same H H' -> FrV K H' z (prodI (ab.map (·.1))) (prodI (ab.map (·.2))) -> Q z H'
theorem lt9 {a : Int} (h : a < 2 ^ 8999) : a < 2 ^ 9000:=by
 refine Int.lt_of_lt_of_le h ?_
 have h1 : ((2 ^ 8999 : Nat) : Int) <= ((2 ^ 9000 : Nat) : Int):=Int.ofNat_le.mpr (Nat.pow_le_pow_right (by decide) (by decide))
 rw [Int.natCast_pow,Int.natCast_pow] at h1
 exact h1
theorem ok_Qy (T : Txt K mg t) : FnOk P w K mg base (CX1 P w) 4 t.a_Qy t.fd_Qy ["many"] (spProduct K):=by
 refine T.F_Qy.okn (k:=3) sc_Qy (λ vs H Q E h=>?_) (λ cdv A outer s H vs Q E hr h=>?_)
 ·obtain ⟨p,xs,ab,rfl,_⟩:=h; rfl
 obtain ⟨p,xs,ab,rfl,hp,hl,hf,hb,hb1,q⟩:=h
 have G_Qbi:=@ok_Qbi P w K mg base t T
 refine ⟨_,(pss_cons (ps_set (i:=1) sc_Qy.nd rfl (Or.inl rfl) (pe_glob (v:=.ref t.q_ONE) rfl T.m_ONE rfl))
  (pss_cons (ps_for PassesOwn.never rfl (piAny (pv 0)) (pg_name (i:=2) sc_Qy.nd rfl (Or.inl rfl)) (pss_one (ps_set (i:=1) sc_Qy.nd rfl (Or.inl rfl) (pe_call G_Qbi hr rfl T.m_Qbi T.F_Qbi.kp T.b_Qbi .nil pass1 (PAs.h (pas_cons (pv 1) (pas_cons (pv 2) pas_nil)))))))
  (pss_one (ps_ret (pv 1))))),?_⟩
 refine ⟨_,rfl,.inl ⟨p,xs,rfl,hp,?_⟩⟩
 refine for_walk (walk_list (xs:=xs)) (λ i σ H'=>∃ v r2,σ = [some (.ref p),some v,r2] /\ Same H H' /\ FrV K H' v (prodI ((ab.take i).map (·.1))) (prodI ((ab.take i).map (·.2)))) ⟨_,_,rfl,Same.refl _,t.q_ONE,1,1,rfl,.inr T.tc_ONE,by decide,by decide,rfl,by decide,Int.le_refl _,Int.le_refl _⟩ (λ i σ H' _ ⟨_,_,_,g,_⟩=>same_lst g hp) ?_ ?_
 ·rintro i x _ H' hx ⟨v,r2,rfl,g,hv⟩
  have hi:=(List.getElem?_eq_some_iff.mp hx).1
  have he:=List.getElem?_eq_getElem (show i < ab.length by omega)
  have hm:=List.getElem_mem (show i < ab.length by omega)
  have e1 : prodI ((ab.take (i + 1)).map (·.1)) = prodI ((ab.take i).map (·.1)) * ab[i].1:=by
   rw [List.take_add_one,he,List.map_append]; exact prodI_one _ _
  have e2 : prodI ((ab.take (i + 1)).map (·.2)) = prodI ((ab.take i).map (·.2)) * ab[i].2:=by
   rw [List.take_add_one,he,List.map_append]; exact prodI_one _ _
  have hn:=hb (i + 1)
  rw [e2] at hn
  refine ⟨_,rfl,_,rfl,v,x,_,_,_,_,rfl,hv,(hf i x _ hx he).same g,lt9 (hb i).1,lt9 (hb i).2,(hb1 _ hm).1,(hb1 _ hm).2,hn.2,λ H2 z s2 hz=>?_⟩
  refine ⟨z,_,rfl,g.trans s2,?_⟩
  rw [e1,e2]
  exact hz
 ·rintro _ H' ⟨v,r2,rfl,g,hv⟩
  rw [hl,List.take_length] at hv
  exact ⟨_,rfl,q H' v g hv⟩
def spHalf (K : PySem.W.Frag) : Sp:=λ vs H Q _=>∃ x A B,vs = [x] /\ FrV K H x A B /\ A < 2 ^ 8990 /\ B < 2 ^ 8990 /\ ∀ H' z,Same H H' -> FrV K H' z A (2 * B) -> Q z H'
theorem ok_half (T : Txt K mg t) : FnOk P w K mg base (CX1 P w) 3 t.a_half t.fd_half ["one"] (spHalf K):=by
 refine T.F_half.okn (k:=2) sc_half (λ vs H Q E h=>?_) (λ cdv A outer s H vs Q E hr h=>?_)
 ·obtain ⟨x,_,_,rfl,_⟩:=h; rfl
 obtain ⟨_,a,b,rfl,⟨p,n,d,rfl,h1,n0,d0,c1,g1,l1,l2⟩,ba,bb,q⟩:=h
 have G_Qt:=@ok_Qt P w K mg base t T
 refine ⟨_,(pss_one (ps_ret (pe_call G_Qt hr rfl T.m_Qt T.F_Qt.kp T.b_Qt .nil pass1 (PAs.h (pas_cons (pe_ix ixAny (pv 0) pe_int (λ _ _=>rfl)) (pas_cons (pe_op oMulN pe_int (pe_ix ixAny (pv 0) pe_int (λ _ _=>rfl))) pas_nil)))))),?_⟩
 have an:=abs_lt n0 l1 ba
 have ad:=abs_lt d0 l2 bb
 have h2d : (2 * d).natAbs < 2 ^ 8999:=pow_lt (mul_lt (x:=2) (a:=2) (by decide) ad) (by decide)
 refine ⟨_,rfl,ixT h1 rfl ⟨_,rfl,ixT h1 rfl (.inl ⟨_,_,rfl,rfl,mulL (by decide) (by decide),?_⟩)⟩⟩
 refine ⟨n,2 * d,rfl,λ z=>absurd z (by omega),λ _=>⟨h2d,λ r hr0=>?_⟩⟩
 have hx:=num_cross (t:=n) (b:=2 * d) (by omega)
 refine q _ _ (same_new hr0 _) ⟨r,_,_,rfl,.inl (.inl upd_same),num_pos n0 (by omega),den_pos (by omega),?_,num_gcd (by omega),?_,?_⟩
 ·refine Int.eq_of_mul_eq_mul_right (a:=d) (by omega) ?_
  calc num n (2 * d) * (2 * b) * d = (num n (2 * d) * (2 * d)) * b:=by simp only [Int.mul_assoc,Int.mul_comm,Int.mul_left_comm]
   _ = (n * b) * den n (2 * d):=by rw [hx]; simp only [Int.mul_assoc,Int.mul_comm,Int.mul_left_comm]
   _ = (a * d) * den n (2 * d):=by rw [c1]
   _ = a * den n (2 * d) * d:=by simp only [Int.mul_assoc,Int.mul_comm,Int.mul_left_comm]
 ·have:=num_le (t:=n) (b:=2 * d) (by omega)
  have:=num_pos n0 (show 0 < 2 * d by omega)
  omega
 ·have:=den_le (t:=n) (b:=2 * d) (by omega)
  have:=den_pos (t:=n) (b:=2 * d) (by omega)
  omega
def spShare (K : PySem.W.Frag) : Sp:=λ vs H Q _=>∃ (p : Addr) (ns : List Int) (i c : Int),vs = [.ref p,.int i] /\ SqL K H p (ns.map V.int) /\ atI (ns.map V.int) i = some (.int c) /\ 2 * ns.sum + (ns.length : Int) ≠ 0 /\ (2 * ns.sum + (ns.length : Int)).natAbs < 2 ^ 8999 /\
 ∀ r,H r = none -> Q (.ref r) (upd H r (.tup [.int (num (2 * c + 1) (2 * ns.sum + ns.length)),.int (den (2 * c + 1) (2 * ns.sum + ns.length))]))
theorem ok_Qbj (T : Txt K mg t) : FnOk P w K mg base (CX1 P w) 3 t.a_Qbj t.fd_Qbj ["counts", "place"] (spShare K):=by
 refine T.F_Qbj.okn (k:=2) sc_Qbj (λ vs H Q E h=>?_) (λ cdv A outer s H vs Q E hr h=>?_)
 ·obtain ⟨p,ns,i,c,rfl,_⟩:=h; rfl
 obtain ⟨p,ns,i,c,rfl,hS,hi,h0,hb,q⟩:=h
 have G_Qt:=@ok_Qt P w K mg base t T
 refine ⟨_,(pss_one (ps_ret (pe_call G_Qt hr rfl T.m_Qt T.F_Qt.kp T.b_Qt .nil pass1 (PAs.h (pas_cons (pe_op oAddN (pe_op oMulN pe_int (pe_ix ixAny (pv 0) (pv 1) (λ _ _=>rfl))) pe_int) (pas_cons (pe_op oAddN (pe_op oMulN pe_int (pe_callB (callSum rfl) rfl T.m_sum bt_sum (pa_cons (pv 0) pa_nil))) (pe_callB call_len rfl T.m_len bt_len (pa_cons (pv 0) pa_nil))) pas_nil)))))),?_⟩
 refine ⟨_,rfl,_,rfl,.inl ⟨_,_,_,_,rfl,rfl,hS,hi,?_⟩⟩
 repeat array_get_dec
 refine ⟨_,ns,rfl,by array_mem_dec,?_⟩
 repeat array_get_dec
 refine ⟨λ z=>absurd ?_ h0,λ _=>⟨?_,λ r hr'=>?_⟩⟩
 ·rw [List.length_map] at z; exact z
 ·rw [List.length_map]; exact hb
 ·have:=q r hr'
  rw [← List.length_map (f:=V.int) (as:=ns)] at this
  exact this
def KeysOk (kvs : List (Key × V)) : Prop:=∃ ks : List (List Nat),kvs.map (λ p=>p.1) = ks.map key /\ ks.Nodup
theorem KeysOk.nil : KeysOk []:=⟨[],rfl,.nil⟩
theorem keys_mem {kvs : List (Key × V)} {ks : List (List Nat)} (h : kvs.map (λ p=>p.1) = ks.map key) (kn : List Nat) : kn ∈ ks ↔ (valV kvs (key kn)).isSome = true:=by
 rw [← valV_any,List.any_eq_true]
 constructor
 ·intro hm
  have h1 : key kn ∈ kvs.map (λ p=>p.1):=by rw [h]; exact List.mem_map_of_mem hm
  obtain ⟨p,hp,e⟩:=List.mem_map.mp h1
  exact ⟨p,hp,decide_eq_true e⟩
 ·rintro ⟨p,hp,e⟩
  have h1 : key kn ∈ ks.map key:=by rw [← h]; exact List.mem_map.mpr ⟨p,hp,of_decide_eq_true e⟩
  obtain ⟨x,hx,e2⟩:=List.mem_map.mp h1
  rw [← key_inj e2]; exact hx
theorem KeysOk.put {kvs : List (Key × V)} (h : KeysOk kvs) (kn : List Nat) (v : V) : KeysOk (putK kvs (key kn) v):=by
 obtain ⟨ks,e,nd⟩:=h
 cases hv : valV kvs (key kn) with
 | none =>
   rw [putK_new v hv]
   refine ⟨ks ++ [kn],by rw [List.map_append,List.map_append,e]; rfl,?_⟩
   rw [List.nodup_append]
   refine ⟨nd,List.pairwise_singleton _ _,λ a ha b hb=>?_⟩
   rw [List.mem_singleton.mp hb]
   intro z
   have:=(keys_mem e a).mp ha
   rw [z,hv] at this; cases this
 | some u =>
   refine ⟨ks,?_,nd⟩
   unfold putK
   rw [valV_any,hv]
   show List.map _ (List.map _ kvs) = _
   rw [List.map_map,← e]
   refine List.map_congr_left λ p _=>?_
   show (if p.1 = key kn then (p.1,v) else p).1 = p.1
   split <;> rfl
theorem topW_zeros0 (m : Nat) : topW (List.replicate m 0) = 1:=by
 induction m with
 | zero=>rfl
 | succ m ih=>show topW (List.replicate m 0) * oddP 0 = 1; rw [ih]; rfl
theorem ipow_le {a b : Nat} (h : a <= b) : (2 : Int) ^ a <= 2 ^ b:=by
 have h2 : ((2 ^ a : Nat) : Int) <= ((2 ^ b : Nat) : Int):=Int.ofNat_le.mpr (Nat.pow_le_pow_right (by decide) h)
 rw [Int.natCast_pow,Int.natCast_pow] at h2
 exact h2
theorem ipow_pos (a : Nat) : (1 : Int) <= 2 ^ a:=ipow_le (Nat.zero_le a)
theorem mul_le_pow {x y : Int} {a b : Nat} (hy0 : 0 <= y) (hx : x <= 2 ^ a) (hy : y <= 2 ^ b) : x * y <= 2 ^ (a + b):=by
 rw [Int.pow_add]
 exact Int.mul_le_mul hx hy hy0 (Int.le_trans (by decide) (ipow_pos a))
theorem prodI_two : ∀ {xs : List Int} {es : List Nat},xs.length = es.length -> (∀ (i : Nat) x e,xs[i]? = some x -> es[i]? = some e -> 1 <= x /\ x <= 2 ^ e) -> prodI xs <= 2 ^ es.sum
 | [],[],_,_=>by decide
 | x :: xs,e :: es,hl,h=>by
   have h1:=h 0 x e rfl rfl
   have h2:=prodI_two (xs:=xs) (es:=es) (by simpa using hl) λ i y g hy hg=>h (i + 1) y g hy hg
   have h3 : 1 <= prodI xs:=prodI_pos λ y hy=>by
    obtain ⟨i,hi,e'⟩:=List.getElem_of_mem hy
    have hi2 : i < es.length:=by have : xs.length = es.length:=by simpa using hl
                                 omega
    exact (h (i + 1) y _ (by rw [List.getElem?_cons_succ,List.getElem?_eq_getElem hi,e']) (by rw [List.getElem?_cons_succ,List.getElem?_eq_getElem hi2])).1
   show x * prodI xs <= _
   rw [List.sum_cons]
   exact mul_le_pow (by omega) h1.2 h2
 | [],_ :: _,hl,_=>by cases hl
 | _ :: _,[],hl,_=>by cases hl
def prodW (ab : List (Int × Int)) : Int × Int:=(prodI (ab.map (·.1)),prodI (ab.map (·.2)))
def wo (L : List Nat) (f d : Nat) (l : List Nat) (n : Nat) (k : List Nat) : Int × Int:=(topW (cntL L f d l k n),botW L.length (cntL L f d l k n).sum)
def mixW (a b : Int × Int) : Int × Int:=(a.1 * b.2 + b.1 * a.2,2 * (a.2 * b.2))
def wv (L : List Nat) (f d : Nat) (l : List Nat) (n : Nat) : Nat -> List Nat -> Int × Int
 | 0,k=>wo L f d l n k
 | r + 1,k=>if seen f d l k n = true then mixW (wo L f d l n k) (prodW (L.map λ c=>wv L f d l n r (k ++ [c]))) else (1,1)
theorem wo_unseen {L : List Nat} {f d : Nat} {l : List Nat} {n : Nat} {k : List Nat} (h : seen f d l k n = false) : wo L f d l n k = (1,1):=by
 unfold wo
 rw [cntL_zero h,topW_zeros0]
 have : (List.replicate L.length 0).sum = 0:=by
  induction L.length with
  | zero=>rfl
  | succ m ih=>rw [List.replicate_succ,List.sum_cons,ih]
 rw [this]; rfl
theorem wv_unseen {L : List Nat} {f d : Nat} {l : List Nat} {n r : Nat} {k : List Nat} (h : seen f d l k n = false) : wv L f d l n r k = (1,1):=by
 cases r with
 | zero=>exact wo_unseen h
 | succ r=>show (if _ then _ else _) = _; rw [if_neg (by rw [h]; decide)]
theorem wv_seen {L : List Nat} {f d : Nat} {l : List Nat} {n r : Nat} {k : List Nat} (h : seen f d l k n = true) : wv L f d l n (r + 1) k = mixW (wo L f d l n k) (prodW (L.map λ c=>wv L f d l n r (k ++ [c]))):=by
 show (if _ then _ else _) = _; rw [if_pos h]
theorem seen_len {f d : Nat} {l k : List Nat} {n : Nat} (h : seen f d l k n = true) : 1 <= (sg f d l k n).length:=by
 unfold seen at h
 obtain ⟨j,hj,hf⟩:=List.any_eq_true.mp h
 unfold sg
 rw [List.length_map]
 exact List.length_pos_of_mem (List.mem_filter.mpr ⟨hj,hf⟩)
theorem sum_bump {g : Nat -> Nat} {c0 : Nat} : ∀ {L : List Nat},L.Nodup -> c0 ∈ L -> (L.map λ c=>g c + if c = c0 then 1 else 0).sum = (L.map g).sum + 1
 | [],_,h=>nomatch h
 | c :: L,hn,h=>by
   obtain ⟨h1,h2⟩:=List.nodup_cons.mp hn
   rw [List.map_cons,List.sum_cons,List.map_cons,List.sum_cons]
   by_cases z : c = c0
   ·subst z
    have e : (L.map λ c'=>g c' + if c' = c then 1 else 0) = L.map g:=List.map_congr_left λ y hy=>by
     have hne : ¬ y = c:=λ e=>h1 (e ▸ hy)
     rw [if_neg hne]; rfl
    rw [e,if_pos rfl]; omega
   ·rcases List.mem_cons.mp h with e | hm
    ·exact absurd e.symm z
    ·rw [sum_bump h2 hm,if_neg z]; omega
theorem sum_same {g g' : Nat -> Nat} {L : List Nat} (h : ∀ c ∈ L,g' c = g c) : (L.map g').sum = (L.map g).sum:=by rw [List.map_congr_left h]
theorem eldL_in {L : List Nat} {f d : Nat} {l : List Nat} {n : Nat} (hf : f ∈ L) (hl : ∀ c ∈ l,c ∈ L) (hn : n <= l.length) : ∀ c ∈ eldL f d l n,c ∈ L:=λ c hc=>by
 unfold eldL at hc
 obtain ⟨j,_,e⟩:=List.mem_map.mp hc
 rw [← e]
 split
 ·rename_i z
  rw [List.getD_eq_getElem?_getD,List.getElem?_eq_getElem (show n - 1 - j < l.length by omega)]
  exact hl _ (List.getElem_mem _)
 ·exact hf
theorem next_of {f d : Nat} {l k : List Nat} {n : Nat} (hk : k.length < d) (h : k <+: eldL f d l n) : ∃ c0,c0 ∈ eldL f d l n /\ ∀ c,(k ++ [c]) <+: eldL f d l n ↔ c = c0:=by
 have hlen:=eldL_len f d l n
 obtain ⟨u,hu⟩:=h
 cases u with
 | nil =>
   have:=congrArg List.length hu
   rw [List.append_nil,hlen] at this
   omega
 | cons c0 u=>exact ⟨c0,by rw [← hu]; simp,λ c=>by rw [← hu,List.prefix_append_right_inj,List.cons_prefix_cons]; simp⟩
theorem sg_part {L : List Nat} (hL : L.Nodup) {f d : Nat} {l k : List Nat} (hf : f ∈ L) (hl : ∀ c ∈ l,c ∈ L) (hk : k.length < d) : ∀ n,n <= l.length -> (L.map λ c=>(sg f d l (k ++ [c]) n).length).sum = (sg f d l k n).length:=by
 intro n
 induction n with
 | zero =>
   intro _
   have z : ∀ L' : List Nat,(L'.map λ c=>(sg f d l (k ++ [c]) 0).length).sum = 0:=λ L'=>by
    induction L' with
    | nil=>rfl
    | cons c L' ih=>rw [List.map_cons,List.sum_cons,ih]; rfl
   exact z L
 | succ n ih =>
   intro hn
   have ih':=ih (by omega)
   cases z : falls f d l k n with
   | false =>
     rw [sg_no z,← ih']
     refine sum_same λ c _=>?_
     rw [sg_no (falls_no λ h=>?_)]
     have : k <+: eldL f d l n:=(List.prefix_append k [c]).trans h
     rw [falls_iff.mpr this] at z; cases z
   | true =>
     obtain ⟨c0,hc0,pre⟩:=next_of hk (falls_iff.mp z)
     have e : (L.map λ c=>(sg f d l (k ++ [c]) (n + 1)).length) = L.map λ c=>(sg f d l (k ++ [c]) n).length + if c = c0 then 1 else 0:=List.map_congr_left λ c _=>by
      by_cases zc : c = c0
      ·rw [sg_yes (falls_iff.mpr ((pre c).mpr zc)),List.length_append,if_pos zc]; rfl
      ·rw [sg_no (falls_no λ h=>zc ((pre c).mp h)),if_neg zc]; rfl
     rw [e,sum_bump hL (eldL_in hf hl (by omega) _ hc0),ih',sg_yes z,List.length_append]; rfl
def wb (r n : Nat) : Nat:=(17 + 18 * r) * n
theorem sum_wb (r : Nat) (g : Nat -> Nat) : ∀ L : List Nat,(L.map λ c=>wb r (g c)).sum = wb r (L.map g).sum
 | []=>by simp [wb]
 | c :: L=>by
   rw [List.map_cons,List.sum_cons,List.map_cons,List.sum_cons,sum_wb r g L]
   unfold wb
   rw [Nat.mul_add]
theorem wb_succ (r n : Nat) : wb (r + 1) n = wb r n + 18 * n:=by
 unfold wb
 rw [show 17 + 18 * (r + 1) = (17 + 18 * r) + 18 by omega,Nat.add_mul]
structure P2 (x : Int × Int) (e : Nat) : Prop where
 a1 : 1 <= x.1
 b1 : 1 <= x.2
 ab : x.1 <= 2 ^ e
 bb : x.2 <= 2 ^ e
theorem P2.mono {x : Int × Int} {e e' : Nat} (h : P2 x e) (z : e <= e') : P2 x e':=⟨h.a1,h.b1,Int.le_trans h.ab (ipow_le z),Int.le_trans h.bb (ipow_le z)⟩
theorem P2.one (e : Nat) : P2 (1,1) e:=⟨by decide,by decide,ipow_pos e,ipow_pos e⟩
theorem prodW_ok {ab : List (Int × Int)} {es : List Nat} (hl : ab.length = es.length) (h : ∀ (i : Nat) x e,ab[i]? = some x -> es[i]? = some e -> P2 x e) : P2 (prodW ab) es.sum:=by
 have h0 : ∀ x ∈ ab,∃ e,P2 x e:=λ x hx=>by
  obtain ⟨i,hi,e'⟩:=List.getElem_of_mem hx
  exact ⟨_,h i x _ (by rw [List.getElem?_eq_getElem hi,e']) (List.getElem?_eq_getElem (show i < es.length by omega))⟩
 refine ⟨prodI_pos λ y hy=>?_,prodI_pos λ y hy=>?_,prodI_two (by simpa using hl) λ i y e hy he=>?_,prodI_two (by simpa using hl) λ i y e hy he=>?_⟩
 ·obtain ⟨x,hx,rfl⟩:=List.mem_map.mp hy
  obtain ⟨_,q⟩:=h0 x hx
  exact q.a1
 ·obtain ⟨x,hx,rfl⟩:=List.mem_map.mp hy
  obtain ⟨_,q⟩:=h0 x hx
  exact q.b1
 ·rw [List.getElem?_map] at hy
  cases z : ab[i]? with
  | none=>rw [z] at hy; cases hy
  | some x=>rw [z] at hy; cases hy; exact ⟨(h i x e z he).a1,(h i x e z he).ab⟩
 ·rw [List.getElem?_map] at hy
  cases z : ab[i]? with
  | none=>rw [z] at hy; cases hy
  | some x=>rw [z] at hy; cases hy; exact ⟨(h i x e z he).b1,(h i x e z he).bb⟩
structure Sm (L : List Nat) (f d : Nat) (l : List Nat) : Prop where
 nd : L.Nodup
 l6 : L.length <= 6
 fm : f ∈ L
 d6 : d <= 6
 ll : l.length <= 200
 lb : wb d l.length <= 8900
 al : ∀ c ∈ l,c ∈ L
theorem wo_ok {L : List Nat} {f d : Nat} {l : List Nat} (S : Sm L f d l) {n : Nat} (hn : n <= l.length) (k : List Nat) : 1 <= (wo L f d l n k).1 /\ 1 <= (wo L f d l n k).2 /\ (wo L f d l n k).1 <= 2 ^ (7 + 10 * (sg f d l k n).length) /\ (wo L f d l n k).2 <= 2 ^ (1 + 10 * (sg f d l k n).length):=by
 have h1M : 1 <= L.length:=List.length_pos_of_mem S.fm
 have hsum : (cntL L f d l k n).sum = (sg f d l k n).length:=sg_len S.nd S.al _ hn
 have hle : (sg f d l k n).length <= n:=sg_le ..
 have h6:=S.l6
 have hll:=S.ll
 have h:=topW_bd (cntL L f d l k n) (by rw [hsum]; omega)
 rw [hsum,cntL_len] at h
 have h':=botW_bd h1M (by omega) (sg f d l k n).length (by omega)
 unfold wo
 rw [hsum]
 refine ⟨by show 1 <= topW _; omega,by show 1 <= botW _ _; omega,Int.le_of_lt (int_lt (pow_lt h.2 (by omega))),Int.le_of_lt (int_lt h'.2)⟩
theorem wo_P2 {L : List Nat} {f d : Nat} {l : List Nat} (S : Sm L f d l) {n : Nat} (hn : n <= l.length) (k : List Nat) : P2 (wo L f d l n k) (17 * (sg f d l k n).length):=by
 cases z : seen f d l k n with
 | false=>rw [wo_unseen z]; exact P2.one _
 | true =>
   obtain ⟨a,b,c,e⟩:=wo_ok S hn k
   have:=seen_len z
   exact ⟨a,b,Int.le_trans c (ipow_le (by omega)),Int.le_trans e (ipow_le (by omega))⟩
theorem wch_ok {L : List Nat} {f d : Nat} {l : List Nat} (S : Sm L f d l) {n r : Nat} (hn : n <= l.length) {k : List Nat} (hk : k.length < d) (ih : ∀ c,P2 (wv L f d l n r (k ++ [c])) (wb r (sg f d l (k ++ [c]) n).length)) :
 P2 (prodW (L.map λ c=>wv L f d l n r (k ++ [c]))) (wb r (sg f d l k n).length):=by
 have:=prodW_ok (ab:=L.map λ c=>wv L f d l n r (k ++ [c])) (es:=L.map λ c=>wb r (sg f d l (k ++ [c]) n).length) (by simp) λ i x e hx he=>by
  rw [List.getElem?_map] at hx he
  cases hc : L[i]? with
  | none=>rw [hc] at hx; cases hx
  | some c=>rw [hc] at hx he; cases hx; cases he; exact ih c
 rw [sum_wb,sg_part S.nd S.fm S.al hk n hn] at this
 exact this
theorem mix_ok {L : List Nat} {f d : Nat} {l : List Nat} (S : Sm L f d l) {n e : Nat} (hn : n <= l.length) {k : List Nat} (hs : 1 <= (sg f d l k n).length) {b : Int × Int} (h : P2 b e) : P2 (mixW (wo L f d l n k) b) (e + 18 * (sg f d l k n).length):=by
 obtain ⟨a1,b1,ab,bb⟩:=wo_ok S hn k
 have c1:=h.a1
 have d1:=h.b1
 generalize (sg f d l k n).length = s at *
 generalize wo L f d l n k = a at *
 have m1:=mul_le_pow (by omega) ab h.bb
 have m2:=mul_le_pow (by omega) h.ab bb
 have m3:=mul_le_pow (by omega) bb h.bb
 have p1 : 1 <= a.1 * b.2:=Int.mul_pos (by omega) (by omega)
 have p2 : 1 <= b.1 * a.2:=Int.mul_pos (by omega) (by omega)
 have p3 : 1 <= a.2 * b.2:=Int.mul_pos (by omega) (by omega)
 have q1 : a.1 * b.2 <= 2 ^ (e + 18 * s - 1):=Int.le_trans m1 (ipow_le (by omega))
 have q2 : b.1 * a.2 <= 2 ^ (e + 18 * s - 1):=Int.le_trans m2 (ipow_le (by omega))
 have q3 : a.2 * b.2 <= 2 ^ (e + 18 * s - 1):=Int.le_trans m3 (ipow_le (by omega))
 have q4 : (2 : Int) ^ (e + 18 * s) = 2 ^ (e + 18 * s - 1) * 2:=by rw [← Int.pow_succ]; congr 1; omega
 unfold mixW
 refine ⟨?_,?_,?_,?_⟩
 ·show 1 <= _ + _; omega
 ·show 1 <= 2 * _; omega
 ·rw [q4]; show _ + _ <= _; omega
 ·rw [q4]; show 2 * _ <= _; omega
theorem wv_ok {L : List Nat} {f d : Nat} {l : List Nat} (S : Sm L f d l) {n : Nat} (hn : n <= l.length) : ∀ r k,k.length + r = d -> P2 (wv L f d l n r k) (wb r (sg f d l k n).length):=by
 intro r
 induction r with
 | zero=>intro k _; exact (wo_P2 S hn k).mono (by unfold wb; omega)
 | succ r ih =>
   intro k hk
   cases z : seen f d l k n with
   | false=>rw [wv_unseen z]; exact P2.one _
   | true =>
     rw [wv_seen z,wb_succ]
     exact mix_ok S hn (seen_len z) (wch_ok S hn (by omega) λ c=>ih _ (by rw [List.length_append]; show _ + 1 + _ = _; omega))
theorem wo_off {L : List Nat} {f d : Nat} {l : List Nat} {n : Nat} {k : List Nat} (h : ¬ k <+: eldL f d l n) : wo L f d l (n + 1) k = wo L f d l n k:=by
 unfold wo; rw [cntL_no (falls_no h)]
theorem wv_off {L : List Nat} {f d : Nat} {l : List Nat} {n : Nat} : ∀ (r : Nat) {k : List Nat},¬ k <+: eldL f d l n -> wv L f d l (n + 1) r k = wv L f d l n r k
 | 0,k,h=>wo_off h
 | r + 1,k,h=>by
   show (if _ then _ else _) = (if _ then _ else _)
   rw [seen_no (falls_no h),wo_off h,List.map_congr_left λ c _=>wv_off r (k:=k ++ [c]) λ z=>h ((List.prefix_append k [c]).trans z)]
theorem botW_succ (m n : Nat) : botW m (n + 1) = botW m n * (2 * (n : Int) + m):=rfl
theorem wo_on {L : List Nat} {f d : Nat} {l : List Nat} {n i c : Nat} {k : List Nat} (hL : L.Nodup) (h : k <+: eldL f d l n) (hi : L[i]? = some c) (hc : l[n]? = some c) : ∃ v : Nat,(cntL L f d l k n)[i]? = some v /\ cntL L f d l k (n + 1) = (cntL L f d l k n).set i (v + 1) /\
 wo L f d l (n + 1) k = ((wo L f d l n k).1 * (2 * (v : Int) + 1),(wo L f d l n k).2 * (2 * ((cntL L f d l k n).sum : Nat) + (L.length : Nat))):=by
 obtain ⟨v,h1,h2⟩:=cntL_yes hL (falls_iff.mpr h) hi hc
 refine ⟨v,h1,h2,?_⟩
 unfold wo
 rw [h2,topW_set h1,sum_set h1,botW_succ]
theorem FrV.plus {n d m e A B C D : Int} (hd : 0 < d) (he : 0 < e) (h1 : n * B = A * d) (h2 : m * D = C * e) : num (n * e + m * d) (d * e) * (B * D) = (A * D + C * B) * den (n * e + m * d) (d * e):=by
 have hde : 0 < d * e:=Int.mul_pos hd he
 have hx:=num_cross (t:=n * e + m * d) (b:=d * e) (by omega)
 generalize num (n * e + m * d) (d * e) = N at *
 generalize den (n * e + m * d) (d * e) = M at *
 refine Int.eq_of_mul_eq_mul_right (a:=d * e) (by omega) ?_
 calc N * (B * D) * (d * e) = (N * (d * e)) * (B * D):=by simp only [Int.mul_assoc,Int.mul_comm,Int.mul_left_comm]
  _ = ((n * e + m * d) * M) * (B * D):=by rw [hx]
  _ = (n * B) * (e * D) * M + (m * D) * (d * B) * M:=by simp only [Int.add_mul,Int.mul_add,Int.mul_assoc,Int.mul_comm,Int.mul_left_comm]
  _ = (A * d) * (e * D) * M + (C * e) * (d * B) * M:=by rw [h1,h2]
  _ = (A * D + C * B) * M * (d * e):=by simp only [Int.add_mul,Int.mul_add,Int.mul_assoc,Int.mul_comm,Int.mul_left_comm]
def spPlusF (K : PySem.W.Frag) : Sp:=λ vs H Q _=>∃ x y A B C D,vs = [x,y] /\ FrV K H x A B /\ FrV K H y C D /\ A < 2 ^ 9000 /\ B < 2 ^ 9000 /\ C < 2 ^ 9000 /\ D < 2 ^ 9000 /\ B * D < 2 ^ 8999 /\ ∀ H' z,Same H H' -> FrV K H' z (A * D + C * B) (B * D) -> Q z H'
theorem ok_plus (T : Txt K mg t) : FnOk P w K mg base (CX1 P w) 3 t.a_plus t.fd_plus ["one", "other"] (spPlusF K):=by
 refine T.F_plus.okn (k:=2) sc_plus (λ vs H Q E h=>?_) (λ cdv A outer s H vs Q E hr h=>?_)
 ·obtain ⟨x,y,_,_,_,_,rfl,_⟩:=h; rfl
 obtain ⟨_,_,a,b,c,e,rfl,⟨p,n,d,rfl,h1,n0,d0,c1,g1,l1,l2⟩,⟨q',m,f,rfl,h2,m0,f0,c2,g2,l3,l4⟩,ba,bb,bc,be,bbe,q⟩:=h
 have G_Qt:=@ok_Qt P w K mg base t T
 refine ⟨_,(pss_one (ps_ret (pe_call G_Qt hr rfl T.m_Qt T.F_Qt.kp T.b_Qt .nil pass1 (PAs.h (pas_cons (pe_op oAddN (pe_op oMulN (pe_ix ixAny (pv 0) pe_int (λ _ _=>rfl)) (pe_ix ixAny (pv 1) pe_int (λ _ _=>rfl))) (pe_op oMulN (pe_ix ixAny (pv 1) pe_int (λ _ _=>rfl)) (pe_ix ixAny (pv 0) pe_int (λ _ _=>rfl)))) (pas_cons (pe_op oMulN (pe_ix ixAny (pv 0) pe_int (λ _ _=>rfl)) (pe_ix ixAny (pv 1) pe_int (λ _ _=>rfl))) pas_nil)))))),?_⟩
 have an:=abs_lt n0 l1 ba
 have ad:=abs_lt d0 l2 bb
 have am:=abs_lt m0 l3 bc
 have af:=abs_lt f0 l4 be
 have mo1 : MulOk n f:=mulB (pow_lt an (by decide)) (pow_lt af (by decide))
 have mo2 : MulOk m d:=mulB (pow_lt am (by decide)) (pow_lt ad (by decide))
 have mo3 : MulOk d f:=mulB (pow_lt ad (by decide)) (pow_lt af (by decide))
 have hde : 0 < d * f:=Int.mul_pos d0 f0
 have hle : d * f <= b * e:=Int.mul_le_mul l2 l4 (by omega) (by omega)
 have p1 : 0 < n * f:=Int.mul_pos n0 f0
 have p2 : 0 < m * d:=Int.mul_pos m0 d0
 have k1 : n * f <= a * e:=Int.mul_le_mul l1 l4 (by omega) (by omega)
 have k2 : m * d <= c * b:=Int.mul_le_mul l3 l2 (by omega) (by omega)
 refine ⟨_,rfl,ixT h1 rfl ⟨_,rfl,ixT h2 rfl (.inl ⟨_,_,rfl,rfl,mo1,_,rfl,ixT h2 rfl ⟨_,rfl,ixT h1 rfl (.inl ⟨_,_,rfl,rfl,mo2,.inl ⟨_,_,rfl,rfl,?_⟩⟩)⟩⟩)⟩⟩
 refine ⟨_,rfl,ixT h1 rfl ⟨_,rfl,ixT h2 rfl (.inl ⟨_,_,rfl,rfl,mo3,?_⟩)⟩⟩
 refine ⟨n * f + m * d,d * f,rfl,λ z=>absurd z (by omega),λ _=>⟨abs_lt hde hle bbe,λ r hr0=>?_⟩⟩
 refine q _ _ (same_new hr0 _) ⟨r,_,_,rfl,.inl (.inl upd_same),num_pos (by omega) hde,den_pos (by omega),FrV.plus d0 f0 c1 c2,num_gcd (by omega),?_,?_⟩
 ·have:=num_le (t:=n * f + m * d) (b:=d * f) (by omega)
  have:=num_pos (show 0 < n * f + m * d by omega) hde
  omega
 ·have:=den_le (t:=n * f + m * d) (b:=d * f) (by omega)
  have:=den_pos (t:=n * f + m * d) (b:=d * f) (by omega)
  omega
def off (p t r : Addr) (H : Hp) : Hp:=λ b=>if b = p \/ b = t \/ b = r then none else H b
theorem off_sub (p t r : Addr) (H : Hp) : Same (off p t r H) H:=λ b o h=>by
 unfold off at h
 split at h
 ·cases h
 ·exact h
theorem off_same {p t r : Addr} {H H' : Hp} (s : Same H H') : Same (off p t r H) (off p t r H'):=λ b o h=>by
 unfold off at h ⊢
 split at h
 ·cases h
 ·rename_i z; rw [if_neg z]; exact s _ _ h
theorem off_at {p t r a : Addr} {H : Hp} {o : HO} (h : H a = some o) (h1 : a ≠ p) (h2 : a ≠ t) (h3 : a ≠ r) : off p t r H a = some o:=by
 unfold off
 rw [if_neg (by rintro (z | z | z) <;> contradiction)]
 exact h
theorem off_put {p t r a : Addr} {H : Hp} {o : HO} (h : a = p \/ a = t \/ a = r) : off p t r (upd H a o) = off p t r H:=by
 funext b
 unfold off
 by_cases z : b = p \/ b = t \/ b = r
 ·rw [if_pos z,if_pos z]
 ·rw [if_neg z,if_neg z]
  exact upd_ne λ e=>z (e ▸ h)
structure Three (C p t r : Addr) (H : Hp) : Prop where
 ob : ∃ dx fs,H p = some (.ins C dx fs)
 td : ∃ kvs,H t = some (.dK kvs)
 rl : ∃ rs,H r = some (.lst rs)
theorem Three.same {C p t r : Addr} {H H' : Hp} (h : Three C p t r H) (s : Same H H') : Three C p t r H' :=
 ⟨let ⟨a,b,e⟩:=h.ob; ⟨a,b,s _ _ e⟩,let ⟨a,e⟩:=h.td; ⟨a,s _ _ e⟩,let ⟨a,e⟩:=h.rl; ⟨a,s _ _ e⟩⟩
theorem Three.tup {C p t r a : Addr} {H : Hp} {xs : List V} (T3 : Three C p t r H) (h : SqT K H a xs) : SqT K (off p t r H) a xs:=by
 obtain ⟨⟨_,_,e1⟩,⟨_,e2⟩,⟨_,e3⟩⟩:=T3
 rcases h with (h | ⟨o,h⟩) | h
 ·exact .inl (.inl (off_at h (λ z=>by rw [z,e1] at h; cases h) (λ z=>by rw [z,e2] at h; cases h) (λ z=>by rw [z,e3] at h; cases h)))
 ·exact .inl (.inr ⟨o,off_at h (λ z=>by rw [z,e1] at h; cases h) (λ z=>by rw [z,e2] at h; cases h) (λ z=>by rw [z,e3] at h; cases h)⟩)
 ·exact .inr h
theorem Three.fr {C p t r : Addr} {H : Hp} {x : V} {A B : Int} (T3 : Three C p t r H) (h : FrV K H x A B) : FrV K (off p t r H) x A B:=by
 obtain ⟨q,n,d,e,h1,h2⟩:=h
 exact ⟨q,n,d,e,T3.tup h1,h2⟩
def EAt (K : PySem.W.Frag) (F : Hp) (v : V) (L : List Nat) (f d : Nat) (l : List Nat) (n : Nat) (k : List Nat) : Prop :=
 ∃ e q x y,v = .ref e /\ SqT K F e [.ref q,x,y] /\ SqL K F q (ivs (cntL L f d l k n)) /\ FrV K F x (wo L f d l n k).1 (wo L f d l n k).2 /\ FrV K F y (wv L f d l n (d - k.length) k).1 (wv L f d l n (d - k.length) k).2
theorem EAt.same {F F' : Hp} {v : V} {L : List Nat} {f d : Nat} {l : List Nat} {n : Nat} {k : List Nat} (h : EAt K F v L f d l n k) (s : Same F F') : EAt K F' v L f d l n k:=by
 obtain ⟨e,q,x,y,e0,h1,h2,h3,h4⟩:=h
 exact ⟨e,q,x,y,e0,same_tup s h1,same_lst s h2,h3.same s,h4.same s⟩
theorem EAt.congr {F : Hp} {v : V} {L : List Nat} {f d : Nat} {l : List Nat} {n m : Nat} {k : List Nat} (h : EAt K F v L f d l n k) (h1 : cntL L f d l k m = cntL L f d l k n) (h2 : wv L f d l m (d - k.length) k = wv L f d l n (d - k.length) k) : EAt K F v L f d l m k:=by
 unfold EAt wo at *
 rw [h1,h2]; exact h
def RPair (K : PySem.W.Frag) (F : Hp) (L : List Nat) (f d : Nat) (l : List Nat) (x : V) (j : Nat) (k : List Nat) : Prop:=∃ ch y,x = .ref ch /\ SqT K F ch [vt k,y] /\ ((y = .non /\ seen f d l k j = false) \/ (seen f d l k j = true /\ EAt K F y L f d l j k))
theorem RPair.same {F F' : Hp} {L : List Nat} {f d : Nat} {l : List Nat} {x : V} {j : Nat} {k : List Nat} (h : RPair K F L f d l x j k) (s : Same F F') : RPair K F' L f d l x j k:=by
 obtain ⟨ch,y,e,h1,h2⟩:=h
 exact ⟨ch,y,e,same_tup s h1,h2.imp id λ ⟨a,b⟩=>⟨a,b.same s⟩⟩
def RL (K : PySem.W.Frag) (F : Hp) (L : List Nat) (f d : Nat) (l : List Nat) (v : V) (j : Nat) : Prop:=∃ a xs,v = .ref a /\ SqL K F a xs /\ xs.length = d + 1 /\ ∀ (i : Nat) x,xs[i]? = some x -> RPair K F L f d l x j ((eldL f d l j).take (d - i))
theorem RL.same {F F' : Hp} {L : List Nat} {f d : Nat} {l : List Nat} {v : V} {j : Nat} (h : RL K F L f d l v j) (s : Same F F') : RL K F' L f d l v j:=by
 obtain ⟨a,xs,e,h1,h2,h3⟩:=h
 exact ⟨a,xs,e,same_lst s h1,h2,λ i x hx=>(h3 i x hx).same s⟩
structure GT (K : PySem.W.Frag) (F : Hp) (L : List Nat) (f d : Nat) (l : List Nat) (kvs : List (Key × V)) (m : List Nat -> Nat) : Prop where
 non : ∀ kn,valV kvs (key kn) = none -> kn.length <= d -> seen f d l kn (m kn) = false
 som : ∀ kn v,valV kvs (key kn) = some v -> kn.length <= d -> seen f d l kn (m kn) = true /\ EAt K F v L f d l (m kn) kn
 ks : KeysOk kvs
 kl : ∀ kn,(valV kvs (key kn)).isSome = true -> kn.length <= d
theorem GT.same {F F' : Hp} {L : List Nat} {f d : Nat} {l : List Nat} {kvs : List (Key × V)} {m : List Nat -> Nat} (h : GT K F L f d l kvs m) (s : Same F F') : GT K F' L f d l kvs m :=
 ⟨h.non,λ kn v e hk=>⟨(h.som kn v e hk).1,(h.som kn v e hk).2.same s⟩,h.ks,h.kl⟩
def gflds (fr : Addr) (x : V) (tb rp : Addr) : List (Str × V):=[("frame",.ref fr),("text",x),("table",.ref tb),("replaced",.ref rp)]
theorem gf_frame (fr : Addr) (x : V) (tb rp : Addr) : (gflds fr x tb rp).lookup ("frame" : Str) = some (.ref fr):=rfl
theorem gf_text (fr : Addr) (x : V) (tb rp : Addr) : (gflds fr x tb rp).lookup ("text" : Str) = some x:=by with_unfolding_all rfl
theorem gf_table (fr : Addr) (x : V) (tb rp : Addr) : (gflds fr x tb rp).lookup ("table" : Str) = some (.ref tb):=by with_unfolding_all rfl
theorem gf_rep (fr : Addr) (x : V) (tb rp : Addr) : (gflds fr x tb rp).lookup ("replaced" : Str) = some (.ref rp):=by with_unfolding_all rfl
theorem gf_made (fr : Addr) (x : V) (tb rp : Addr) : putF ("replaced" : Str) (.ref rp) (putF ("table" : Str) (.ref tb) (putF ("text" : Str) x (putF ("frame" : Str) (.ref fr) []))) = gflds fr x tb rp:=by with_unfolding_all rfl
theorem gf_put (fr : Addr) (x y : V) (tb rp : Addr) : putF ("text" : Str) y (gflds fr x tb rp) = gflds fr y tb rp:=by with_unfolding_all rfl
theorem gf_no (fr : Addr) (x : V) (tb rp : Addr) : (gflds fr x tb rp).lookup ("entry" : Str) = none /\ (gflds fr x tb rp).lookup ("branching" : Str) = none /\ (gflds fr x tb rp).lookup ("changes" : Str) = none /\ (gflds fr x tb rp).lookup ("weight" : Str) = none /\ (gflds fr x tb rp).lookup ("grow" : Str) = none /\ (gflds fr x tb rp).lookup ("shrink" : Str) = none /\ (gflds fr x tb rp).lookup ("weight_with" : Str) = none:=by
 refine ⟨?_,?_,?_,?_,?_,?_,?_⟩ <;> with_unfolding_all rfl
structure GO (K : PySem.W.Frag) (C p tb rp fr : Addr) (H : Hp) (f : Nat) (L : List Nat) (d : Nat) (l : List Nat) (n B : Nat) : Prop where
 ob : ∃ dx,H p = some (.ins C dx (gflds fr (vt (l.take n)) tb rp))
 td : ∃ kvs,H tb = some (.dK kvs) /\ kvs.length <= B /\ GT K (off p tb rp H) (f :: L) f d l kvs (λ _=>n)
 rl : ∃ rs,H rp = some (.lst rs) /\ rs.length = n /\ ∀ (j : Nat) v,rs[j]? = some v -> RL K (off p tb rp H) (f :: L) f d l v j
 fa : SqT K (off p tb rp H) fr [vt (f :: L),.int d]
theorem GO.three {C p tb rp fr : Addr} {H : Hp} {f : Nat} {L : List Nat} {d : Nat} {l : List Nat} {n B : Nat} (h : GO K C p tb rp fr H f L d l n B) : Three C p tb rp H :=
 ⟨let ⟨a,e⟩:=h.ob; ⟨a,_,e⟩,let ⟨a,e,_⟩:=h.td; ⟨a,e⟩,let ⟨a,e,_⟩:=h.rl; ⟨a,e⟩⟩
theorem GO.same {C p tb rp fr : Addr} {H H' : Hp} {f : Nat} {L : List Nat} {d : Nat} {l : List Nat} {n B : Nat} (h : GO K C p tb rp fr H f L d l n B) (s : Same H H') : GO K C p tb rp fr H' f L d l n B :=
 ⟨let ⟨a,e⟩:=h.ob; ⟨a,s _ _ e⟩,let ⟨a,e,z,g⟩:=h.td; ⟨a,s _ _ e,z,g.same (off_same s)⟩,let ⟨a,e,z,y⟩:=h.rl; ⟨a,s _ _ e,z,λ j v hj=>(y j v hj).same (off_same s)⟩,same_tup (off_same s) h.fa⟩
theorem one_fr (T : Txt K mg t) (H : Hp) : FrV K H (.ref t.q_ONE) 1 1:=⟨t.q_ONE,1,1,rfl,.inr T.tc_ONE,by decide,by decide,rfl,by decide,Int.le_refl _,Int.le_refl _⟩
def spGInit (C : Addr) : Sp:=λ vs H Q _=>∃ (p fr dx : Addr),vs = [.ref p,.ref fr] /\ H p = some (.ins C dx []) /\ ∀ tb rp H',H tb = none -> H rp = none -> tb ≠ rp -> H' p = some (.ins C dx (gflds fr (vt []) tb rp)) -> H' tb = some (.dK []) -> H' rp = some (.lst []) ->
 (∀ b o,H b = some o -> b ≠ p -> H' b = some o) -> Q .non H'
theorem ok_Qh (T : Txt K mg t) : FnOk P w K mg base (CX1 P w) 1 t.a_Qh t.fd_Qh ["self", "frame"] (spGInit t.c_Growth):=by
 refine T.F_Qh.okn (k:=0) sc_Qh (λ vs H Q E h=>?_) (λ cdv A outer s H vs Q E hr h=>?_)
 ·obtain ⟨p,fr,dx,rfl,_⟩:=h; rfl
 obtain ⟨p,fr,dx,rfl,hp,q⟩:=h
 refine ⟨_,(pss_cons (ps_fld (pv 0) (pv 1) rfl)
  (pss_cons (ps_fld (pv 0) pe_str rfl)
  (pss_cons (ps_fld (pv 0) pe_dnewK rfl)
  (pss_one (ps_fld (pv 0) (pe_lst pa_nil) rfl))))),?_⟩
 refine ⟨_,rfl,_,rfl,p,_,dx,[],rfl,hp,T.cl_Growth,T.na_Growth_frame,(by show 0 < 1000; decide),?_⟩
 refine ⟨_,rfl,p,_,dx,_,rfl,upd_same,T.cl_Growth,T.na_Growth_text,(by show 1 < 1000; decide),?_⟩
 intro tb htb
 have hu : ∀ (F : Hp) o x,upd F p o x = none -> p ≠ x:=λ F o x z e=>by rw [← e,upd_same] at z; cases z
 have n1 : p ≠ tb:=hu _ _ _ htb
 rw [upd_ne n1.symm,upd_ne n1.symm] at htb
 refine ⟨_,rfl,p,_,dx,_,rfl,(by rw [upd_ne n1]; exact upd_same),T.cl_Growth,T.na_Growth_table,(by show 2 < 1000; decide),?_⟩
 refine ⟨by rw [sizeLine_eq]; show 0 <= _; decide,λ rp hrp=>?_⟩
 have n2 : p ≠ rp:=hu _ _ _ hrp
 rw [upd_ne n2.symm] at hrp
 have n3 : tb ≠ rp:=λ e=>by rw [← e,upd_same] at hrp; cases hrp
 rw [upd_ne n3.symm,upd_ne n2.symm,upd_ne n2.symm] at hrp
 refine ⟨_,rfl,p,_,dx,_,rfl,(by rw [upd_ne n2]; exact upd_same),T.cl_Growth,T.na_Growth_replaced,(by show 3 < 1000; decide),?_⟩
 refine q tb rp _ htb hrp n3 ?_ ?_ ?_ λ b o hb hne=>?_
 ·rw [upd_same]; exact congrArg (λ z=>some (HO.ins t.c_Growth dx z)) ((gf_made fr _ tb rp).trans (by rw [str_nil0]))
 ·rw [upd_ne n1.symm,upd_ne n3,upd_ne n1.symm,upd_same]
 ·rw [upd_ne n2.symm,upd_same]
 ·have b1 : b ≠ tb:=λ e=>by rw [e,htb] at hb; cases hb
  have b2 : b ≠ rp:=λ e=>by rw [e,hrp] at hb; cases hb
  rw [upd_ne hne,upd_ne b2,upd_ne hne,upd_ne b1,upd_ne hne,upd_ne hne]; exact hb
def spEntry (K : PySem.W.Frag) (C : Addr) : Sp:=λ vs H Q _=>∃ (p tb rp fr : Addr) (f : Nat) (L : List Nat) (d : Nat) (l : List Nat) (n B : Nat) (k : List Nat),vs = [.ref p,vt k] /\ GO K C p tb rp fr H f L d l n B /\ (f :: L).length <= 100 /\ k.length <= d /\
 ∀ z H',Same H H' -> EAt K (off p tb rp H') z (f :: L) f d l n k -> Q z H'
theorem ok_Qe (T : Txt K mg t) : FnOk P w K mg base (CX1 P w) 2 t.a_Qe t.fd_Qe ["self", "knot"] (spEntry K t.c_Growth):=by
 refine T.F_Qe.okn (k:=1) sc_Qe (λ vs H Q E h=>?_) (λ cdv A outer s H vs Q E hr h=>?_)
 ·obtain ⟨p,tb,rp,fr,f,L,d,l,n,B,k,rfl,_⟩:=h; rfl
 obtain ⟨p,tb,rp,fr,f,L,d,l,n,B,k,rfl,G,hL,hk,q⟩:=h
 have G_Qm:=@ok_Qm P w K mg base t T
 obtain ⟨dx,ob⟩:=G.ob
 obtain ⟨kvs,td,kl,gt⟩:=G.td
 refine ⟨_,(pss_one (ps_ret (pe_dget2 (hu_of hr) (pe_fld (pv 0) rfl) (pv 1) (pe_tup (PAs.h (pas_cons (pe_call G_Qm hr rfl T.m_Qm T.F_Qm.kp T.b_Qm .nil pass1 (pa_cons (pe_fld (pv 0) rfl) pa_nil)) (pas_cons (pe_glob (v:=.ref t.q_ONE) rfl T.m_ONE rfl) (pas_cons (pe_glob (v:=.ref t.q_ONE) rfl T.m_ONE rfl) pas_nil))))) ⟨rfl,rfl,rfl,rfl⟩))),?_⟩
 refine ⟨_,rfl,p,_,dx,_,_,rfl,ob,T.cl_Growth,T.na_Growth_table,gf_table ..,tb,rfl,.inl ⟨kvs,.inl td⟩,_,rfl,?_⟩
 refine ⟨_,rfl,p,_,dx,_,_,rfl,ob,T.cl_Growth,T.na_Growth_frame,gf_frame ..,?_⟩
 refine ⟨fr,f :: L,_,rfl,same_tup (off_sub _ _ _ _) G.fa,hL,λ r H1 s1 hr0 e1=>?_⟩
 refine ⟨by rw [sizeLine_eq]; show 3 <= _; decide,λ u hu=>?_⟩
 have s2 : Same H (upd H1 u (.tup [.ref r,.ref t.q_ONE,.ref t.q_ONE])):=new_same hu s1
 have e2 : upd H1 u (.tup [.ref r,.ref t.q_ONE,.ref t.q_ONE]) u = some (.tup [.ref r,.ref t.q_ONE,.ref t.q_ONE]):=upd_same
 have e3:=new_at (o:=.tup [.ref r,.ref t.q_ONE,.ref t.q_ONE]) hu e1
 try dsimp (config:={ proj:=false,eta:=false,zeta:=false,iota:=false }) only [tNil,tC]
 generalize upd H1 u (.tup [.ref r,.ref t.q_ONE,.ref t.q_ONE]) = H2 at s2 e2 e3 ⊢
 refine ⟨valV kvs (key k),DGet.k (k:=key k) (s2 _ _ td),?_⟩
 refine q _ _ s2 ?_
 cases z : valV kvs (key k) with
 | some v=>exact (gt.som k v z hk).2.same (off_same s2)
 | none =>
   have hs:=gt.non k z hk
   have T3:=G.three.same s2
   have nr : r ≠ p /\ r ≠ tb /\ r ≠ rp:=by
    obtain ⟨⟨_,_,a1⟩,⟨_,a2⟩,⟨_,a3⟩⟩:=G.three
    exact ⟨λ y=>(by rw [y,a1] at hr0; cases hr0),λ y=>(by rw [y,a2] at hr0; cases hr0),λ y=>(by rw [y,a3] at hr0; cases hr0)⟩
   refine ⟨u,r,.ref t.q_ONE,.ref t.q_ONE,rfl,T3.tup (.inl (.inl e2)),.inl (.inl (off_at ?_ nr.1 nr.2.1 nr.2.2)),?_,?_⟩
   ·rw [cntL_zero hs]; exact e3
   ·rw [wo_unseen hs]; exact one_fr T _
   ·rw [wv_unseen hs]; exact one_fr T _
def mn (H : Hp) (D : Addr) : Hp:=λ b=>if b = D then none else H b
theorem mn_same (H : Hp) (D : Addr) : Same (mn H D) H:=λ b o h=>by
 unfold mn at h
 by_cases z : b = D
 ·rw [if_pos z] at h; cases h
 ·rw [if_neg z] at h; exact h
theorem mn_at {H : Hp} {D a : Addr} {o : HO} (h : H a = some o) (ne : a ≠ D) : mn H D a = some o:=by unfold mn; rw [if_neg ne]; exact h
theorem mn_up {H1 H2 : Hp} {D : Addr} (h : ∀ b o,b ≠ D -> H1 b = some o -> H2 b = some o) : Same (mn H1 D) (mn H2 D):=λ b o e=>by
 unfold mn at e ⊢
 by_cases z : b = D
 ·rw [if_pos z] at e; cases e
 ·rw [if_neg z] at e ⊢; exact h b o z e
theorem ne_lst' {H : Hp} {D a : Addr} {ys vs : List V} (hD : H D = some (.lst ys)) (h : H a = some (.tup vs)) : a ≠ D:=λ z=>by rw [z,hD] at h; cases h
theorem SqT.minus {H : Hp} {D a : Addr} {ys vs : List V} (hD : H D = some (.lst ys)) (h : SqT K H a vs) : SqT K (mn H D) a vs:=by
 rcases h with (h | ⟨o,h⟩) | h
 ·exact .inl (.inl (mn_at h (ne_lst' hD h)))
 ·exact .inl (.inr ⟨o,mn_at h (λ z=>by rw [z,hD] at h; cases h)⟩)
 ·exact .inr h
theorem FrV.minus {H : Hp} {D : Addr} {ys : List V} (hD : H D = some (.lst ys)) {x : V} {A B : Int} (h : FrV K H x A B) : FrV K (mn H D) x A B:=by
 obtain ⟨p,n,d,e,h1,h2⟩:=h
 exact ⟨p,n,d,e,SqT.minus hD h1,h2⟩
theorem wb_le {L : List Nat} {f d : Nat} {l : List Nat} (S : Sm L f d l) {r m : Nat} (hr : r <= d) (hm : m <= l.length) : wb r m <= 8900:=by
 refine Nat.le_trans ?_ S.lb
 unfold wb
 exact Nat.mul_le_mul (by omega) hm
theorem lt_pow {x : Int} {a b : Nat} (h : x <= 2 ^ a) (hab : a < b) : x < 2 ^ b:=by
 have h1 : (2 : Int) ^ (a + 1) <= 2 ^ b:=ipow_le (by omega)
 have h2 : (2 : Int) ^ (a + 1) = 2 ^ a * 2:=Int.pow_succ ..
 have h3:=ipow_pos a
 omega
theorem prod_pre {xs : List Int} (h : ∀ x ∈ xs,1 <= x) {e : Nat} (hp : prodI xs <= 2 ^ e) (i : Nat) : prodI (xs.take i) <= 2 ^ e:=by
 have h1 : prodI (xs.take i) <= prodI (xs.take i ++ xs.drop i):=prodI_le (λ x m=>h x (List.mem_of_mem_take m)) (λ x m=>h x (List.mem_of_mem_drop m))
 rw [List.take_append_drop] at h1
 exact Int.le_trans h1 hp
def wch (L : List Nat) (f d : Nat) (l : List Nat) (n r : Nat) (k : List Nat) : List (Int × Int):=L.map λ c=>wv L f d l n r (k ++ [c])
def spBranching (K : PySem.W.Frag) (C : Addr) : Sp:=λ vs H Q _=>∃ (p tb rp fr : Addr) (f : Nat) (L : List Nat) (d : Nat) (l : List Nat) (n B : Nat) (k : List Nat) (r : Nat) (c0 : Nat) (ch : Addr) (v : V),vs = [.ref p,vt k,.ref ch] /\ GO K C p tb rp fr H f L d l n B /\ Sm (f :: L) f d l /\ n < l.length /\ k.length + (r + 1) = d /\
 (∀ c,(k ++ [c]) <+: eldL f d l n ↔ c = c0) /\ SqT K H ch [vt (k ++ [c0]),v] /\ EAt K H v (f :: L) f d l (n + 1) (k ++ [c0]) /\ ∀ z H',Same H H' -> FrV K H' z (prodW (wch (f :: L) f d l (n + 1) r k)).1 (prodW (wch (f :: L) f d l (n + 1) r k)).2 -> Q z H'
theorem ok_Qb (T : Txt K mg t) : FnOk P w K mg base (CX1 P w) 5 t.a_Qb t.fd_Qb ["self", "knot", "changed"] (spBranching K t.c_Growth):=by
 refine T.F_Qb.okn (k:=4) sc_Qb (λ vs H Q E h=>?_) (λ cdv A outer s H vs Q E hr h=>?_)
 ·obtain ⟨p,tb,rp,fr,f,L,d,l,n,B,k,r,c0,ch,v,rfl,_⟩:=h; rfl
 obtain ⟨p,tb,rp,fr,f,L,d,l,n,B,k,r,c0,ch,v,rfl,G,S,hn,hk,pre,hch,hv,q⟩:=h
 have G_Qe:=(@ok_Qe P w K mg base t T).mono (show 2 <= 4 by decide)
 have G_Qy:=@ok_Qy P w K mg base t T
 have l6:=S.l6
 have d6:=S.d6
 have hwv : ∀ c,P2 (wv (f :: L) f d l (n + 1) r (k ++ [c])) (wb r (sg f d l (k ++ [c]) (n + 1)).length):=λ c=>wv_ok S (by omega) r (k ++ [c]) (by rw [List.length_append]; show _ + 1 + _ = _; omega)
 have hW : P2 (prodW (wch (f :: L) f d l (n + 1) r k)) 8900:=(wch_ok S (show n + 1 <= l.length by omega) (show k.length < d by omega) hwv).mono (wb_le S (by omega) (Nat.le_trans (sg_le ..) (by omega)))
 have hWe : ∀ e ∈ wch (f :: L) f d l (n + 1) r k,P2 e 8900:=λ e he=>by
  obtain ⟨c,_,rfl⟩:=List.mem_map.mp he
  exact (hwv c).mono (wb_le S (by omega) (Nat.le_trans (sg_le ..) (by omega)))
 refine ⟨_,(pss_cons (ps_set (i:=3) sc_Qb.nd rfl (Or.inl rfl) (pe_lst pa_nil))
  (pss_cons (ps_for PassesOwn.never rfl (piAny (pe_ix ixAny (pe_fld (pv 0) rfl) pe_int (λ _ _=>rfl))) (pg_name (i:=4) sc_Qb.nd rfl (Or.inl rfl)) (pss_one (ps_if (pt_cmpR (oEqA (hr.units0)) (pe_op oAddN (pv 1) (pv 4)) (pe_ix ixAny (pv 2) pe_int (λ _ _=>rfl)) (nomark _)) (pss_one (ps_expr (pe_bm PySem.F.plainAttrs_list PySem.F.slot_list_append PySem.F.type_list_append mt_app (pv 3) (pa_cons (pe_ix ixAny (pe_ix ixAny (pv 2) pe_int (λ _ _=>rfl)) (pe_glob (v:=.int 2) rfl T.m_WEIGHT ⟨_,rfl⟩) (λ _ _=>rfl)) pa_nil)))) (pss_one (ps_expr (pe_bm PySem.F.plainAttrs_list PySem.F.slot_list_append PySem.F.type_list_append mt_app (pv 3) (pa_cons (pe_ix ixAny (pe_meth (pv 0) T.cl_Growth T.me_Qe G_Qe hr T.b_Qe .nil pass1 (pa_cons (pe_op oAddN (pv 1) (pv 4)) pa_nil)) (pe_glob (v:=.int 2) rfl T.m_WEIGHT ⟨_,rfl⟩) (λ _ _=>rfl)) pa_nil)))))))
  (pss_one (ps_ret (pe_call G_Qy hr rfl T.m_Qy T.F_Qy.kp T.b_Qy .nil pass1 (pa_cons (pv 3) pa_nil)))))),?_⟩
 obtain ⟨dx,ob⟩:=G.ob
 refine ⟨by rw [sizeLine_eq]; show 0 <= _; decide,λ D hD=>?_⟩
 have s0 : Same H (upd H D (.lst [])):=same_new hD _
 have e0 : upd H D (.lst []) D = some (.lst []):=upd_same
 try dsimp (config:={ proj:=false,eta:=false,zeta:=false,iota:=false }) only [tNil,tC]
 generalize upd H D (.lst []) = H0 at s0 e0 ⊢
 refine ⟨_,rfl,p,_,dx,_,_,rfl,s0 _ _ ob,T.cl_Growth,T.na_Growth_frame,gf_frame _ _ _ _,?_⟩
 refine ixT (same_tup s0 (same_tup (off_sub _ _ _ _) G.fa)) rfl (.inr (.inr ⟨_,rfl,?_⟩))
 refine for_walk (walk_tx (f :: L)) (λ i σ H'=>∃ ts r4,σ = [some (.ref p),some (vt k),some (.ref ch),some (.ref D),r4] /\ Same H H' /\ H' D = some (.lst ts) /\ ts.length = i /\
  ∀ (j : Nat) v e,ts[j]? = some v -> (wch (f :: L) f d l (n + 1) r k)[j]? = some e -> FrV K (mn H' D) v e.1 e.2) ⟨[],_,rfl,s0,e0,rfl,λ j v c h=>nomatch h⟩ (λ _ _ _ _ _=>trivial) ?_ ?_
 ·rintro i x _ H1 hx ⟨ts,r4,rfl,g,eD,hts,hfr⟩
  obtain ⟨c,hc,rfl⟩:=sign_at hx
  have hi:=(List.getElem?_eq_some_iff.mp hx).1
  have hil:=(List.getElem?_eq_some_iff.mp hc).1
  have hkc : (k ++ [c]).length = k.length + 1:=by rw [List.length_append]; rfl
  have fin : ∀ (H2 : Hp) (y : V),Same H1 H2 -> FrV K H2 y (wv (f :: L) f d l (n + 1) r (k ++ [c])).1 (wv (f :: L) f d l (n + 1) r (k ++ [c])).2 -> ∃ ts' r4',([some (.ref p),some (vt k),some (.ref ch),some (.ref D),some (vt [c])] : L2.St) = [some (.ref p),some (vt k),some (.ref ch),some (.ref D),r4'] /\ Same H (upd H2 D (.lst (ts ++ [y]))) /\ upd H2 D (.lst (ts ++ [y])) D = some (.lst ts') /\ ts'.length = i + 1 /\
   ∀ (j : Nat) v e,ts'[j]? = some v -> (wch (f :: L) f d l (n + 1) r k)[j]? = some e -> FrV K (mn (upd H2 D (.lst (ts ++ [y]))) D) v e.1 e.2:=λ H2 y s2 hy=>by
   have up : Same (mn H2 D) (mn (upd H2 D (.lst (ts ++ [y]))) D):=mn_up λ b o hb e=>by rw [upd_ne hb]; exact e
   refine ⟨ts ++ [y],_,rfl,over_same hD (g.trans s2),upd_same,by rw [List.length_append,hts]; rfl,λ j v e hv he=>?_⟩
   by_cases z : j < ts.length
   ·rw [List.getElem?_append_left z] at hv
    exact ((hfr j v e hv he).same (mn_up λ b o _ e=>s2 b o e)).same up
   ·rw [List.getElem?_append_right (by omega)] at hv
    have : j - ts.length = 0:=by
     have:=(List.getElem?_eq_some_iff.mp hv).1
     simp at this; omega
    rw [this] at hv
    cases hv
    have ej : j = i:=by omega
    subst ej
    unfold wch at he
    rw [List.getElem?_map,hc] at he
    cases he
    exact (hy.minus (s2 _ _ eD)).same up
  refine ⟨_,rfl,_,rfl,.inr (.inl (catX (by rw [sizeLine_eq]; show _ + 1 <= _; omega) ?_))⟩
  refine ⟨_,rfl,ixT (same_tup g hch) rfl (.inl ⟨rfl,_,rfl,if2 (λ z=>?_) (λ z=>?_)⟩)⟩
  ·have hcc : c = c0:=by
    have:=tx_inj (V.str.inj z)
    simpa using this
   subst hcc
   obtain ⟨e,qq,xw,yw,rfl,h1,h2,h3,h4⟩:=hv.same g
   have hr : d - (k ++ [c]).length = r:=by omega
   rw [hr] at h4
   refine ⟨_,rfl,tyL (.inl (.inl eD)),_,rfl,ixT (same_tup g hch) rfl (ixT h1 rfl ?_)⟩
   try dsimp (config:={ proj:=false,eta:=false,zeta:=false,iota:=false }) only [tNil,tC]
   exact appL eD (by rw [sizeLine_eq]; simp at hi; omega) (fin H1 yw (Same.refl _) h4)
  ·have hcc : ¬ c = c0:=λ e=>z (by rw [e])
   refine ⟨_,rfl,tyL (.inl (.inl eD)),_,rfl,p,dx,_,rfl,g _ _ ob,(gf_no _ _ _ _).1,_,rfl,_,rfl,.inr (.inl (catX (by rw [sizeLine_eq]; show _ + 1 <= _; omega) ?_))⟩
   refine ⟨p,tb,rp,fr,f,L,d,l,n,B,k ++ [c],rfl,G.same g,by omega,by omega,λ u H2 s2 hu=>?_⟩
   obtain ⟨e,qq,xw,yw,rfl,h1,h2,h3,h4⟩:=hu.same (off_sub _ _ _ _)
   have hr : d - (k ++ [c]).length = r:=by omega
   rw [hr,← wv_off r (λ y=>hcc ((pre c).mp y))] at h4
   refine ixT h1 rfl ?_
   try dsimp (config:={ proj:=false,eta:=false,zeta:=false,iota:=false }) only [tNil,tC]
   exact appL (s2 _ _ eD) (by rw [sizeLine_eq]; simp at hi; omega) (fin H2 yw s2 h4)
 ·rintro _ H1 ⟨ts,r4,rfl,g,eD,hts,hfr⟩
  rw [List.length_map] at hts
  have hl : ts.length = (wch (f :: L) f d l (n + 1) r k).length:=by unfold wch; rw [List.length_map]; exact hts
  refine ⟨_,rfl,D,ts,wch (f :: L) f d l (n + 1) r k,rfl,.inl (.inl eD),hl,λ j v e hv he=>(hfr j v e hv he).same (mn_same _ _),λ i=>?_,λ e he=>?_,λ H2 z s2 hz=>q z H2 (g.trans s2) hz⟩
  ·have p1:=prod_pre (xs:=(wch (f :: L) f d l (n + 1) r k).map (·.1)) (λ x hx=>by obtain ⟨e,he,rfl⟩:=List.mem_map.mp hx; exact (hWe e he).a1) hW.ab i
   have p2:=prod_pre (xs:=(wch (f :: L) f d l (n + 1) r k).map (·.2)) (λ x hx=>by obtain ⟨e,he,rfl⟩:=List.mem_map.mp hx; exact (hWe e he).b1) hW.bb i
   rw [List.map_take,List.map_take]
   exact ⟨lt_pow p1 (by decide),lt_pow p2 (by decide)⟩
  ·exact ⟨lt_pow (hWe e he).ab (by decide),lt_pow (hWe e he).bb (by decide)⟩
def spRaised (K : PySem.W.Frag) : Sp:=λ vs H Q _=>∃ (a : Addr) (cs : List Nat) (i v : Nat),vs = [.ref a,.int (i : Int)] /\ SqL K H a (ivs cs) /\ cs[i]? = some v /\ cs.length <= 100 /\ ∀ r H',Same H H' -> H r = none -> H' r = some (.lst (ivs (cs.set i (v + 1)))) -> Q (.ref r) H'
theorem ok_Qbd (T : Txt K mg t) : FnOk P w K mg base (CX1 P w) 1 t.a_Qbd t.fd_Qbd ["counts", "place"] (spRaised K):=by
 refine T.F_Qbd.okn (k:=0) sc_Qbd (λ vs H Q E h=>?_) (λ cdv A outer s H vs Q E hr h=>?_)
 ·obtain ⟨a,cs,i,v,rfl,_⟩:=h; rfl
 obtain ⟨a,cs,i,v,rfl,ha,hi,hl,q⟩:=h
 have hil:=(List.getElem?_eq_some_iff.mp hi).1
 refine ⟨_,(pss_cons (ps_set (i:=2) sc_Qbd.nd rfl (Or.inl rfl) (pe_callTy (callList rfl) rfl T.m_list bt_list (pa_cons (pv 0) pa_nil)))
  (pss_cons (ps_augS (pv 2) (pv 1) get_list pe_int ipAdd set_list)
  (pss_one (ps_ret (pv 2))))),?_⟩
 refine ⟨_,rfl,.inl ⟨a,_,rfl,.inl ha,λ r hr0=>?_⟩⟩
 have e1 : upd H r (.lst (ivs cs)) r = some (.lst (ivs cs)):=upd_same
 refine ⟨_,rfl,_,rfl,r,_,_,_,rfl,rfl,SqL.of e1,by omega,atI_nat (by rw [ivs_get,hi]; rfl),?_⟩
 refine .inl ⟨_,_,rfl,rfl,?_⟩
 refine ⟨r,_,_,i,rfl,rfl,e1,?_,?_⟩
 ·unfold ixN; rw [if_pos (by omega),if_pos (by rw [ivs_len]; omega),Int.toNat_natCast]
 ·have e2 : (ivs cs).set i (V.int ((v : Int) + 1)) = ivs (cs.set i (v + 1)):=by rw [show ((v : Int) + 1) = ((v + 1 : Nat) : Int) by omega,ivs_set]
  exact ⟨_,rfl,q r _ (over_same hr0 (same_new hr0 _)) hr0 (Eq.trans upd_same (congrArg (λ z=>some (HO.lst z)) e2))⟩
theorem at_last {α : Type} (xs : List α) (x : α) : atI (xs ++ [x]) (-1) = some x:=by
 have h : ixN (xs ++ [x]).length (-1) = some ((xs ++ [x]).length - 1):=by
  unfold ixN
  rw [if_neg (by omega),if_pos (by simp; omega)]
  congr 1; omega
 unfold atI
 rw [h]
 show (xs ++ [x])[(xs ++ [x]).length - 1]? = _
 simp
theorem eldL_take (f d : Nat) (l : List Nat) {n : Nat} (hn : n <= l.length) : eldL f d (l.take n) n = eldL f d l n:=by
 unfold eldL
 refine List.map_congr_left λ j _=>?_
 split
 ·rename_i z
  rw [List.getD_eq_getElem?_getD,List.getD_eq_getElem?_getD,List.getElem?_take_of_lt (by omega)]
 ·rfl
theorem off_up {p t r D b : Addr} {H : Hp} {o o' : HO} (hb : b ≠ D) (h : off p t r H b = some o) : off p t r (upd H D o') b = some o:=by
 unfold off at h ⊢
 split at h
 ·cases h
 ·rename_i z; rw [if_neg z,upd_ne hb]; exact h
def TD (K : PySem.W.Frag) (F : Hp) (L : List Nat) (f d : Nat) (l : List Nat) (n : Nat) (v : V) (k : List Nat) : Prop:=∃ ch e,v = .ref ch /\ SqT K F ch [vt k,e] /\ EAt K F e L f d l n k
theorem TD.same {F F' : Hp} {L : List Nat} {f d : Nat} {l : List Nat} {n : Nat} {v : V} {k : List Nat} (h : TD K F L f d l n v k) (s : Same F F') : TD K F' L f d l n v k:=by
 obtain ⟨ch,e,e0,h1,h2⟩:=h
 exact ⟨ch,e,e0,same_tup s h1,h2.same s⟩
def spChanges (K : PySem.W.Frag) (C : Addr) : Sp:=λ vs H Q _=>∃ (p tb rp fr : Addr) (f : Nat) (L : List Nat) (d : Nat) (l : List Nat) (n B c : Nat),vs = [.ref p,vt [c]] /\ GO K C p tb rp fr H f L d l n B /\ Sm (f :: L) f d l /\ l[n]? = some c /\
 ∀ D H' ts,Same H H' -> H D = none -> H' D = some (.lst ts) -> ts.length = d + 1 -> (∀ (j : Nat) v,ts[j]? = some v -> TD K (mn (off p tb rp H') D) (f :: L) f d l (n + 1) v ((eldL f d l n).take (d - j))) -> Q (.ref D) H'
theorem ok_Qc (T : Txt K mg t) : FnOk P w K mg base (CX1 P w) 6 t.a_Qc t.fd_Qc ["self", "sign"] (spChanges K t.c_Growth):=by
 refine T.F_Qc.okn (k:=5) sc_Qc (λ vs H Q E h=>?_) (λ cdv A outer s H vs Q E hr h=>?_)
 ·obtain ⟨p,tb,rp,fr,f,L,d,l,n,B,c,rfl,_⟩:=h; rfl
 obtain ⟨p,tb,rp,fr,f,L,d,l,n,B,c,rfl,G,S,hc,q⟩:=h
 have G_Ql:=(@ok_Ql P w K mg base t T).mono (show 1 <= 5 by decide)
 have G_Qe:=(@ok_Qe P w K mg base t T).mono (show 2 <= 5 by decide)
 have G_Qb:=(@ok_Qb P w K mg base t T)
 have G_Qbi:=(@ok_Qbi P w K mg base t T).mono (show 3 <= 5 by decide)
 have G_Qbj:=(@ok_Qbj P w K mg base t T).mono (show 3 <= 5 by decide)
 have G_plus:=(@ok_plus P w K mg base t T).mono (show 3 <= 5 by decide)
 have G_half:=(@ok_half P w K mg base t T).mono (show 3 <= 5 by decide)
 have G_Qbd:=(@ok_Qbd P w K mg base t T).mono (show 1 <= 5 by decide)
 have l6:=S.l6
 have d6:=S.d6
 have hnl:=(List.getElem?_eq_some_iff.mp hc).1
 have hcL:=S.al c (List.mem_of_getElem? hc)
 have ll:=S.ll
 obtain ⟨dx,ob⟩:=G.ob
 have fa:=same_tup (off_sub p tb rp H) G.fa
 have ht : (l.take n).length = n:=by rw [List.length_take]; omega
 have zt : (l.take n).length <= sizeLine:=by rw [sizeLine_eq]; omega
 refine ⟨_,(pss_cons (ps_set (i:=2) sc_Qc.nd rfl (Or.inl rfl) (pe_bm PySem.F.plainAttrs_str PySem.F.slot_str_index PySem.F.type_str_index mt_index (pe_ix ixAny (pe_fld (pv 0) rfl) pe_int (λ _ _=>rfl)) (pa_cons (pv 1) pa_nil)))
  (pss_cons (ps_set (i:=3) sc_Qc.nd rfl (Or.inl rfl) (pe_call G_Ql hr rfl T.m_Ql T.F_Ql.kp T.b_Ql .nil pass1 (PAs.h (pas_cons (pe_fld (pv 0) rfl) (pas_cons (pe_fld (pv 0) rfl) (pas_cons (pe_callB call_len rfl T.m_len bt_len (pa_cons (pe_fld (pv 0) rfl) pa_nil)) pas_nil))))))
  (pss_cons (ps_set (i:=4) sc_Qc.nd rfl (Or.inl rfl) (pe_lst pa_nil))
  (pss_cons (ps_for PassesOwn.never rfl (pi_rangeD rfl T.m_range (PAs.h (pas_cons (pe_callB call_len rfl T.m_len bt_len (pa_cons (pv 3) pa_nil)) (pas_cons (pe_un un_neg pe_int) (pas_cons (pe_un un_neg pe_int) pas_nil))))) (pg_name (i:=5) sc_Qc.nd rfl (Or.inl rfl)) (pss_cons (ps_set (i:=6) sc_Qc.nd rfl (Or.inl rfl) (pe_slice slAny (pv 3) po_none (po_some (pv 5))))
  (pss_cons (ps_set (i:=7) sc_Qc.nd rfl (Or.inl rfl) (pe_meth (pv 0) T.cl_Growth T.me_Qe G_Qe hr T.b_Qe .nil pass1 (pa_cons (pv 6) pa_nil)))
  (pss_cons (ps_set (i:=8) sc_Qc.nd rfl (Or.inl rfl) (pe_call G_Qbi hr rfl T.m_Qbi T.F_Qbi.kp T.b_Qbi .nil pass1 (PAs.h (pas_cons (pe_ix ixAny (pv 7) (pe_glob (v:=.int 1) rfl T.m_WORTH ⟨_,rfl⟩) (λ _ _=>rfl)) (pas_cons (pe_call G_Qbj hr rfl T.m_Qbj T.F_Qbj.kp T.b_Qbj .nil pass1 (PAs.h (pas_cons (pe_ix ixAny (pv 7) (pe_glob (v:=.int 0) rfl T.m_COUNTS ⟨_,rfl⟩) (λ _ _=>rfl)) (pas_cons (pv 2) pas_nil)))) pas_nil)))))
  (pss_cons (ps_set (i:=9) sc_Qc.nd rfl (Or.inl rfl) (pv 8))
  (pss_cons (ps_if (pt_cmpR oLt (pv 5) (pe_callB call_len rfl T.m_len bt_len (pa_cons (pv 3) pa_nil)) (nomark _)) (pss_one (ps_set (i:=9) sc_Qc.nd rfl (Or.inl rfl) (pe_call G_half hr rfl T.m_half T.F_half.kp T.b_half .nil pass1 (pa_cons (pe_call G_plus hr rfl T.m_plus T.F_plus.kp T.b_plus .nil pass1 (PAs.h (pas_cons (pv 8) (pas_cons (pe_meth (pv 0) T.cl_Growth T.me_Qb G_Qb hr T.b_Qb .nil pass1 (PAs.h (pas_cons (pv 6) (pas_cons (pe_ix ixAny (pv 4) (pe_un un_neg pe_int) (λ _ _=>rfl)) pas_nil)))) pas_nil)))) pa_nil)))) pss_nil)
  (pss_one (ps_expr (pe_bm PySem.F.plainAttrs_list PySem.F.slot_list_append PySem.F.type_list_append mt_app (pv 4) (pa_cons (pe_tup (PAs.h (pas_cons (pv 6) (pas_cons (pe_tup (PAs.h (pas_cons (pe_call G_Qbd hr rfl T.m_Qbd T.F_Qbd.kp T.b_Qbd .nil pass1 (PAs.h (pas_cons (pe_ix ixAny (pv 7) (pe_glob (v:=.int 0) rfl T.m_COUNTS ⟨_,rfl⟩) (λ _ _=>rfl)) (pas_cons (pv 2) pas_nil)))) (pas_cons (pv 8) (pas_cons (pv 9) pas_nil))))) pas_nil)))) pa_nil))))))))))
  (pss_one (ps_ret (pv 4))))))),?_⟩
 refine ⟨_,rfl,p,_,dx,_,_,rfl,ob,T.cl_Growth,T.na_Growth_frame,gf_frame _ _ _ _,?_⟩
 refine ixT fa rfl ⟨rfl,_,rfl,f :: L,c,rfl,rfl,hcL,λ j0 hj0=>?_⟩
 refine ⟨_,rfl,p,_,dx,_,_,rfl,ob,T.cl_Growth,T.na_Growth_frame,gf_frame _ _ _ _,?_⟩
 refine ⟨_,rfl,p,_,dx,_,_,rfl,ob,T.cl_Growth,T.na_Growth_text,gf_text _ _ _ _,?_⟩
 refine ⟨_,rfl,p,_,dx,_,_,rfl,ob,T.cl_Growth,T.na_Growth_text,gf_text _ _ _ _,?_⟩
 refine ⟨_,_,rfl,lenvS zt,fr,f,L,d,n,l.take n,congrArg (λ z=>[V.ref fr,vt (l.take n),V.int z]) (congrArg Int.ofNat ht),fa,by omega,d6,by omega,by omega,?_⟩
 rw [eldL_take f d l (Nat.le_of_lt hnl)]
 have hz:=eldL_len f d l n
 generalize hpath : eldL f d l n = path at *
 have zp : path.length <= sizeLine:=by rw [sizeLine_eq]; omega
 refine ⟨by rw [sizeLine_eq]; show 0 <= _; decide,λ D hD=>?_⟩
 have s0 : Same H (upd H D (.lst [])):=same_new hD _
 have e0 : upd H D (.lst []) D = some (.lst []):=upd_same
 try dsimp (config:={ proj:=false,eta:=false,zeta:=false,iota:=false }) only [tNil,tC]
 generalize upd H D (.lst []) = H0 at s0 e0 ⊢
 refine ⟨_,rfl,_,_,rfl,lenvS zp,_,rfl,_,rfl,d,congrArg (λ z : Nat=>[V.int (z : Int),V.int (-1),V.int (-1)]) hz,⟨by omega,by omega⟩,?_⟩
 refine for_ranges (λ i σ H'=>∃ ts r5 r6 r7 r8 r9,σ = [some (.ref p),some (vt [c]),some (.int (j0 : Int)),some (vt path),some (.ref D),r5,r6,r7,r8,r9] /\ Same H H' /\ H' D = some (.lst ts) /\ ts.length = i /\
  ∀ (j : Nat) v,ts[j]? = some v -> TD K (mn (off p tb rp H') D) (f :: L) f d l (n + 1) v (path.take (d - j))) ?_ ?_ ?_
 ·exact ⟨[],_,_,_,_,_,rfl,s0,e0,rfl,λ j v h=>nomatch h⟩
 ·rintro i _ H1 hi ⟨ts,r5,r6,r7,r8,r9,rfl,g,eD,hts,hTD⟩
  have hid : i <= d:=by omega
  rw [show (d : Int) + (i : Int) * -1 = ((d - i : Nat) : Int) by omega]
  show tSeq _ _ _ [some (.ref p),some (vt [c]),some (.int (j0 : Int)),some (vt path),some (.ref D),some (.int ((d - i : Nat) : Int)),r6,r7,r8,r9] H1
  refine ⟨_,rfl,_,rfl,_,rfl,.inr (cutT zp ?_)⟩
  rw [cut_to]
  have hkl : (path.take (d - i)).length = d - i:=by rw [List.length_take]; omega
  have hkp : path.take (d - i) <+: eldL f d l n:=hpath ▸ List.take_prefix _ _
  have hkn : d - (path.take (d - i)).length = i:=by omega
  have hT1:=hTD (i - 1)
  generalize hK : path.take (d - i) = kn at hkl hkp hkn ⊢
  obtain ⟨v,hv,hset,hwo⟩:=wo_on S.nd hkp hj0 hc
  have hsum : (cntL (f :: L) f d l kn n).sum = (sg f d l kn n).length:=sg_len S.nd S.al _ (Nat.le_of_lt hnl)
  have hsl:=sg_le f d l kn n
  have hvs:=le_sum hv
  have w0:=(wo_P2 S (Nat.le_of_lt hnl) kn).mono (show 17 * (sg f d l kn n).length <= 8900 by have:=wb_le S (r:=0) (Nat.zero_le d) (Nat.le_trans hsl (Nat.le_of_lt hnl)); unfold wb at this; omega)
  have hsl1:=sg_le f d l kn (n + 1)
  have w1:=(wo_P2 S (show n + 1 <= l.length by omega) kn).mono (show 17 * (sg f d l kn (n + 1)).length <= 8900 by have:=wb_le S (r:=0) (Nat.zero_le d) (Nat.le_trans hsl1 hnl); unfold wb at this; omega)
  refine ⟨_,rfl,p,dx,_,rfl,g _ _ ob,(gf_no _ _ _ _).1,_,rfl,p,tb,rp,fr,f,L,d,l,n,B,kn,rfl,G.same g,by omega,by omega,λ z H2 s2 hz2=>?_⟩
  obtain ⟨e,q0,xw,yw,rfl,h1,h2,h3,h4⟩:=hz2.same (off_sub _ _ _ _)
  clear h4
  have eD2:=s2 _ _ eD
  have g2:=g.trans s2
  refine ⟨_,rfl,ixT h1 rfl ⟨_,rfl,ixT h1 rfl ⟨_,rfl,q0,(cntL (f :: L) f d l kn n).map (λ c : Nat=>(c : Int)),j0,v,rfl,h2,atI_nat (by rw [show ((cntL (f :: L) f d l kn n).map (λ c : Nat=>(c : Int))).map V.int = ivs (cntL (f :: L) f d l kn n) from rfl,ivs_get,hv]; rfl),?_⟩⟩⟩
  rw [ints_sum,List.length_map,cntL_len,hsum]
  have hM : 1 <= (f :: L).length:=by simp
  have hbb : (2 * ((sg f d l kn n).length : Int) + ((f :: L).length : Int)).natAbs < 2 ^ 10:=by omega
  have hb0 : 0 < 2 * ((sg f d l kn n).length : Int) + ((f :: L).length : Int):=by omega
  refine ⟨by omega,pow_lt hbb (by decide),λ r hr0=>?_⟩
  have hsh : FrV K (upd H2 r (.tup [.int (num (2 * (v : Int) + 1) (2 * ((sg f d l kn n).length : Int) + ((f :: L).length : Int))),.int (den (2 * (v : Int) + 1) (2 * ((sg f d l kn n).length : Int) + ((f :: L).length : Int)))])) (.ref r) (2 * (v : Int) + 1) (2 * ((sg f d l kn n).length : Int) + ((f :: L).length : Int)):=FrV.made (by omega) hb0 (.inl (.inl upd_same))
  have s3:=same_new hr0 (.tup [.int (num (2 * (v : Int) + 1) (2 * ((sg f d l kn n).length : Int) + ((f :: L).length : Int))),.int (den (2 * (v : Int) + 1) (2 * ((sg f d l kn n).length : Int) + ((f :: L).length : Int)))])
  generalize upd H2 r (.tup [.int (num (2 * (v : Int) + 1) (2 * ((sg f d l kn n).length : Int) + ((f :: L).length : Int))),.int (den (2 * (v : Int) + 1) (2 * ((sg f d l kn n).length : Int) + ((f :: L).length : Int)))]) = H3 at hsh s3 ⊢
  rw [hsum] at hwo
  have hw1 : (wo (f :: L) f d l (n + 1) kn).1 = (wo (f :: L) f d l n kn).1 * (2 * (v : Int) + 1):=congrArg Prod.fst hwo
  have hw2 : (wo (f :: L) f d l (n + 1) kn).2 = (wo (f :: L) f d l n kn).2 * (2 * ((sg f d l kn n).length : Int) + ((f :: L).length : Int)):=congrArg Prod.snd hwo
  refine ⟨xw,.ref r,_,_,_,_,rfl,h3.same s3,hsh,lt_pow w0.ab (by decide),lt_pow w0.bb (by decide),lt_pow (show (2 * (v : Int) + 1) <= 2 ^ 10 by omega) (by decide),lt_pow (show _ <= (2 : Int) ^ 10 by omega) (by decide),by rw [← hw2]; exact lt_pow w1.bb (by decide),λ H4 wt s4 hwt=>?_⟩
  rw [← hw1,← hw2] at hwt
  have s24:=s3.trans s4
  have g4:=g2.trans s24
  have eD4:=s24 _ _ eD2
  have h14:=same_tup s24 h1
  have h24:=same_lst s24 h2
  clear hw1 hw2 hsh h3 hwo
  refine ⟨_,rfl,?_⟩
  dsimp (config:={ eta:=false,zeta:=false,iota:=false }) only [gName]
  refine meet (λ σ H5=>∃ z,σ = [some (.ref p),some (vt [c]),some (.int (j0 : Int)),some (vt path),some (.ref D),some (.int ((d - i : Nat) : Int)),some (vt kn),some (.ref e),some wt,some z] /\ Same H4 H5 /\ FrV K H5 z (wv (f :: L) f d l (n + 1) i kn).1 (wv (f :: L) f d l (n + 1) i kn).2) (λ N hN=>?_) ?_
  ·refine ⟨_,rfl,_,rfl,_,_,rfl,lenvS zp,.inl ⟨_,_,rfl,rfl,_,rfl,if2 (λ z=>?_) (λ z=>?_)⟩⟩
   ·obtain ⟨r,rfl⟩ : ∃ r,i = r + 1:=⟨i - 1,by omega⟩
    obtain ⟨c0,hc0,pre⟩:=next_of (show kn.length < d by omega) hkp
    have hse : seen f d l kn (n + 1) = true:=seen_yes (falls_iff.mpr hkp)
    have hmix:=wv_seen (L:=f :: L) (r:=r) hse
    have hwk:=(wv_ok S (show n + 1 <= l.length by omega) (r + 1) kn (by omega)).mono (wb_le S (show r + 1 <= d by omega) (Nat.le_trans hsl1 hnl))
    have hch:=(wch_ok S (show n + 1 <= l.length by omega) (show kn.length < d by omega) (λ c=>wv_ok S (show n + 1 <= l.length by omega) r (kn ++ [c]) (by rw [List.length_append]; show _ + 1 + _ = _; omega))).mono (wb_le S (show r <= d by omega) (Nat.le_trans hsl1 hnl))
    rcases List.eq_nil_or_concat ts with rfl | ⟨ts',u,rfl⟩
    ·simp at hts
    rw [List.concat_eq_append] at *
    have hu:=hT1 u (by rw [List.getElem?_append_right (by simp at hts; omega)]; simp at hts; simp [hts])
    have hk1 : path.take (d - (r + 1 - 1)) = kn ++ [c0]:=by
     have e1 : d - (r + 1 - 1) = d - (r + 1) + 1:=by omega
     have e2 : d - (r + 1) < path.length:=by omega
     have e3 : path.take (d - (r + 1 - 1)) = kn ++ [path[d - (r + 1)]]:=by rw [e1,List.take_add_one,hK,List.getElem?_eq_getElem e2]; rfl
     have e4:=(pre path[d - (r + 1)]).mp (by rw [hpath,← e3]; exact List.take_prefix _ _)
     rw [e3,e4]
    rw [hk1] at hu
    obtain ⟨ch,ev,rfl,hch1,hev⟩:=hu
    have sub : Same (mn (off p tb rp H1) D) H4:=((mn_same _ _).trans (off_sub _ _ _ _)).trans (s2.trans s24)
    refine ⟨_,rfl,_,rfl,p,dx,_,rfl,g4 _ _ ob,(gf_no _ _ _ _).2.1,_,rfl,_,rfl,_,rfl,ixL (.inl (.inl eD4)) (at_last ts' _) ?_⟩
    refine ⟨p,tb,rp,fr,f,L,d,l,n,B,kn,r,c0,ch,ev,rfl,G.same g4,S,hnl,by omega,pre,same_tup sub hch1,hev.same sub,λ y H5 s5 hy=>?_⟩
    have b1:=hwk.ab
    have b2:=hwk.bb
    rw [hmix] at b1 b2
    have bBD : (wo (f :: L) f d l (n + 1) kn).2 * (prodW (wch (f :: L) f d l (n + 1) r kn)).2 <= 2 ^ 8900:=by
     have : 2 * ((wo (f :: L) f d l (n + 1) kn).2 * (prodW (wch (f :: L) f d l (n + 1) r kn)).2) <= 2 ^ 8900:=b2
     have p1:=Int.mul_pos (show 0 < (wo (f :: L) f d l (n + 1) kn).2 by have:=w1.b1; omega) (show 0 < (prodW (wch (f :: L) f d l (n + 1) r kn)).2 by have : 1 <= (prodW (wch (f :: L) f d l (n + 1) r kn)).2:=hch.b1; omega)
     omega
    refine ⟨wt,y,_,_,_,_,rfl,hwt.same s5,hy,lt_pow w1.ab (by decide),lt_pow w1.bb (by decide),lt_pow hch.ab (by decide),lt_pow hch.bb (by decide),lt_pow bBD (by decide),λ H6 y6 s6 hy6=>?_⟩
    refine ⟨y6,_,_,rfl,hy6,lt_pow b1 (by decide),lt_pow bBD (by decide),λ H7 y7 s7 hy7=>?_⟩
    exact hN _ _ ⟨y7,rfl,(s5.trans s6).trans s7,by rw [hmix]; exact hy7⟩
   ·have hi0 : i = 0:=by omega
    subst hi0
    exact hN _ _ ⟨wt,rfl,Same.refl _,hwt⟩
  rintro _ H5 ⟨z,rfl,s5,hz5⟩
  refine ⟨_,rfl,tyL (.inl (.inl (s5 _ _ eD4))),_,rfl,_,rfl,ixT (same_tup s5 h14) rfl ⟨_,rfl,q0,cntL (f :: L) f d l kn n,j0,v,rfl,same_lst s5 h24,hv,by rw [cntL_len]; omega,λ r6 H6 s6 hr6 e6=>?_⟩⟩
  refine ⟨_,rfl,_,rfl,by rw [sizeLine_eq]; show 3 <= _; decide,λ u hu=>⟨by rw [sizeLine_eq]; show 2 <= _; decide,λ ch hch=>?_⟩⟩
  try dsimp (config:={ proj:=false,eta:=false,zeta:=false,iota:=false }) only [tNil,tC]
  have s7 : Same H6 (upd (upd H6 u (.tup [.ref r6,wt,z])) ch (.tup [vt kn,.ref u])):=(same_new hu _).trans (same_new hch _)
  have e7u : upd (upd H6 u (.tup [.ref r6,wt,z])) ch (.tup [vt kn,.ref u]) u = some (.tup [.ref r6,wt,z]):=new_at hch upd_same
  have e7c : upd (upd H6 u (.tup [.ref r6,wt,z])) ch (.tup [vt kn,.ref u]) ch = some (.tup [vt kn,.ref u]):=upd_same
  generalize upd (upd H6 u (.tup [.ref r6,wt,z])) ch (.tup [vt kn,.ref u]) = H7 at s7 e7u e7c ⊢
  have s47:=(s5.trans s6).trans s7
  have eD7:=s47 _ _ eD4
  have g7:=g4.trans s47
  have T3:=G.three.same g7
  have nD : D ≠ p /\ D ≠ tb /\ D ≠ rp:=by
   obtain ⟨⟨_,_,a1⟩,⟨_,a2⟩,⟨_,a3⟩⟩:=G.three
   exact ⟨λ y=>(by rw [y,a1] at hD; cases hD),λ y=>(by rw [y,a2] at hD; cases hD),λ y=>(by rw [y,a3] at hD; cases hD)⟩
  have n6 : r6 ≠ p /\ r6 ≠ tb /\ r6 ≠ rp /\ r6 ≠ D:=by
   obtain ⟨⟨_,_,a1⟩,⟨_,a2⟩,⟨_,a3⟩⟩:=G.three.same (g4.trans s5)
   have a4:=s5 _ _ eD4
   exact ⟨λ y=>(by rw [y,a1] at hr6; cases hr6),λ y=>(by rw [y,a2] at hr6; cases hr6),λ y=>(by rw [y,a3] at hr6; cases hr6),λ y=>(by rw [y,a4] at hr6; cases hr6)⟩
  have oD7 : off p tb rp H7 D = some (.lst ts):=off_at eD7 nD.1 nD.2.1 nD.2.2
  have tdn : TD K (mn (off p tb rp H7) D) (f :: L) f d l (n + 1) (.ref ch) kn:=by
   refine ⟨ch,.ref u,rfl,SqT.minus oD7 (T3.tup (.inl (.inl e7c))),u,r6,wt,z,rfl,SqT.minus oD7 (T3.tup (.inl (.inl e7u))),?_,(T3.fr (hwt.same s47)).minus oD7,?_⟩
   ·rw [hset]
    exact .inl (.inl (mn_at (off_at (s7 _ _ e6) n6.1 n6.2.1 n6.2.2.1) n6.2.2.2))
   ·rw [hkn]
    exact (T3.fr (hz5.same (s6.trans s7))).minus oD7
  refine appL eD7 (by rw [sizeLine_eq]; omega) ?_
  have up : Same (mn (off p tb rp H7) D) (mn (off p tb rp (upd H7 D (.lst (ts ++ [.ref ch])))) D):=mn_up λ b o hb e=>off_up hb e
  refine ⟨ts ++ [.ref ch],_,_,_,_,_,rfl,over_same hD g7,upd_same,by rw [List.length_append,hts]; rfl,λ j v hj=>?_⟩
  by_cases y : j < ts.length
  ·rw [List.getElem?_append_left y] at hj
   exact ((hTD j v hj).same (mn_up λ b o _ e=>off_same (s2.trans (s24.trans s47)) b o e)).same up
  ·rw [List.getElem?_append_right (by omega)] at hj
   have : j - ts.length = 0:=by
    have:=(List.getElem?_eq_some_iff.mp hj).1
    simp at this; omega
   rw [this] at hj
   cases hj
   have ej : j = i:=by omega
   rw [ej,hK]
   exact tdn.same up
 ·rintro _ H1 ⟨ts,r5,r6,r7,r8,r9,rfl,g,eD,hts,hTD⟩
  exact ⟨_,rfl,q D H1 ts g hD eD (by omega) hTD⟩
theorem putK_len {κ : Type} [DecidableEq κ] (kvs : List (κ × V)) (k : κ) (v : V) : (putK kvs k v).length <= kvs.length + 1:=by
 unfold putK
 split
 ·rw [List.length_map]; omega
 ·rw [List.length_append]; exact Nat.le_refl _
theorem off_eq {p t r : Addr} {H H' : Hp} (h : ∀ b,b ≠ p -> b ≠ t -> b ≠ r -> H' b = H b) : off p t r H' = off p t r H:=by
 funext b
 unfold off
 by_cases z : b = p \/ b = t \/ b = r
 ·rw [if_pos z,if_pos z]
 ·rw [if_neg z,if_neg z]
  exact h b (λ e=>z (.inl e)) (λ e=>z (.inr (.inl e))) (λ e=>z (.inr (.inr e)))
theorem GT.put {F : Hp} {L : List Nat} {f d : Nat} {l : List Nat} {kvs : List (Key × V)} {m m' : List Nat -> Nat} {kn : List Nat} {e : V} (h : GT K F L f d l kvs m) (hs : seen f d l kn (m' kn) = true) (he : EAt K F e L f d l (m' kn) kn) (hm : ∀ k,k ≠ kn -> m' k = m k) (hkd : kn.length <= d) : GT K F L f d l (putK kvs (key kn) e) m':=by
 refine ⟨λ k hk hl=>?_,λ k v hk hl=>?_,h.ks.put _ _,λ k hk=>?_⟩
 ·rw [valV_put] at hk
  by_cases z : key k = key kn
  ·rw [if_pos z] at hk; cases hk
  ·rw [if_neg z] at hk
   rw [hm k λ y=>z (by rw [y])]
   exact h.non k hk hl
 ·rw [valV_put] at hk
  by_cases z : key k = key kn
  ·rw [if_pos z] at hk
   cases hk
   have:=key_inj z
   subst this
   exact ⟨hs,he⟩
  ·rw [if_neg z] at hk
   rw [hm k λ y=>z (by rw [y])]
   exact h.som k v hk hl
 ·rw [valV_put] at hk
  by_cases z : key k = key kn
  ·rw [key_inj z]; exact hkd
  ·rw [if_neg z] at hk
   exact h.kl k hk
theorem GT.next {F : Hp} {L : List Nat} {f d : Nat} {l : List Nat} {kvs : List (Key × V)} {n : Nat} {m : List Nat -> Nat} (h : GT K F L f d l kvs m) (h1 : ∀ k,k.length <= d -> k <+: eldL f d l n -> m k = n + 1) (h2 : ∀ k,¬ k <+: eldL f d l n -> m k = n) : GT K F L f d l kvs (λ _=>n + 1):=by
 refine ⟨λ k hk hl=>?_,λ k v hk hl=>?_,h.ks,h.kl⟩
 ·by_cases z : k <+: eldL f d l n
  ·have:=h.non k hk hl
   rw [h1 k hl z] at this; exact this
  ·have:=h.non k hk hl
   rw [h2 k z] at this
   show seen f d l k (n + 1) = false
   rw [seen_no (falls_no z)]; exact this
 ·by_cases z : k <+: eldL f d l n
  ·have:=h.som k v hk hl
   rw [h1 k hl z] at this; exact this
  ·have:=h.som k v hk hl
   rw [h2 k z] at this
   refine ⟨?_,this.2.congr (cntL_no (falls_no z)) (wv_off _ z)⟩
   show seen f d l k (n + 1) = true
   rw [seen_no (falls_no z)]; exact this.1
theorem GT.congr {F : Hp} {L : List Nat} {f d : Nat} {l : List Nat} {kvs : List (Key × V)} {m m' : List Nat -> Nat} (h : GT K F L f d l kvs m) (e : ∀ k,k.length <= d -> m' k = m k) : GT K F L f d l kvs m' :=
 ⟨λ k hk hl=>by rw [e k hl]; exact h.non k hk hl,λ k v hk hl=>by rw [e k hl]; exact h.som k v hk hl,h.ks,h.kl⟩
theorem off_mn {p t r R : Addr} {H H' : Hp} (s : Same H H') (hR : H R = none) : Same (off p t r H) (mn (off p t r H') R):=λ b o h =>
 mn_at (off_same s b o h) λ e=>by
  have:=off_sub _ _ _ _ b o h
  rw [e,hR] at this; cases this
theorem pre_len {a b c : List Nat} (h1 : a <+: c) (h2 : b <+: c) (h : a.length = b.length) : a = b:=by
 rw [List.prefix_iff_eq_take] at h1 h2
 rw [h1,h2,h]
def spGrow (K : PySem.W.Frag) (C : Addr) : Sp:=λ vs H Q _=>∃ (p tb rp fr : Addr) (f : Nat) (L : List Nat) (d : Nat) (l : List Nat) (n B c : Nat),vs = [.ref p,vt [c]] /\ GO K C p tb rp fr H f L d l n B /\ Sm (f :: L) f d l /\ l[n]? = some c /\ B <= 10000 /\
 ∀ H',GO K C p tb rp fr H' f L d l (n + 1) (B + (d + 1)) -> (∀ b o,H b = some o -> b ≠ p -> b ≠ tb -> b ≠ rp -> H' b = some o) -> Q .non H'
theorem ok_Qi (T : Txt K mg t) : FnOk P w K mg base (CX1 P w) 7 t.a_Qi t.fd_Qi ["self", "sign"] (spGrow K t.c_Growth):=by
 refine T.F_Qi.okn (k:=6) sc_Qi (λ vs H Q E h=>?_) (λ cdv A outer s H vs Q E hr h=>?_)
 ·obtain ⟨p,tb,rp,fr,f,L,d,l,n,B,c,rfl,_⟩:=h; rfl
 obtain ⟨p,tb,rp,fr,f,L,d,l,n,B,c,rfl,G,S,hc,hB,q⟩:=h
 have G_Qc:=@ok_Qc P w K mg base t T
 have d6:=S.d6
 have ll:=S.ll
 have hnl:=(List.getElem?_eq_some_iff.mp hc).1
 obtain ⟨dx,ob⟩:=G.ob
 refine ⟨_,(pss_cons (ps_set (i:=2) sc_Qi.nd rfl (Or.inl rfl) (pe_meth (pv 0) T.cl_Growth T.me_Qc G_Qc hr T.b_Qc .nil pass1 (pa_cons (pv 1) pa_nil)))
  (pss_cons (ps_expr (pe_bm PySem.F.plainAttrs_list PySem.F.slot_list_append PySem.F.type_list_append mt_app (pe_fld (pv 0) rfl) (pa_cons (pe_lc (compSc_of (N:=["knot", "entry", "self"]) (cap:=[none,none,some 0]) (by kernel_rfl)) rfl (pi_list (pv 2)) ⟨λ _=>(pg_tup rfl (pgs_cons (pg_name (i:=0) (show List.Nodup (["knot", "entry", "self"] : List Str) by decide +kernel) rfl (Or.inl rfl)) (pgs_cons (pg_name (i:=1) (show List.Nodup (["knot", "entry", "self"] : List Str) by decide +kernel) rfl (Or.inl rfl)) pgs_nil))),λ _=>pf_nil,λ _=>(pe_tup (PAs.h (pas_cons (pv 0) (pas_cons (pe_dget1 (hu_of hr) (pe_fld (pv 2) rfl) (pv 0) ⟨rfl,rfl,rfl,rfl⟩) pas_nil))))⟩) pa_nil)))
  (pss_cons (ps_for PassesOwn.never rfl (pi_list (pv 2)) (pg_tup rfl (pgs_cons (pg_name (i:=3) sc_Qi.nd rfl (Or.inl rfl)) (pgs_cons (pg_name (i:=4) sc_Qi.nd rfl (Or.inl rfl)) pgs_nil))) (pss_one (ps_dput (hu_of hr) (pe_fld (pv 0) rfl) (pv 3) (pv 4) rfl)))
  (pss_one (ps_fldaug (pv 0) (pv 1) ipAdd))))),?_⟩
 refine ⟨_,rfl,p,dx,_,rfl,ob,(gf_no _ _ _ _).2.2.1,_,rfl,p,tb,rp,fr,f,L,d,l,n,B,c,rfl,G,S,hc,λ D H1 ts s1 hD e1 hts hTD=>?_⟩
 have G1:=G.same s1
 have T1:=G1.three
 obtain ⟨kvs,td,kl,gt⟩:=G1.td
 obtain ⟨rs,rl,rn,rh⟩:=G1.rl
 have ob1:=s1 _ _ ob
 have hlen:=eldL_len f d l n
 have nD : D ≠ p /\ D ≠ tb /\ D ≠ rp:=by
  obtain ⟨⟨_,_,a1⟩,⟨_,a2⟩,⟨_,a3⟩⟩:=G.three
  exact ⟨λ y=>(by rw [y,a1] at hD; cases hD),λ y=>(by rw [y,a2] at hD; cases hD),λ y=>(by rw [y,a3] at hD; cases hD)⟩
 have npt : p ≠ tb:=λ y=>by rw [y,td] at ob1; cases ob1
 have npr : p ≠ rp:=λ y=>by rw [y,rl] at ob1; cases ob1
 have ntr : tb ≠ rp:=λ y=>by rw [y,rl] at td; cases td
 refine ⟨_,rfl,p,_,dx,_,_,rfl,ob1,T.cl_Growth,T.na_Growth_replaced,gf_rep _ _ _ _,tyL (.inl (.inl rl)),?_⟩
 refine ⟨_,rfl,D,rfl,⟨_,.inl (.inl e1)⟩,λ R hR cp=>?_⟩
 have nR : R ≠ p /\ R ≠ tb /\ R ≠ rp:=⟨λ y=>(by rw [y,ob1] at hR; cases hR),λ y=>(by rw [y,td] at hR; cases hR),λ y=>(by rw [y,rl] at hR; cases hR)⟩
 refine lc_walk (walk_list (xs:=ts)) (λ i σ H'=>∃ r0 r1 ys,σ = [r0,r1,some (.ref p)] /\ Same H1 H' /\ H' R = some (.lst ys) /\ ys.length = i /\ ∀ (j : Nat) x,ys[j]? = some x -> RPair K (mn (off p tb rp H') R) (f :: L) f d l x n ((eldL f d l n).take (d - j)))
  ⟨none,none,[],rfl,same_new hR _,upd_same,rfl,λ j x h=>nomatch h⟩ (λ i σ H' _ ⟨_,_,_,_,g,_⟩=>.inl (.inl (g _ _ e1))) ?_ ?_
 ·rintro i x _ H2 hx ⟨r0,r1,ys,rfl,g,eR,hy,hP⟩
  have hi:=(List.getElem?_eq_some_iff.mp hx).1
  obtain ⟨ch,e,rfl,h1,h2⟩:=hTD i x hx
  have sub : Same (mn (off p tb rp H1) D) H2:=((mn_same _ _).trans (off_sub _ _ _ _)).trans g
  refine ⟨ch,_,rfl,same_tup sub h1,rfl,_,_,rfl,_,_,rfl,rfl,?_⟩
  simp only [tTrue,if_true]
  generalize hkn : (eldL f d l n).take (d - i) = kn at h1 h2
  have hkl : kn.length <= d:=by rw [← hkn,List.length_take]; omega
  refine ⟨_,rfl,_,rfl,p,_,dx,_,_,rfl,g _ _ ob1,T.cl_Growth,T.na_Growth_table,gf_table _ _ _ _,tb,rfl,.inl ⟨kvs,.inl (g _ _ td)⟩,_,rfl,valV kvs (key kn),DGet.k (k:=key kn) (g _ _ td),?_⟩
  refine ⟨by rw [sizeLine_eq]; show 2 <= _; decide,λ u hu=>?_⟩
  have s3:=same_new hu (.tup [vt kn,(valV kvs (key kn)).getD .non])
  have e3 : upd H2 u (.tup [vt kn,(valV kvs (key kn)).getD .non]) u = some (.tup [vt kn,(valV kvs (key kn)).getD .non]):=upd_same
  try dsimp (config:={ proj:=false,eta:=false,zeta:=false,iota:=false }) only [tNil,tC]
  generalize upd H2 u (.tup [vt kn,(valV kvs (key kn)).getD .non]) = H3 at s3 e3 ⊢
  have g3:=g.trans s3
  have T3:=T1.same g3
  have oR : off p tb rp H3 R = some (.lst ys):=off_at (s3 _ _ eR) nR.1 nR.2.1 nR.2.2
  have rp3 : RPair K (mn (off p tb rp H3) R) (f :: L) f d l (.ref u) n kn:=by
   refine ⟨u,_,rfl,SqT.minus oR (T3.tup (.inl (.inl e3))),?_⟩
   cases z : valV kvs (key kn) with
   | none=>exact .inl ⟨rfl,gt.non kn z hkl⟩
   | some v=>exact .inr ⟨(gt.som kn v z hkl).1,(gt.som kn v z hkl).2.same (off_mn g3 hR)⟩
  have up : Same (mn (off p tb rp H3) R) (mn (off p tb rp (upd H3 R (.lst (ys ++ [.ref u])))) R):=mn_up λ b o hb e=>off_up hb e
  refine ⟨ys,s3 _ _ eR,by rw [sizeLine_eq]; omega,_,_,ys ++ [.ref u],rfl,over_same hR g3,upd_same,by rw [List.length_append,hy]; rfl,λ j x hj=>?_⟩
  by_cases y : j < ys.length
  ·rw [List.getElem?_append_left y] at hj
   exact ((hP j x hj).same (mn_up λ b o _ e=>off_same s3 b o e)).same up
  ·rw [List.getElem?_append_right (by omega)] at hj
   have : j - ys.length = 0:=by
    have:=(List.getElem?_eq_some_iff.mp hj).1
    simp at this; omega
   rw [this] at hj
   cases hj
   have ej : j = i:=by omega
   rw [ej,hkn]
   exact rp3.same up
 rintro _ H2 ⟨r0,r1,ys,rfl,g,eR,hy,hP⟩
 try dsimp (config:={ proj:=false,eta:=false,zeta:=false,iota:=false }) only [tNil,tC]
 refine appL (g _ _ rl) (by rw [sizeLine_eq]; omega) ?_
 have RLn : RL K (off p tb rp H2) (f :: L) f d l (.ref R) n:=⟨R,ys,rfl,.inl (.inl (off_at eR nR.1 nR.2.1 nR.2.2)),by omega,λ i x hx=>(hP i x hx).same (mn_same _ _)⟩
 have sF : Same (mn (off p tb rp H1) D) (off p tb rp H2):=(mn_same _ _).trans (off_same g)
 have hoff : ∀ H',(∀ b,b ≠ tb -> H' b = upd H2 rp (.lst (rs ++ [.ref R])) b) -> off p tb rp H' = off p tb rp H2:=λ H' h=>off_eq λ b h1 h2 h3=>(h b h2).trans (upd_ne h3)
 have gt0:=gt.same (off_same (p:=p) (t:=tb) (r:=rp) g)
 have fa2:=same_tup (off_same (p:=p) (t:=tb) (r:=rp) g) G1.fa
 have rh2 : ∀ (j : Nat) v,rs[j]? = some v -> RL K (off p tb rp H2) (f :: L) f d l v j:=λ j v hj=>(rh j v hj).same (off_same g)
 have ob2:=g _ _ ob1
 have td2:=g _ _ td
 have rl2:=g _ _ rl
 have eD2:=g _ _ e1
 refine ⟨_,rfl,D,rfl,⟨_,.inl (.inl ((upd_ne nD.2.2).trans eD2))⟩,?_⟩
 refine for_walk (walk_list (xs:=ts)) (λ i σ H'=>∃ r3 r4 kvs',σ = [some (.ref p),some (vt [c]),some (.ref D),r3,r4] /\ (∀ b,b ≠ tb -> H' b = upd H2 rp (.lst (rs ++ [.ref R])) b) /\ H' tb = some (.dK kvs') /\ kvs'.length <= B + i /\
  GT K (off p tb rp H2) (f :: L) f d l kvs' (λ k=>if falls f d l k n = true /\ d < k.length + i then n + 1 else n)) ⟨_,_,kvs,rfl,λ _ _=>rfl,(upd_ne ntr).trans td2,kl,gt0.congr λ k hk=>if_neg (by omega)⟩ (λ i σ H' _ ⟨_,_,_,_,h,_⟩=>.inl (.inl ((h D nD.2.1).trans ((upd_ne nD.2.2).trans eD2)))) ?_ ?_
 ·rintro i x _ H3 hx ⟨r3,r4,kvs',rfl,h3,t3,k3,gt3⟩
  have hi:=(List.getElem?_eq_some_iff.mp hx).1
  have hTx:=(hTD i x hx).same sF
  have hkp : (eldL f d l n).take (d - i) <+: eldL f d l n:=List.take_prefix _ _
  have hkl : ((eldL f d l n).take (d - i)).length = d - i:=by rw [List.length_take]; omega
  generalize (eldL f d l n).take (d - i) = kn at hTx hkp hkl
  obtain ⟨ch,e,rfl,h1,h2⟩:=hTx
  have s3 : Same (off p tb rp H2) H3:=(hoff H3 h3) ▸ off_sub p tb rp H3
  have ob3 : H3 p = _:=(h3 p npt).trans ((upd_ne npr).trans ob2)
  refine ⟨ch,_,rfl,same_tup s3 h1,rfl,_,_,rfl,_,_,rfl,rfl,?_⟩
  refine ⟨_,rfl,_,rfl,p,_,dx,_,_,rfl,ob3,T.cl_Growth,T.na_Growth_table,gf_table _ _ _ _,_,rfl,tb,_,rfl,DPut.k (k:=key kn) t3 (by rw [sizeLine_eq]; omega),?_⟩
  refine ⟨_,_,putK kvs' (key kn) e,rfl,λ b hb=>by rw [upd_ne hb]; exact h3 b hb,upd_same,by have:=putK_len kvs' (key kn) e; omega,?_⟩
  have hfk:=falls_iff.mpr hkp
  have hmk : (if falls f d l kn n = true /\ d < kn.length + (i + 1) then n + 1 else n) = n + 1:=if_pos ⟨hfk,by omega⟩
  refine gt3.put (m':=λ k=>if falls f d l k n = true /\ d < k.length + (i + 1) then n + 1 else n) (kn:=kn) ?_ ?_ ?_ (by omega)
  ·show seen f d l kn (if falls f d l kn n = true /\ d < kn.length + (i + 1) then n + 1 else n) = true
   rw [hmk]; exact seen_yes hfk
  ·show EAt K _ e (f :: L) f d l (if falls f d l kn n = true /\ d < kn.length + (i + 1) then n + 1 else n) kn
   rw [hmk]; exact h2
  ·intro k hk
   show (if _ then n + 1 else n) = (if _ then n + 1 else n)
   by_cases y : falls f d l k n = true /\ d < k.length + i
   ·rw [if_pos y,if_pos ⟨y.1,by omega⟩]
   ·rw [if_neg y]
    refine if_neg λ ⟨a,b⟩=>?_
    by_cases y2 : d < k.length + i
    ·exact y ⟨a,y2⟩
    ·exact hk (pre_len (falls_iff.mp a) hkp (by omega))
 ·rintro _ H3 ⟨r3,r4,kvs',rfl,h3,t3,k3,gt3⟩
  have ob3 : H3 p = _:=(h3 p npt).trans ((upd_ne npr).trans ob2)
  have ht : (l.take n).length = n:=by rw [List.length_take]; omega
  have h4:=hoff H3 h3
  refine ⟨_,rfl,p,_,dx,_,_,rfl,ob3,T.cl_Growth,T.na_Growth_text,gf_text _ _ _ _,_,rfl,.inr (catX (by rw [sizeLine_eq,ht]; show _ + 1 <= _; omega) ?_)⟩
  refine ⟨dx,_,ob3,by show 4 < 1000; decide,?_⟩
  rw [gf_put,show l.take n ++ [c] = l.take (n + 1) by rw [List.take_add_one,hc]; rfl]
  have h5 : off p tb rp (upd H3 p (.ins t.c_Growth dx (gflds fr (vt (l.take (n + 1))) tb rp))) = off p tb rp H2:=(off_put (.inl rfl)).trans h4
  refine q _ ⟨⟨dx,upd_same⟩,⟨kvs',(upd_ne npt.symm).trans t3,?_,?_⟩,⟨rs ++ [.ref R],(upd_ne npr.symm).trans ((h3 rp ntr.symm).trans upd_same),by rw [List.length_append,rn]; rfl,λ j v hj=>?_⟩,?_⟩ λ b o hb h1 h2 h3'=>?_
  ·rw [hts] at k3; exact k3
  ·rw [h5]
   refine gt3.next (n:=n) (λ k hk hp=>if_pos ⟨falls_iff.mpr hp,by omega⟩) (λ k hp=>if_neg λ ⟨a,_⟩=>hp (falls_iff.mp a))
  ·rw [h5]
   by_cases y : j < rs.length
   ·rw [List.getElem?_append_left y] at hj
    exact rh2 j v hj
   ·rw [List.getElem?_append_right (by omega)] at hj
    have : j - rs.length = 0:=by
     have:=(List.getElem?_eq_some_iff.mp hj).1
     simp at this; omega
    rw [this] at hj
    cases hj
    have ej : j = n:=by omega
    rw [ej]; exact RLn
  ·rw [h5]; exact fa2
  ·rw [upd_ne h1,h3 b h2,upd_ne h3']
   exact g _ _ (s1 _ _ hb)
def spGWeight (K : PySem.W.Frag) (C : Addr) : Sp:=λ vs H Q _=>∃ (p tb rp fr : Addr) (f : Nat) (L : List Nat) (d : Nat) (l : List Nat) (n B : Nat),vs = [.ref p] /\ GO K C p tb rp fr H f L d l n B /\ (f :: L).length <= 100 /\ ∀ z H',Same H H' -> FrV K H' z (wv (f :: L) f d l n d []).1 (wv (f :: L) f d l n d []).2 -> Q z H'
theorem ok_Qd (T : Txt K mg t) : FnOk P w K mg base (CX1 P w) 3 t.a_Qd t.fd_Qd ["self"] (spGWeight K t.c_Growth):=by
 refine T.F_Qd.okn (k:=2) sc_Qd (λ vs H Q E h=>?_) (λ cdv A outer s H vs Q E hr h=>?_)
 ·obtain ⟨p,tb,rp,fr,f,L,d,l,n,B,rfl,_⟩:=h; rfl
 obtain ⟨p,tb,rp,fr,f,L,d,l,n,B,rfl,G,hL,q⟩:=h
 have G_Qe:=@ok_Qe P w K mg base t T
 obtain ⟨dx,ob⟩:=G.ob
 refine ⟨_,(pss_one (ps_ret (pe_ix ixAny (pe_meth (pv 0) T.cl_Growth T.me_Qe G_Qe hr T.b_Qe .nil pass1 (pa_cons pe_str pa_nil)) (pe_glob (v:=.int 2) rfl T.m_WEIGHT ⟨_,rfl⟩) (λ _ _=>rfl)))),?_⟩
 refine ⟨_,rfl,p,dx,_,rfl,ob,(gf_no _ _ _ _).1,p,tb,rp,fr,f,L,d,l,n,B,[],by rw [str_nil0]; rfl,G,hL,Nat.zero_le _,λ z H1 s1 hz=>?_⟩
 obtain ⟨e,q0,xw,yw,rfl,h1,h2,h3,h4⟩:=hz.same (off_sub _ _ _ _)
 exact ixT h1 rfl (q yw H1 s1 h4)
theorem same_off {p t r : Addr} {H H' : Hp} (s : Same H H') (h1 : H p = none) (h2 : H t = none) (h3 : H r = none) : Same H (off p t r H'):=λ b o e =>
 off_at (s b o e) (λ z=>by rw [z,h1] at e; cases e) (λ z=>by rw [z,h2] at e; cases e) (λ z=>by rw [z,h3] at e; cases e)
theorem GT.empty {F : Hp} {L : List Nat} {f d : Nat} {l : List Nat} : GT K F L f d l [] (λ _=>0):=⟨λ _ _ _=>rfl,λ _ _ h=>(nomatch h),KeysOk.nil,λ _ h=>nomatch h⟩
def spGrown (K : PySem.W.Frag) (C : Addr) : Sp:=λ vs H Q _=>∃ (fr : Addr) (f : Nat) (L : List Nat) (d : Nat) (l : List Nat),vs = [.ref fr,vt l] /\ SqT K H fr [vt (f :: L),.int d] /\ Sm (f :: L) f d l /\ ∀ p tb rp H',Same H H' -> H p = none -> H tb = none -> H rp = none -> GO K C p tb rp fr H' f L d l l.length (l.length * (d + 1)) -> Q (.ref p) H'
theorem ok_Qbk (T : Txt K mg t) : FnOk P w K mg base (CX1 P w) 8 t.a_Qbk t.fd_Qbk ["frame", "text"] (spGrown K t.c_Growth):=by
 refine T.F_Qbk.okn (k:=7) sc_Qbk (λ vs H Q E h=>?_) (λ cdv A outer s H vs Q E hr h=>?_)
 ·obtain ⟨fr,f,L,d,l,rfl,_⟩:=h; rfl
 obtain ⟨fr,f,L,d,l,rfl,hf,S,q⟩:=h
 have G_Qh:=(@ok_Qh P w K mg base t T).mono (show 1 <= 6 by decide)
 have G_Qi:=@ok_Qi P w K mg base t T
 refine ⟨_,(pss_cons (ps_set (i:=2) sc_Qbk.nd rfl (Or.inl rfl) (pe_make T.mk_Growth G_Qh hr rfl T.m_Growth T.b_Qh .nil pass1 (pa_cons (pv 0) pa_nil)))
  (pss_cons (ps_for PassesOwn.never rfl (piAny (pv 1)) (pg_name (i:=3) sc_Qbk.nd rfl (Or.inl rfl)) (pss_one (ps_expr (pe_meth (pv 2) T.cl_Growth T.me_Qi G_Qi hr T.b_Qi .nil pass1 (pa_cons (pv 3) pa_nil)))))
  (pss_one (ps_ret (pv 2))))),?_⟩
 refine ⟨_,rfl,λ p dx np ndx nex=>?_⟩
 have s0 : Same H (upd (upd H dx (.own p)) p (.ins t.c_Growth dx [])):=λ b o e=>by
  rw [upd_ne (ne_of_none e np),upd_ne (ne_of_none e ndx)]
  exact e
 refine ⟨p,fr,dx,rfl,upd_same,λ tb rp H1 htb hrp hne e1 e2 e3 k1=>⟨rfl,?_⟩⟩
 have s1 : Same H H1:=λ b o e=>k1 b o (s0 b o e) (ne_of_none e np)
 have ntb:=s0.free htb
 have nrp:=s0.free hrp
 have G0 : GO K t.c_Growth p tb rp fr H1 f L d l 0 (0 * (d + 1)):=⟨⟨dx,e1⟩,⟨[],e2,Nat.zero_le _,GT.empty⟩,⟨[],e3,rfl,λ j v h=>nomatch h⟩,same_tup (same_off s1 np ntb nrp) hf⟩
 refine ⟨_,rfl,.inr (.inr ⟨_,rfl,?_⟩)⟩
 refine for_walk (walk_tx l) (λ i σ H'=>∃ r3,σ = [some (.ref fr),some (vt l),some (.ref p),r3] /\ Same H H' /\ GO K t.c_Growth p tb rp fr H' f L d l i (i * (d + 1))) ⟨_,rfl,s1,G0⟩ (λ _ _ _ _ _=>trivial) ?_ ?_
 ·rintro i x _ H2 hx ⟨r3,rfl,s2,G2⟩
  obtain ⟨c,hc,rfl⟩:=sign_at hx
  obtain ⟨dy,ob⟩:=G2.ob
  refine ⟨_,rfl,p,dy,_,rfl,ob,(gf_no _ _ _ _).2.2.2.2.1,_,rfl,p,tb,rp,fr,f,L,d,l,i,_,c,rfl,G2,S,hc,by have:=(List.getElem?_eq_some_iff.mp hc).1; have h1:=S.ll; have h2:=S.d6; exact Nat.le_trans (Nat.mul_le_mul (show i <= 200 by omega) (show d + 1 <= 7 by omega)) (by decide),λ H3 G3 k3=>?_⟩
  rw [show i * (d + 1) + (d + 1) = (i + 1) * (d + 1) by rw [Nat.add_mul,Nat.one_mul]] at G3
  exact ⟨_,rfl,λ b o e=>k3 b o (s2 b o e) (ne_of_none e np) (ne_of_none e ntb) (ne_of_none e nrp),G3⟩
 ·rintro _ H2 ⟨r3,rfl,s2,G2⟩
  rw [List.length_map] at G2
  exact ⟨_,rfl,q p tb rp H2 s2 np ntb nrp G2⟩
def spWeight (K : PySem.W.Frag) (C : Addr) : Sp:=λ vs H Q E=>∃ (p : Addr) (f : Nat) (L l : List Nat) (d : Nat),vs = [.ref p,vt l] /\ SqT K H p [vt (f :: L),.int d] /\ (f :: L).length <= 6 /\ d <= 6 /\ l.length <= 200 /\ (∀ c ∈ l,c < 16 ^ 8) /\
 ((∃ c ∈ l,c ∉ f :: L) -> E (.ref C) none H) /\ ((∀ c ∈ l,c ∈ f :: L) -> Sm (f :: L) f d l /\ ∀ H' z,Same H H' -> FrV K H' z (wv (f :: L) f d l l.length d []).1 (wv (f :: L) f d l l.length d []).2 -> Q z H')
theorem ok_Qbe (T : Txt K mg t) : FnOk P w K mg base (CX1 P w) 9 t.a_Qbe t.fd_Qbe ["frame", "text"] (spWeight K t.c_NoText):=by
 refine T.F_Qbe.okx (k:=8) sc_Qbe (λ vs H Q E h=>?_) (λ cdv A outer s H vs Q E hr h=>?_)
 ·obtain ⟨p,f,L,l,d,rfl,_⟩:=h; rfl
 obtain ⟨p,f,L,l,d,rfl,hp,hL6,hd,hll,h16,q1,q2⟩:=h
 have G_Qx:=(@ok_Qx P w K mg base t T).mono (show 1 <= 8 by decide)
 have G_Qbk:=@ok_Qbk P w K mg base t T
 have G_Qd:=(@ok_Qd P w K mg base t T).mono (show 3 <= 8 by decide)
 refine ⟨_,(pss_one (ps_ret (pe_meth0 (pe_call G_Qbk hr rfl T.m_Qbk T.F_Qbk.kp T.b_Qbk .nil pass1 (PAs.h (pas_cons (pv 0) (pas_cons (pe_call G_Qx hr rfl T.m_Qx T.F_Qx.kp T.b_Qx .nil passes1 (PAs.h (pas_cons (pv 0) (pas_cons (pv 1) pas_nil)))) pas_nil)))) T.cl_Growth T.me_Qd G_Qd hr T.b_Qd .nil pass1))),?_⟩
 refine ⟨_,rfl,_,rfl,_,rfl,p,f :: L,_,l,rfl,hp,h16,λ hall=>?_,λ hbad=>q1 hbad⟩
 obtain ⟨S,q⟩:=q2 hall
 refine ⟨p,f,L,d,l,rfl,hp,S,λ g tb rp H1 s1 _ _ _ G=>?_⟩
 obtain ⟨dx,ob⟩:=G.ob
 exact ⟨g,dx,_,rfl,ob,(gf_no _ _ _ _).2.2.2.1,g,tb,rp,p,f,L,d,l,l.length,_,rfl,G,by omega,λ z H2 s2 hz=>q H2 z (s1.trans s2) hz⟩
def spLFr (K : PySem.W.Frag) : Sp:=λ vs H Q _=>∃ x A B,vs = [x,.int A,.int B] /\ FrV K H x A B /\ A < 2 ^ 8990 /\ B < 2 ^ 8990 /\ Q (.bl true) H
theorem ok_Qj (T : Txt K mg t) : FnOk P w K mg base (CX1 P w) 2 t.a_Qj t.fd_Qj ["found", "top", "bottom"] (spLFr K):=by
 refine T.F_Qj.okn (k:=1) sc_Qj (λ vs H Q E h=>?_) (λ cdv A outer s H vs Q E hr h=>?_)
 ·obtain ⟨x,a,b,rfl,_⟩:=h; rfl
 obtain ⟨_,a,b,rfl,⟨p,n,d,rfl,hq,n0,d0,cr,gc,l1,l2⟩,ba,bb,q⟩:=h
 have G_Qbb:=@ok_Qbb P w K mg base t T
 have G_Qo:=@ok_Qo P w K mg base t T
 have an:=abs_lt n0 l1 ba
 have ad:=abs_lt d0 l2 bb
 have aa:=abs_lt (show 0 < a by omega) (Int.le_refl a) ba
 have ab:=abs_lt (show 0 < b by omega) (Int.le_refl b) bb
 refine ⟨_,(pss_cons (ps_if (PW.pt (pw_or (pt_not (pt_val (pe_callB isiAnyT rfl T.m_isinstance bt_isinstance (PAs.h (pas_cons (pv 0) (pas_cons (pe_bltn (v:=.ty "tuple") rfl T.m_tuple bt_tuple rfl) pas_nil)))))) (pw_or (pt_cmpR (oNeN (hr.units0)) (pe_callB call_len rfl T.m_len bt_len (pa_cons (pv 0) pa_nil)) pe_int (nomark _)) (pw_or (pt_not (pt_val (pe_call G_Qbb hr rfl T.m_Qbb T.F_Qbb.kp T.b_Qbb .nil pass1 (pa_cons (pe_ix ixAny (pv 0) pe_int (λ _ _=>rfl)) pa_nil)))) (pw_or1 (pt_not (pt_val (pe_call G_Qbb hr rfl T.m_Qbb T.F_Qbb.kp T.b_Qbb .nil pass1 (pa_cons (pe_ix ixAny (pv 0) pe_int (λ _ _=>rfl)) pa_nil))))))))) (pss_one (ps_ret pe_bl)) pss_nil)
  (pss_cons (ps_if (PW.pt (pw_or (pt_cmpR oLt (pe_ix ixAny (pv 0) pe_int (λ _ _=>rfl)) pe_int (nomark _)) (pw_or (pt_cmpR oLt (pe_ix ixAny (pv 0) pe_int (λ _ _=>rfl)) pe_int (nomark _)) (pw_or1 (pt_cmpR (oNeN (hr.units0)) (pe_op oMulN (pe_ix ixAny (pv 0) pe_int (λ _ _=>rfl)) (pv 2)) (pe_op oMulN (pv 1) (pe_ix ixAny (pv 0) pe_int (λ _ _=>rfl))) (nomark _)))))) (pss_one (ps_ret pe_bl)) pss_nil)
  (pss_one (ps_ret (pe_cmpR (oEqA (hr.units0)) (pe_call G_Qo hr rfl T.m_Qo T.F_Qo.kp T.b_Qo .nil pass1 (PAs.h (pas_cons (pe_ix ixAny (pv 0) pe_int (λ _ _=>rfl)) (pas_cons (pe_ix ixAny (pv 0) pe_int (λ _ _=>rfl)) pas_nil)))) pe_int (nomark _)))))),?_⟩
 refine ⟨_,rfl,.inr ⟨p,_,rfl,hq,true,rfl,iteF ?_⟩⟩
 refine ⟨_,rfl,_,_,rfl,.inr ⟨_,hq,rfl⟩,.inl ⟨rfl,_,rfl,ifnF rfl ?_⟩⟩
 refine ⟨_,rfl,ixT hq rfl ⟨_,_,true,false,rfl,.int _,kit_same K _,kit_int_bool K,true,rfl,iteF ?_⟩⟩
 refine ⟨_,rfl,ixT hq rfl ⟨_,_,true,false,rfl,.int _,kit_same K _,kit_int_bool K,true,rfl,iteF ?_⟩⟩
 refine ⟨_,rfl,ixT hq rfl (.inl ⟨_,_,rfl,rfl,_,rfl,ifF (by omega) ?_⟩)⟩
 refine ⟨_,rfl,ixT hq rfl (.inl ⟨_,_,rfl,rfl,_,rfl,ifF (by omega) ?_⟩)⟩
 refine ⟨_,rfl,ixT hq rfl ⟨_,rfl,.inl ⟨_,_,rfl,rfl,mulB (pow_lt an (by decide)) (pow_lt ab (by decide)),_,rfl,_,rfl,ixT hq rfl (.inl ⟨_,_,rfl,rfl,mulB (pow_lt aa (by decide)) (pow_lt ad (by decide)),.inl ⟨rfl,_,rfl,ifnF (congrArg V.int cr) ?_⟩⟩)⟩⟩⟩
 refine ⟨_,rfl,ixT hq rfl ⟨_,rfl,ixT hq rfl ⟨n,d,rfl,d0,.inl ⟨rfl,?_⟩⟩⟩⟩
 rw [decide_eq_true (congrArg V.int gc)]
 exact q
def spLEld (K : PySem.W.Frag) : Sp:=λ vs H Q _=>∃ (p : Addr) (f : Nat) (L l : List Nat) (d a : Nat),vs = [.ref p,vt l,.int a] /\ SqT K H p [vt (f :: L),.int d] /\ (f :: L).length <= 6 /\ d <= 6 /\ l.length <= 1000 /\ a <= l.length /\ Q (vt (eldL f d l a)) H
theorem ok_Qu (T : Txt K mg t) : FnOk P w K mg base (CX1 P w) 1 t.a_Qu t.fd_Qu ["frame", "text", "at"] (spLEld K):=by
 refine T.F_Qu.okn (k:=0) sc_Qu (λ vs H Q E h=>?_) (λ cdv A outer s H vs Q E hr h=>?_)
 ·obtain ⟨p,f,L,l,d,a,rfl,_⟩:=h; rfl
 obtain ⟨p,f,L,l,d,a,rfl,hf,hL6,hd,hll,ha,q⟩:=h
 have zL : (f :: L).length <= sizeLine:=by rw [sizeLine_eq]; omega
 have zl : l.length <= sizeLine:=by rw [sizeLine_eq]; omega
 refine ⟨_,(pss_cons (ps_set (i:=3) sc_Qu.nd rfl (Or.inl rfl) pe_str)
  (pss_cons (ps_for PassesOwn.never rfl (pi_range1 rfl T.m_range (pa_cons (pe_ix ixAny (pv 0) pe_int (λ _ _=>rfl)) pa_nil)) (pg_name (i:=4) sc_Qu.nd rfl (Or.inl rfl)) (pss_one (ps_if (pt_cmpR op_gt (pv 2) (pv 4) (nomark _)) (pss_one (ps_set (i:=3) sc_Qu.nd rfl (Or.inl rfl) (pe_op oAddN (pv 3) (pe_ix ixAny (pv 1) (pe_op op_sub (pe_op op_sub (pv 2) pe_int) (pv 4)) (λ _ _=>rfl))))) (pss_one (ps_set (i:=3) sc_Qu.nd rfl (Or.inl rfl) (pe_op oAddN (pv 3) (pe_ix ixAny (pe_ix ixAny (pv 0) pe_int (λ _ _=>rfl)) pe_int (λ _ _=>rfl))))))))
  (pss_one (ps_ret (pv 3))))),?_⟩
 show gName 3 (V.str (Str.ofString "")) _ _ _
 rw [str_nil0]
 refine ⟨_,rfl,ixT hf rfl ⟨_,rfl,by omega,by omega,?_⟩⟩
 refine for_range (λ i σ H'=>∃ r4,σ = [some (.ref p),some (vt l),some (.int a),some (vt ((eldL f d l a).take i)),r4] /\ H' = H) ⟨none,by rw [List.take_zero]; rfl,rfl⟩ ?_ ?_
 ·rintro i _ _ hi ⟨r4,rfl,rfl⟩
  have hid : i < d:=by omega
  have he:=eldL_at f d l a hid
  have hnx : (eldL f d l a).take (i + 1) = (eldL f d l a).take i ++ [if i < a then l.getD (a - 1 - i) 0 else f]:=by rw [List.take_add_one,he]; rfl
  have hzr : ((eldL f d l a).take i).length <= 6:=by rw [List.length_take]; omega
  refine ⟨_,rfl,_,rfl,_,_,rfl,rfl,_,rfl,if2 (λ z=>?_) (λ z=>?_)⟩
  ·have z' : i < a:=by have : (0 + (i : Int)) < ((a : Nat) : Int):=z; omega
   have hj : a - 1 - i < l.length:=by omega
   refine ⟨_,rfl,_,rfl,_,rfl,_,_,rfl,rfl,_,rfl,_,_,rfl,rfl,?_⟩
   try dsimp (config:={ proj:=false,eta:=false,zeta:=false,iota:=false }) only [tNil,tC]
   rw [show (a : Int) - 1 - (0 + (i : Int)) = ((a - 1 - i : Nat) : Int) by omega]
   refine ixS zl (atI_nat (List.getElem?_eq_getElem hj)) (.inr (.inl (catX (by rw [sizeLine_eq]; show _ + 1 <= _; omega) ?_)))
   refine ⟨some (.int (0 + (i : Int))),?_,rfl⟩
   rw [hnx,if_pos z',List.getD_eq_getElem?_getD,List.getElem?_eq_getElem hj]; rfl
  ·have z' : ¬ i < a:=by have : ¬ (0 + (i : Int)) < ((a : Nat) : Int):=z; omega
   refine ⟨_,rfl,_,rfl,ixT hf rfl (ixS zL (atI_nat (j:=0) rfl) (.inr (.inl (catX (by rw [sizeLine_eq]; show _ + 1 <= _; omega) ?_))))⟩
   refine ⟨some (.int (0 + (i : Int))),?_,rfl⟩
   rw [hnx,if_neg z']; rfl
 ·rintro _ _ ⟨r4,rfl,rfl⟩
  refine ⟨_,rfl,?_⟩
  rw [show ((d : Int)).toNat = d by omega,List.take_of_length_le (by rw [eldL_len]; exact Nat.le_refl _)]
  exact q
theorem unseen_len {f d : Nat} {l k : List Nat} {n : Nat} (h : seen f d l k n = false) : sg f d l k n = []:=by
 unfold sg
 rw [List.map_eq_nil_iff,List.filter_eq_nil_iff]
 intro j hj
 have:=List.any_eq_false.mp h j hj
 exact this
def VK1 (f d : Nat) (l : List Nat) (kvs : List (Key × V)) (k : List Nat) (n : Nat) : Prop:=(seen f d l k n = true -> valV kvs (key k) = some (vt (sg f d l k n))) /\ (seen f d l k n = false -> valV kvs (key k) = none)
theorem VK1.no {f d : Nat} {l : List Nat} {kvs : List (Key × V)} {k : List Nat} {n : Nat} (h : VK1 f d l kvs k n) (z : falls f d l k n = false) : VK1 f d l kvs k (n + 1):=by
 unfold VK1
 rw [seen_no z,sg_no z]; exact h
theorem VK1.get {f d : Nat} {l : List Nat} {kvs : List (Key × V)} {k : List Nat} {n : Nat} (h : VK1 f d l kvs k n) : (valV kvs (key k)).getD (V.str (Str.ofString "")) = vt (sg f d l k n):=by
 cases z : seen f d l k n with
 | true=>rw [h.1 z]; rfl
 | false=>rw [h.2 z,unseen_len z]; exact str_nil0
def spCame (K : PySem.W.Frag) : Sp:=λ vs H Q _=>∃ (p : Addr) (f : Nat) (L l : List Nat) (d : Nat),vs = [.ref p,vt l] /\ SqT K H p [vt (f :: L),.int d] /\ (f :: L).length <= 6 /\ d <= 6 /\ l.length <= 110 /\
 ∀ tb H' kvs,Same H H' -> H tb = none -> H' tb = some (.dK kvs) -> KeysOk kvs -> kvs.length <= 1000 -> (∀ k,VK1 f d l kvs k l.length) -> Q (.ref tb) H'
theorem ok_Qbg (T : Txt K mg t) : FnOk P w K mg base (CX1 P w) 2 t.a_Qbg t.fd_Qbg ["frame", "text"] (spCame K):=by
 refine T.F_Qbg.okn (k:=1) sc_Qbg (λ vs H Q E h=>?_) (λ cdv A outer s H vs Q E hr h=>?_)
 ·obtain ⟨p,f,L,l,d,rfl,_⟩:=h; rfl
 obtain ⟨p,f,L,l,d,rfl,hp,hL6,hd,hll,q⟩:=h
 have G_Qu:=@ok_Qu P w K mg base t T
 have zl : l.length <= sizeLine:=by rw [sizeLine_eq]; omega
 refine ⟨_,(pss_cons (ps_set (i:=2) sc_Qbg.nd rfl (Or.inl rfl) pe_dnewK)
  (pss_cons (ps_for PassesOwn.never rfl (pi_range1 rfl T.m_range (pa_cons (pe_callB call_len rfl T.m_len bt_len (pa_cons (pv 1) pa_nil)) pa_nil)) (pg_name (i:=3) sc_Qbg.nd rfl (Or.inl rfl)) (pss_cons (ps_set (i:=4) sc_Qbg.nd rfl (Or.inl rfl) (pe_call G_Qu hr rfl T.m_Qu T.F_Qu.kp T.b_Qu .nil pass1 (PAs.h (pas_cons (pv 0) (pas_cons (pv 1) (pas_cons (pv 3) pas_nil))))))
  (pss_one (ps_for PassesOwn.never rfl (pi_range1 rfl T.m_range (pa_cons (pe_op oAddN (pe_ix ixAny (pv 0) pe_int (λ _ _=>rfl)) pe_int) pa_nil)) (pg_name (i:=5) sc_Qbg.nd rfl (Or.inl rfl)) (pss_one (ps_dput (hu_of hr) (pv 2) (pe_slice slAny (pv 4) po_none (po_some (pv 5))) (pe_op oAddN (pe_dget2 (hu_of hr) (pv 2) (pe_slice slAny (pv 4) po_none (po_some (pv 5))) pe_str ⟨rfl,rfl,rfl,rfl⟩) (pe_ix ixAny (pv 1) (pv 3) (λ _ _=>rfl))) rfl))))))
  (pss_one (ps_ret (pv 2))))),?_⟩
 refine λ tb htb=>?_
 refine ⟨_,rfl,_,_,rfl,lenvS zl,_,rfl,by omega,by omega,?_⟩
 refine for_range (λ i σ H'=>∃ kvs r3 r4 r5,σ = [some (.ref p),some (vt l),some (.ref tb),r3,r4,r5] /\ Same H H' /\ H' tb = some (.dK kvs) /\ KeysOk kvs /\ kvs.length <= i * (d + 1) /\ ∀ k,VK1 f d l kvs k i) ⟨[],_,_,_,rfl,same_new htb _,upd_same,KeysOk.nil,Nat.zero_le _,λ k=>⟨λ z=>(nomatch z),λ _=>rfl⟩⟩ ?_ ?_
 ·rintro i _ H1 hi ⟨kvs,r3,r4,r5,rfl,g,e1,hks,hkl,hV⟩
  have hil : i < l.length:=by omega
  rw [Int.zero_add]
  refine ⟨_,rfl,_,rfl,_,rfl,p,f,L,l,d,i,rfl,same_tup g hp,hL6,hd,by omega,by omega,?_⟩
  have hlen:=eldL_len f d l i
  generalize hrow : eldL f d l i = row at hlen ⊢
  have zr : row.length <= sizeLine:=by rw [sizeLine_eq]; omega
  refine ⟨_,rfl,ixT (same_tup g hp) rfl (.inl ⟨_,_,rfl,rfl,_,rfl,by omega,by omega,?_⟩)⟩
  refine for_range (λ j σ H'=>∃ kvs r5,σ = [some (.ref p),some (vt l),some (.ref tb),some (.int i),some (vt row),r5] /\ Same H H' /\ H' tb = some (.dK kvs) /\ KeysOk kvs /\ kvs.length <= i * (d + 1) + j /\ ∀ k,VK1 f d l kvs k (if k.length < j then i + 1 else i)) ⟨kvs,_,rfl,g,e1,hks,by omega,λ k=>by rw [if_neg (by omega)]; exact hV k⟩ ?_ ?_
  ·rintro j _ H2 hj ⟨kvs,r5,rfl,g,e1,hks,hkl,hV⟩
   have hjd : j <= d:=by omega
   have hbig : i * (d + 1) <= 110 * 7:=Nat.mul_le_mul (by omega) (by omega)
   rw [Int.zero_add]
   have hk0l : (row.take j).length = j:=by rw [List.length_take]; omega
   have hV0:=hV (row.take j)
   rw [if_neg (by omega)] at hV0
   have hf0 : falls f d l (row.take j) i = true:=falls_iff.mpr (by rw [hrow]; exact List.take_prefix ..)
   have hc:=List.getElem?_eq_getElem hil
   have hsl:=sg_le f d l (row.take j) i
   refine ⟨_,rfl,tb,rfl,.inl ⟨kvs,.inl e1⟩,_,rfl,_,rfl,_,rfl,.inr (cutT zr ?_)⟩
   rw [cut_to]
   refine ⟨valV kvs (key (row.take j)),DGet.k (k:=key (row.take j)) e1,?_⟩
   rw [hV0.get]
   refine ⟨_,rfl,_,rfl,ixS zl (atI_nat hc) (.inr (.inl (catX (by rw [sizeLine_eq]; show _ + 1 <= _; omega) ?_)))⟩
   refine ⟨_,rfl,_,rfl,_,rfl,_,rfl,.inr (cutT zr ?_)⟩
   rw [cut_to]
   refine ⟨tb,_,rfl,.inl ⟨kvs,key (row.take j),e1,rfl,by rw [sizeLine_eq]; omega,rfl⟩,?_⟩
   have hsy : sg f d l (row.take j) i ++ [l[i]] = sg f d l (row.take j) (i + 1):=by
    rw [sg_yes hf0,List.getD_eq_getElem?_getD,hc]; rfl
   rw [hsy]
   refine ⟨putK kvs (key (row.take j)) _,_,rfl,over_same htb g,upd_same,hks.put _ _,?_,λ k=>?_⟩
   ·have:=length_putK kvs (key (row.take j)) (vt (sg f d l (row.take j) (i + 1))); omega
   ·by_cases ek : k = row.take j
    ·subst ek
     rw [if_pos (by omega)]
     exact ⟨λ _=>by rw [valV_put,if_pos rfl],λ z=>by rw [seen_yes hf0] at z; cases z⟩
    ·have hv : valV (putK kvs (key (row.take j)) (vt (sg f d l (row.take j) (i + 1)))) (key k) = valV kvs (key k):=by rw [valV_put,if_neg (λ z=>ek (key_inj z))]
     have hk:=hV k
     have up : VK1 f d l kvs k (if k.length < j + 1 then i + 1 else i):=by
      by_cases z1 : k.length < j
      ·rw [if_pos z1] at hk; rw [if_pos (by omega)]; exact hk
      ·rw [if_neg z1] at hk
       by_cases z2 : k.length < j + 1
       ·rw [if_pos z2]
        refine hk.no (falls_no λ hp=>ek ?_)
        rw [hrow] at hp
        have:=List.prefix_iff_eq_take.mp hp
        rw [this]; congr 1; omega
       ·rw [if_neg z2]; exact hk
     exact ⟨λ z=>by rw [hv]; exact up.1 z,λ z=>by rw [hv]; exact up.2 z⟩
  ·rintro _ H2 ⟨kvs,r5,rfl,g,e1,hks,hkl,hV⟩
   have e : ((d : Int) + 1).toNat = d + 1:=by omega
   rw [e] at hkl hV
   refine ⟨kvs,_,_,_,rfl,g,e1,hks,by rw [Nat.add_mul,Nat.one_mul]; exact hkl,λ k=>?_⟩
   have hk:=hV k
   by_cases z : k.length < d + 1
   ·rw [if_pos z] at hk; exact hk
   ·rw [if_neg z] at hk
    exact hk.no (falls_no λ hp=>z (by have:=hp.length_le; rw [hrow,hlen] at this; omega))
 ·rintro _ H1 ⟨kvs,r3,r4,r5,rfl,g,e1,hks,hkl,hV⟩
  rw [show ((l.length : Int)).toNat = l.length by omega] at hkl hV
  have hbig : l.length * (d + 1) <= 110 * 7:=Nat.mul_le_mul hll (by omega)
  exact ⟨_,rfl,q tb H1 kvs g htb e1 hks (by omega) hV⟩
def twN (S : List Nat) : Nat -> Int
 | 0=>1
 | i + 1=>twN S i * (2 * ((S.take i).count (S.getD i 0) : Int) + 1)
theorem twN_app (S : List Nat) (c : Nat) : ∀ i,i <= S.length -> twN (S ++ [c]) i = twN S i
 | 0,_=>rfl
 | i + 1,h=>by
   show twN (S ++ [c]) i * _ = twN S i * _
   rw [twN_app S c i (by omega),List.take_append_of_le_length (by omega),List.getD_eq_getElem?_getD,List.getD_eq_getElem?_getD,List.getElem?_append_left (by omega)]
theorem twN_snoc (S : List Nat) (c : Nat) : twN (S ++ [c]) (S ++ [c]).length = twN S S.length * (2 * (S.count c : Int) + 1):=by
 rw [List.length_append]
 show twN (S ++ [c]) S.length * _ = _
 rw [twN_app S c S.length (Nat.le_refl _),List.take_append_of_le_length (Nat.le_refl _),List.take_length,List.getD_eq_getElem?_getD]
 simp
theorem twN_sg {L : List Nat} (hL : L.Nodup) {f d : Nat} {l k : List Nat} (hl : ∀ c ∈ l,c ∈ L) : ∀ n,n <= l.length -> twN (sg f d l k n) (sg f d l k n).length = topW (cntL L f d l k n):=by
 intro n
 induction n with
 | zero =>
   intro _
   have e : cntL L f d l k 0 = List.replicate L.length 0:=cntL_zero rfl
   have ez : ∀ m,topW (List.replicate m 0) = 1:=λ m=>by
    induction m with
    | zero=>rfl
    | succ m ih=>show topW (List.replicate m 0) * oddP 0 = 1; rw [ih]; rfl
   rw [e,ez]; rfl
 | succ n ih =>
   intro hn
   have ih':=ih (by omega)
   cases z : falls f d l k n with
   | false=>rw [cntL_no z,sg_no z]; exact ih'
   | true =>
     have hln : l[n]? = some (l.getD n 0):=by rw [List.getD_eq_getElem?_getD,List.getElem?_eq_getElem (show n < l.length by omega)]; rfl
     obtain ⟨j,hj⟩:=List.getElem?_of_mem (hl _ (List.mem_of_getElem? hln))
     obtain ⟨v,hv,e⟩:=cntL_yes (d:=d) (kn:=k) (f:=f) hL z hj hln
     have hc:=sg_count (f:=f) (d:=d) (l:=l) (kn:=k) hj n (by omega)
     rw [hv] at hc
     have ev:=Option.some.inj hc
     rw [e,topW_set hv,sg_yes z,twN_snoc,ih',ev]
def spLWorth (K : PySem.W.Frag) : Sp:=λ vs H Q _=>∃ (S : List Nat) (M : Nat),vs = [vt S,.int M] /\ S.length <= 110 /\ M <= 20 /\ ∀ r,H r = none -> Q (.ref r) (upd H r (.tup [.int (twN S S.length),.int (botW M S.length)]))
theorem ok_Qbc (T : Txt K mg t) : FnOk P w K mg base (CX1 P w) 1 t.a_Qbc t.fd_Qbc ["came", "many"] (spLWorth K):=by
 refine T.F_Qbc.okn (k:=0) sc_Qbc (λ vs H Q E h=>?_) (λ cdv A outer s H vs Q E hr h=>?_)
 ·obtain ⟨S,M,rfl,_⟩:=h; rfl
 obtain ⟨S,M,rfl,hS,hM,q⟩:=h
 have zS : S.length <= sizeLine:=by rw [sizeLine_eq]; omega
 refine ⟨_,(pss_cons (ps_set (i:=2) sc_Qbc.nd rfl (Or.inl rfl) pe_int)
  (pss_cons (ps_set (i:=3) sc_Qbc.nd rfl (Or.inl rfl) pe_int)
  (pss_cons (ps_for PassesOwn.never rfl (pi_range1 rfl T.m_range (pa_cons (pe_callB call_len rfl T.m_len bt_len (pa_cons (pv 0) pa_nil)) pa_nil)) (pg_name (i:=4) sc_Qbc.nd rfl (Or.inl rfl)) (pss_cons (ps_set (i:=2) sc_Qbc.nd rfl (Or.inl rfl) (pe_op oMulN (pv 2) (pe_op oAddN (pe_op oMulN pe_int (pe_bm PySem.F.plainAttrs_str PySem.F.slot_str_count PySem.F.type_str_count mt_count (pe_slice slAny (pv 0) po_none (po_some (pv 4))) (pa_cons (pe_ix ixAny (pv 0) (pv 4) (λ _ _=>rfl)) pa_nil))) pe_int)))
  (pss_one (ps_set (i:=3) sc_Qbc.nd rfl (Or.inl rfl) (pe_op oMulN (pv 3) (pe_op oAddN (pe_op oMulN pe_int (pv 4)) (pv 1)))))))
  (pss_one (ps_ret (pe_tup (PAs.h (pas_cons (pv 2) (pas_cons (pv 3) pas_nil))))))))),?_⟩
 refine ⟨_,rfl,_,_,rfl,lenvS zS,_,rfl,by omega,by omega,?_⟩
 refine for_range (λ i σ H'=>∃ r4,σ = [some (vt S),some (.int M),some (.int (twN S i)),some (.int (botW M i)),r4] /\ H' = H) ⟨_,rfl,rfl⟩ ?_ ?_
 ·rintro i _ _ hi ⟨r4,rfl,rfl⟩
  have hil : i < S.length:=by omega
  have hc:=List.getElem?_eq_getElem hil
  have hcD : S.getD i 0 = S[i]:=by rw [List.getD_eq_getElem?_getD,hc]; rfl
  have hcn : (S.take i).count S[i] <= 110:=Nat.le_trans List.count_le_length (by rw [List.length_take]; omega)
  rw [Int.zero_add]
  refine ⟨_,rfl,_,rfl,_,rfl,_,rfl,.inr (cutT zS ?_)⟩
  rw [cut_to]
  refine ⟨rfl,_,rfl,_,rfl,ixS zS (atI_nat hc) ⟨S.take i,S[i],rfl,rfl,?_⟩⟩
  refine .inl ⟨_,_,rfl,rfl,mulL (by decide) (by decide),.inl ⟨_,_,rfl,rfl,.inl ⟨_,_,rfl,rfl,mulR (by omega) (by omega),?_⟩⟩⟩
  refine ⟨_,rfl,_,rfl,.inl ⟨_,_,rfl,rfl,mulL (by decide) (by decide),_,rfl,.inl ⟨_,_,rfl,rfl,.inl ⟨_,_,rfl,rfl,mulR (by omega) (by omega),?_⟩⟩⟩⟩
  refine ⟨some (.int i),?_,rfl⟩
  show _ = [some (vt S),some (.int M),some (.int (twN S i * (2 * ((S.take i).count (S.getD i 0) : Int) + 1))),some (.int (botW M i * (2 * (i : Int) + M))),some (.int i)]
  rw [hcD]; rfl
 ·rintro _ _ ⟨r4,rfl,rfl⟩
  rw [show ((S.length : Int)).toNat = S.length by omega]
  refine ⟨_,rfl,_,rfl,by rw [sizeLine_eq]; show 2 <= _; decide,λ r hr0=>q r hr0⟩
def lackV (L : List Nat) : V -> Bool
 | .str z=>!decide (z.cps.toList.headD 0 ∈ L)
 | _=>false
theorem lacked_ok {k : Nat} {L S : List Nat} (dr : Drawn k L S) (hk : k <= 50) : ∃ lk : List Nat,((signs.map λ c=>vt [c]).filter (lackV L)).map (λ v=>v) = lk.map (λ c=>vt [c]) /\ (∀ c ∈ lk,c ∉ L /\ c < 127) /\ 0 < lk.length /\ lk.length <= 94:=by
 refine ⟨signs.filter λ c=>!decide (c ∈ L),?_,λ c hc=>?_,?_,?_⟩
 ·rw [List.map_id',List.filter_map]; rfl
 ·obtain ⟨h1,h2⟩:=List.mem_filter.mp hc
  exact ⟨by simpa using h2,(signs_lt c h1).2.1⟩
 ·have hl:=dr.left
  have hS0 : 0 < S.length:=by omega
  have hm : S[0] ∈ signs:=dr.all.mem_iff.mp (List.mem_append_right _ (List.getElem_mem hS0))
  have hn : S[0] ∉ L:=λ z=>(List.nodup_append.mp (dr.all.nodup_iff.mpr signs_nodup)).2.2 _ z _ (List.getElem_mem hS0) rfl
  exact List.length_pos_of_mem (List.mem_filter.mpr ⟨hm,by simpa using hn⟩)
 ·exact Nat.le_trans (List.length_filter_le _ _) (by rw [signs_len]; exact Nat.le_refl _)
def spSpread (K : PySem.W.Frag) : Sp:=λ vs H Q _=>∃ (a : Addr) (ns : List Int) (n : Nat),vs = [.ref a,.int n] /\ SqL K H a (ns.map V.int) /\ 0 < ns.length /\ ns.length <= 100 /\ n <= 100 /\ ∀ H' p (ms : List Int),Same H H' -> H' p = some (.lst (ms.map V.int)) -> ms.length = n -> Q (.ref p) H'
theorem ok_Qw (T : Txt K mg t) : FnOk P w K mg base (CX1 P w) 1 t.a_Qw t.fd_Qw ["cells", "size"] (spSpread K):=by
 refine T.F_Qw.okn (k:=0) sc_Qw (λ vs H Q E h=>?_) (λ cdv A outer s H vs Q E hr h=>?_)
 ·obtain ⟨a,ns,n,rfl,_⟩:=h; rfl
 obtain ⟨a,ns,n,rfl,ha,hn0,hn1,hn,q⟩:=h
 refine ⟨_,(pss_cons (ps_set (i:=2) sc_Qw.nd rfl (Or.inl rfl) (pe_lst pa_nil))
  (pss_cons (ps_for PassesOwn.never rfl (pi_range1 rfl T.m_range (pa_cons (pv 1) pa_nil)) (pg_name (i:=3) sc_Qw.nd rfl (Or.inl rfl)) (pss_cons (ps_set (i:=4) sc_Qw.nd rfl (Or.inl rfl) (pe_op op_fdivL (pv 3) (pe_callB call_len rfl T.m_len bt_len (pa_cons (pv 0) pa_nil))))
  (pss_one (ps_expr (pe_bm PySem.F.plainAttrs_list PySem.F.slot_list_append PySem.F.type_list_append mt_app (pv 2) (pa_cons (pe_op oAddN (pe_op op_fdivL (pe_ix ixAny (pv 0) (pe_op op_mod (pv 3) (pe_callB call_len rfl T.m_len bt_len (pa_cons (pv 0) pa_nil))) (λ _ _=>rfl)) (pe_op oAddN pe_int (pe_op oMulN pe_int (pv 4)))) (pe_op oMulN pe_int (pv 4))) pa_nil))))))
  (pss_one (ps_ret (pv 2))))),?_⟩
 refine ⟨by rw [sizeLine_eq]; show 0 <= _; decide,λ p hp=>?_⟩
 refine ⟨_,rfl,_,rfl,by omega,by omega,?_⟩
 refine for_range (λ i σ H'=>∃ (ms : List Int) (r3 r4 : Option V),σ = [some (.ref a),some (.int n),some (.ref p),r3,r4] /\ Same H H' /\ H' p = some (.lst (ms.map V.int)) /\ ms.length = i) ⟨[],_,_,rfl,same_new hp _,upd_same,rfl⟩ ?_ ?_
 ·rintro i _ H' hi ⟨ms,r3,r4,rfl,g,e,hl⟩
  have ha':=same_lst g ha
  have hml : (0 : Int) < ((ns.map V.int).length : Nat):=by rw [List.length_map]; omega
  have hml2 : (((ns.map V.int).length : Nat) : Int) < 1000000000:=by rw [List.length_map]; omega
  refine ⟨_,rfl,_,rfl,_,_,rfl,.inl ⟨_,ha',rfl⟩,_,_,rfl,rfl,cdivK hml hml2,?_⟩
  have d1 : 0 <= (0 + (i : Int)).fdiv ((ns.map V.int).length : Nat):=by
   rw [Int.fdiv_eq_ediv_of_nonneg _ (by omega)]
   exact Int.ediv_nonneg (by omega) (by omega)
  have d2 : (0 + (i : Int)).fdiv ((ns.map V.int).length : Nat) <= 100:=by
   rw [Int.fdiv_eq_ediv_of_nonneg _ (by omega)]
   have:=Int.ediv_le_self (b:=((ns.map V.int).length : Nat)) (show 0 <= 0 + (i : Int) by omega)
   have : (i : Int) <= 100:=by omega
   omega
  show gName 4 (V.int ((0 + (i : Int)).fdiv ((ns.map V.int).length : Nat))) _ _ _
  generalize (0 + (i : Int)).fdiv ((ns.map V.int).length : Nat) = ag at d1 d2 ⊢
  obtain ⟨v,hv,ev⟩:=at_mod (ns.map V.int) (by omega) (0 + (i : Int))
  obtain ⟨w0,_,rfl⟩:=List.mem_map.mp hv
  refine ⟨_,rfl,tyL (.inl (.inl e)),?_⟩
  refine ⟨_,rfl,_,rfl,_,rfl,_,_,rfl,.inl ⟨_,ha',rfl⟩,_,_,rfl,rfl,hml,ixL ha' ev ?_⟩
  refine ⟨_,rfl,.inl ⟨_,_,rfl,rfl,mulL (by decide) (by decide),.inl ⟨_,_,rfl,rfl,?_⟩⟩⟩
  try dsimp (config:={ proj:=false,eta:=false,zeta:=false,iota:=false }) only [tNil,tC]
  refine ⟨_,_,rfl,rfl,cdivK (by omega) (by omega),?_⟩
  refine ⟨_,rfl,.inl ⟨_,_,rfl,rfl,mulL (by decide) (by decide),.inl ⟨_,_,rfl,rfl,?_⟩⟩⟩
  try dsimp (config:={ proj:=false,eta:=false,zeta:=false,iota:=false }) only [tNil,tC]
  refine appL e (by rw [List.length_map,sizeLine_eq]; omega) ?_
  refine ⟨ms ++ [w0.fdiv (1 + 18 * ag) + 3 * ag],_,_,rfl,over_same hp g,by rw [upd_same,List.map_append]; rfl,by rw [List.length_append,hl]; rfl⟩
 ·rintro _ H' ⟨ms,r3,r4,rfl,g,e,hl⟩
  exact ⟨_,rfl,q H' p ms g e (by omega)⟩
theorem some_signs : V.str (Str.ofString " !\"#$&'()*+,-./0123456789:;<=>?@ABCDEFGHIJKLMNOPQRSTUVWXYZ[\\]^_`") = vt (signs.take 64):=congrArg V.str (by decide +kernel)
theorem more_signs : V.str (Str.ofString "abcdefghijklmnopqrstuvwxyz{|}~") = vt (signs.drop 64):=congrArg V.str (by decide +kernel)
def spStrange (K : PySem.W.Frag) : Sp:=λ vs H Q _=>∃ (L S : List Nat) (c : Int),vs = [vt L,.int c] /\ Drawn L.length L S /\ L.length <= 6 /\ ∀ H' s,Same H H' -> s ∉ L -> s < 127 -> Q (vt [s]) H'
theorem ok_Qp (T : Txt K mg t) : FnOk P w K mg base (CX1 P w) 1 t.a_Qp t.fd_Qp ["letters", "cell"] (spStrange K):=by
 refine T.F_Qp.okn (k:=0) sc_Qp (λ vs H Q E h=>?_) (λ cdv A outer s H vs Q E hr h=>?_)
 ·obtain ⟨L,S,c,rfl,_⟩:=h; rfl
 obtain ⟨L,S,c,rfl,hDr,hL6,q⟩:=h
 refine ⟨_,(pss_cons (ps_set (i:=2) sc_Qp.nd rfl (Or.inl rfl) pe_str)
  (pss_cons (ps_set (i:=2) sc_Qp.nd rfl (Or.inl rfl) (pe_op oAddN (pv 2) pe_str))
  (pss_cons (ps_set (i:=2) sc_Qp.nd rfl (Or.inl rfl) (pe_bm PySem.F.plainAttrs_str PySem.F.slot_str_join PySem.F.type_str_join mt_join pe_str (pa_cons (pe_lc (compSc_of (N:=["sign", "letters"]) (cap:=[none,some 0]) (by kernel_rfl)) rfl (piAny (pv 2)) ⟨λ _=>(pg_name (i:=0) (show List.Nodup (["sign", "letters"] : List Str) by decide +kernel) rfl (Or.inl rfl)),λ _=>(pf_one (pt_cmpR oNotIn (pv 0) (pv 1) (by with_unfolding_all rfl))),λ _=>(pv 0)⟩) pa_nil)))
  (pss_one (ps_ret (pe_ix ixAny (pv 2) (pe_op op_mod (pv 1) (pe_callB call_len rfl T.m_len bt_len (pa_cons (pv 2) pa_nil))) (λ _ _=>rfl))))))),?_⟩
 refine ⟨_,rfl,.inr (.inl ⟨_,_,some_signs,more_signs,by decide +kernel,?_⟩)⟩
 rw [List.take_append_drop]
 show gName 2 (vt signs) _ _ _
 refine ⟨rfl,?_⟩
 refine ⟨_,rfl,.inr (.inr ⟨_,rfl,λ D hD c2=>?_⟩)⟩
 refine lc_pure (walk_tx signs) (caps:=[some (vt L)]) (lackV L) (λ v=>v) (λ _=>trivial) (by rw [List.length_map,signs_len]; decide) ?_ ?_
 ·intro i x ys R hx hy h1 h2
  obtain ⟨c,_,rfl⟩:=sign_at hx
  refine ⟨_,rfl,_,rfl,.inl ⟨c,L,rfl,rfl,_,rfl,?_⟩⟩
  rw [if_pos rfl]
  by_cases z : c ∈ L
  ·rw [decide_eq_true z]
   exact iteF (h2 (by show (!decide (c ∈ L)) = false; rw [decide_eq_true z]; rfl))
  ·rw [decide_eq_false z]
   refine iteT ⟨_,rfl,ys,upd_same,hy,?_⟩
   rw [upd_upd]; exact h1 (by show (!decide (c ∈ L)) = true; rw [decide_eq_false z]; rfl)
 obtain ⟨lk,hlk,hk1,hk2⟩:=lacked_ok hDr (by omega)
 rw [hlk]
 have elk : (lk.map λ c=>vt [c]) = (lk.map λ c=>[c]).map vt:=by rw [List.map_map]; rfl
 rw [elk]
 have s1 : Same H (upd H D (.lst ((lk.map λ c=>[c]).map vt))):=same_new hD _
 have e1 : upd H D (.lst ((lk.map λ c=>[c]).map vt)) D = some (.lst ((lk.map λ c=>[c]).map vt)):=upd_same
 generalize upd H D (.lst ((lk.map λ c=>[c]).map vt)) = H1 at s1 e1 ⊢
 refine ⟨[],D,lk.map λ c=>[c],str_nil0,rfl,.inl (.inl (.inl e1)),?_,?_⟩
 ·rw [flatten_ones,List.length_map]; show _ + _ * 0 <= _; omega
 rw [between_nil,flatten_ones]
 have zk : lk.length <= sizeLine:=by rw [sizeLine_eq]; omega
 obtain ⟨v,hv,ev⟩:=at_mod lk hk2.1 c
 refine ⟨_,rfl,_,rfl,_,rfl,_,_,rfl,lenvS zk,_,_,rfl,rfl,(by show (0 : Int) < (lk.length : Nat); omega),ixS zk ev ?_⟩
 exact q H1 v s1 (hk1 v hv).1 (hk1 v hv).2
def spBad (K : PySem.W.Frag) : Sp:=λ vs H Q _=>∃ (L S l : List Nat) (c : Int),vs = [vt L,vt l,.int c] /\ Drawn L.length L S /\ L.length <= 6 /\ l.length <= 98 /\ (∀ c ∈ l,c ∈ L) /\ ∀ H' (b : List Nat),Same H H' -> (∃ c ∈ b,c ∉ L) -> (∀ c ∈ b,c < 16 ^ 8) -> b.length <= 110 -> Q (vt b) H'
theorem ok_Qbm (T : Txt K mg t) : FnOk P w K mg base (CX1 P w) 2 t.a_Qbm t.fd_Qbm ["letters", "text", "cell"] (spBad K):=by
 refine T.F_Qbm.okn (k:=1) sc_Qbm (λ vs H Q E h=>?_) (λ cdv A outer s H vs Q E hr h=>?_)
 ·obtain ⟨L,S,l,c,rfl,_⟩:=h; rfl
 obtain ⟨L,S,l,c,rfl,hDr,hL6,hll,hl,q⟩:=h
 have G_Qp:=@ok_Qp P w K mg base t T
 have zl : l.length <= sizeLine:=by rw [sizeLine_eq]; omega
 have hl16 : ∀ c ∈ l,c < 16 ^ 8:=λ c hc=>Nat.lt_trans (signs_lt c (hDr.mem c (hl c hc))).2.1 (by decide)
 refine ⟨_,(pss_cons (ps_set (i:=3) sc_Qbm.nd rfl (Or.inl rfl) (pe_op op_mod (pv 2) (pe_op oAddN (pe_callB call_len rfl T.m_len bt_len (pa_cons (pv 1) pa_nil)) pe_int)))
  (pss_cons (ps_set (i:=4) sc_Qbm.nd rfl (Or.inl rfl) (pe_op op_fdivL (pv 2) pe_int))
  (pss_cons (ps_set (i:=5) sc_Qbm.nd rfl (Or.inl rfl) (pe_call G_Qp hr rfl T.m_Qp T.F_Qp.kp T.b_Qp .nil pass1 (PAs.h (pas_cons (pv 0) (pas_cons (pe_op op_fdivL (pv 4) pe_int) pas_nil)))))
  (pss_cons (ps_set (i:=6) sc_Qbm.nd rfl (Or.inl rfl) (pe_call G_Qp hr rfl T.m_Qp T.F_Qp.kp T.b_Qp .nil pass1 (PAs.h (pas_cons (pv 0) (pas_cons (pe_op op_fdivL (pv 4) pe_int) pas_nil)))))
  (pss_cons (ps_if (pt_cmpR (oEqA (hr.units0)) (pe_op op_mod (pv 4) pe_int) pe_int (nomark _)) (pss_one (ps_ret (pe_op oAddN (pe_op oAddN (pe_slice slAny (pv 1) po_none (po_some (pv 3))) (pv 5)) (pe_slice slAny (pv 1) (po_some (pv 3)) po_none)))) pss_nil)
  (pss_cons (ps_if (pt_cmpR (oEqA (hr.units0)) (pe_op op_mod (pv 4) pe_int) pe_int (nomark _)) (pss_one (ps_ret (pe_op oAddN (pe_op oAddN (pe_op oAddN (pe_slice slAny (pv 1) po_none (po_some (pv 3))) (pv 5)) (pv 6)) (pe_slice slAny (pv 1) (po_some (pv 3)) po_none)))) pss_nil)
  (pss_cons (ps_if (pt_cmpR (oEqA (hr.units0)) (pe_op op_mod (pv 4) pe_int) pe_int (nomark _)) (pss_one (ps_ret (pe_op oAddN (pe_op oAddN (pe_op oAddN (pv 5) (pe_slice slAny (pv 1) po_none (po_some (pv 3)))) (pv 6)) (pe_slice slAny (pv 1) (po_some (pv 3)) po_none)))) pss_nil)
  (pss_one (ps_ret (pe_op oAddN (pe_op oMulN (pv 5) (pv 3)) (pv 6))))))))))),?_⟩
 have a1:=Int.emod_nonneg c (show ((l.length : Nat) : Int) + 1 ≠ 0 by omega)
 have a2:=Int.emod_lt_of_pos c (show (0 : Int) < ((l.length : Nat) : Int) + 1 by omega)
 refine ⟨_,rfl,_,rfl,_,_,rfl,lenvS zl,.inl ⟨_,_,rfl,rfl,_,_,rfl,rfl,(by show (0 : Int) < ((l.length : Nat) : Int) + 1; omega),?_⟩⟩
 show gName 3 (V.int (c % (((l.length : Nat) : Int) + 1))) _ _ _
 obtain ⟨at0,hat⟩ : ∃ k : Nat,c % (((l.length : Nat) : Int) + 1) = (k : Int):=⟨_,(Int.toNat_of_nonneg a1).symm⟩
 rw [hat] at a1 a2 ⊢
 refine ⟨_,rfl,_,_,rfl,rfl,cdivK (by decide) (by decide),?_⟩
 show gName 4 (V.int (c.fdiv 101)) _ _ _
 generalize c.fdiv 101 = re
 refine ⟨_,rfl,_,rfl,_,_,rfl,rfl,cdivK (by decide) (by decide),L,S,_,rfl,hDr,hL6,λ H1 o1 s1 ho1 hb1=>?_⟩
 refine ⟨_,rfl,_,rfl,_,_,rfl,rfl,cdivK (by decide) (by decide),L,S,_,rfl,hDr,hL6,λ H2 o2 s2 ho2 hb2=>?_⟩
 have s12:=s1.trans s2
 have b1 : o1 < 16 ^ 8:=Nat.lt_trans hb1 (by decide)
 have b2 : o2 < 16 ^ 8:=Nat.lt_trans hb2 (by decide)
 have fin : ∀ b : List Nat,o1 ∈ b \/ o2 ∈ b -> (∀ c ∈ b,c ∈ l \/ c = o1 \/ c = o2) -> b.length <= 110 -> Q (vt b) H2:=λ b hb hm hlen=>by
  refine q H2 b s12 ?_ (λ c hc=>?_) hlen
  ·rcases hb with h | h
   ·exact ⟨o1,h,ho1⟩
   ·exact ⟨o2,h,ho2⟩
  ·rcases hm c hc with h | rfl | rfl
   ·exact hl16 c h
   ·exact b1
   ·exact b2
 have lt:=List.length_take (i:=at0) (l:=l)
 have ld:=List.length_drop (i:=at0) (l:=l)
 refine ⟨_,rfl,_,_,rfl,rfl,(by show (0 : Int) < 4; decide),.inl ⟨rfl,_,rfl,if2 (λ _=>?_) (λ _=>?_)⟩⟩
 ·refine ⟨_,rfl,_,rfl,_,rfl,.inr (cutT zl ?_)⟩
  rw [cut_to]
  refine ⟨_,rfl,.inr (.inl (catX (by rw [sizeLine_eq]; show _ + 1 <= _; omega) ?_))⟩
  refine ⟨_,rfl,_,rfl,_,rfl,.inr (cutT zl ?_)⟩
  rw [cut_from]
  refine .inr (.inl (catX (by rw [List.length_append,sizeLine_eq]; show _ + 1 + _ <= _; omega) ?_))
  refine fin _ (.inl (by simp)) (λ c hc=>?_) (by rw [List.length_append,List.length_append]; show _ + 1 + _ <= _; omega)
  simp only [List.mem_append,List.mem_singleton] at hc
  rcases hc with (h | h) | h
  ·exact .inl (List.mem_of_mem_take h)
  ·exact .inr (.inl h)
  ·exact .inl (List.mem_of_mem_drop h)
 refine ⟨_,rfl,_,_,rfl,rfl,(by show (0 : Int) < 4; decide),.inl ⟨rfl,_,rfl,if2 (λ _=>?_) (λ _=>?_)⟩⟩
 ·refine ⟨_,rfl,_,rfl,_,rfl,.inr (cutT zl ?_)⟩
  rw [cut_to]
  refine ⟨_,rfl,.inr (.inl (catX (by rw [sizeLine_eq]; show _ + 1 <= _; omega) ?_))⟩
  refine ⟨_,rfl,.inr (.inl (catX (by rw [List.length_append,sizeLine_eq]; show _ + 1 + 1 <= _; omega) ?_))⟩
  refine ⟨_,rfl,_,rfl,_,rfl,.inr (cutT zl ?_)⟩
  rw [cut_from]
  refine .inr (.inl (catX (by rw [List.length_append,List.length_append,sizeLine_eq]; show _ + 1 + 1 + _ <= _; omega) ?_))
  refine fin _ (.inl (by simp)) (λ c hc=>?_) (by rw [List.length_append,List.length_append,List.length_append]; show _ + 1 + 1 + _ <= _; omega)
  simp only [List.mem_append,List.mem_singleton] at hc
  rcases hc with ((h | h) | h) | h
  ·exact .inl (List.mem_of_mem_take h)
  ·exact .inr (.inl h)
  ·exact .inr (.inr h)
  ·exact .inl (List.mem_of_mem_drop h)
 refine ⟨_,rfl,_,_,rfl,rfl,(by show (0 : Int) < 4; decide),.inl ⟨rfl,_,rfl,if2 (λ _=>?_) (λ _=>?_)⟩⟩
 ·refine ⟨_,rfl,_,rfl,_,rfl,_,rfl,.inr (cutT zl ?_)⟩
  rw [cut_to]
  refine .inr (.inl (catX (by rw [sizeLine_eq]; show 1 + _ <= _; omega) ?_))
  refine ⟨_,rfl,.inr (.inl (catX (by rw [List.length_append,sizeLine_eq]; show 1 + _ + 1 <= _; omega) ?_))⟩
  refine ⟨_,rfl,_,rfl,_,rfl,.inr (cutT zl ?_)⟩
  rw [cut_from]
  refine .inr (.inl (catX (by rw [List.length_append,List.length_append,sizeLine_eq]; show 1 + _ + 1 + _ <= _; omega) ?_))
  refine fin _ (.inl (by simp)) (λ c hc=>?_) (by rw [List.length_append,List.length_append,List.length_append]; show 1 + _ + 1 + _ <= _; omega)
  simp only [List.mem_append,List.mem_singleton] at hc
  rcases hc with ((h | h) | h) | h
  ·exact .inr (.inl h)
  ·exact .inl (List.mem_of_mem_take h)
  ·exact .inr (.inr h)
  ·exact .inl (List.mem_of_mem_drop h)
 ·refine ⟨_,rfl,_,rfl,.inr (.inl ⟨[o1],at0,rfl,rfl,⟨by omega,by omega,by show 1 <= 4000; decide⟩,?_⟩)⟩
  rw [rep_ones]
  refine ⟨_,rfl,.inr (.inl (catX (by rw [List.length_replicate,sizeLine_eq]; show _ + 1 <= _; omega) ?_))⟩
  refine fin _ (.inr (by simp)) (λ c hc=>?_) (by rw [List.length_append,List.length_replicate]; show _ + 1 <= _; omega)
  simp only [List.mem_append,List.mem_singleton] at hc
  rcases hc with h | h
  ·exact .inr (.inl (List.eq_of_mem_replicate h))
  ·exact .inr (.inr h)
def spTT (K : PySem.W.Frag) : Sp:=λ vs H Q _=>∃ (a p : Addr) (ns : List Int) (L : List Nat) (d : Nat),vs = [.ref a,.ref p] /\ SqL K H a (ns.map V.int) /\ SqT K H p [vt L,.int d] /\ 2 <= L.length /\ L.length <= 6 /\ ∀ H' (l : List Nat),Same H H' -> (∀ c ∈ l,c ∈ L) -> l.length <= 98 -> (¬ d < 3 -> l.length <= 60) -> Q (vt l) H'
theorem ok_Qg (T : Txt K mg t) : FnOk P w K mg base (CX1 P w) 2 t.a_Qg t.fd_Qg ["script", "frame"] (spTT K):=by
 refine T.F_Qg.okn (k:=1) sc_Qg (λ vs H Q E h=>?_) (λ cdv A outer s H vs Q E hr h=>?_)
 ·obtain ⟨a,p,ns,L,d,rfl,_⟩:=h; rfl
 obtain ⟨a,p,ns,L,d,rfl,ha,hp,hL2,hL6,q⟩:=h
 have G_Qn:=@ok_Qn P w K mg base t T
 have G_Qw:=@ok_Qw P w K mg base t T
 have G_Qbf:=@ok_Qbf P w K mg base t T
 refine ⟨_,(pss_cons (ps_set (i:=2) sc_Qg.nd rfl (Or.inl rfl) (pe_slice slAny (pv 0) (po_some pe_int) (po_some pe_int)))
  (pss_cons (ps_if (PW.pt (pw_and (pt_cmpR oLt (pe_ix ixAny (pv 1) pe_int (λ _ _=>rfl)) pe_int (nomark _)) (pw_and (pt_cmpR (oEqW (hr.units0)) (pe_op op_mod (pe_op op_fdivL (pe_call G_Qn hr rfl T.m_Qn T.F_Qn.kp T.b_Qn .nil pass1 (PAs.h (pas_cons (pv 0) (pas_cons pe_int pas_nil)))) pe_int) pe_int) pe_int (nomark _)) (pw_and1 (pt_cmpR (oNeW (hr.units0)) (pv 2) (pe_lst pa_nil) (nomark _)))))) (pss_one (ps_set (i:=2) sc_Qg.nd rfl (Or.inl rfl) (pe_call G_Qw hr rfl T.m_Qw T.F_Qw.kp T.b_Qw .nil pass1 (PAs.h (pas_cons (pv 2) (pas_cons (pe_op oAddN pe_int (pe_op op_mod (pe_op op_fdivL (pe_call G_Qn hr rfl T.m_Qn T.F_Qn.kp T.b_Qn .nil pass1 (PAs.h (pas_cons (pv 0) (pas_cons pe_int pas_nil)))) pe_int) pe_int)) pas_nil)))))) pss_nil)
  (pss_one (ps_ret (pe_call G_Qbf hr rfl T.m_Qbf T.F_Qbf.kp T.b_Qbf .nil pass1 (PAs.h (pas_cons (pv 2) (pas_cons (pe_ix ixAny (pv 1) pe_int (λ _ _=>rfl)) (pas_cons (pe_cmpR (oEqW (hr.units0)) (pe_op op_mod (pe_call G_Qn hr rfl T.m_Qn T.F_Qn.kp T.b_Qn .nil pass1 (PAs.h (pas_cons (pv 0) (pas_cons pe_int pas_nil)))) pe_int) pe_int (nomark _)) pas_nil))))))))),?_⟩
 refine ⟨_,rfl,_,rfl,_,rfl,.inl ⟨a,_,rfl,ha,λ p1 h1=>?_⟩⟩
 rw [cut_ints]
 have h60:=cutN_60 ns
 have s1 : Same H (upd H p1 (.lst ((cutN ns (some 3) (some 63)).map V.int))):=same_new h1 _
 have e1 : upd H p1 (.lst ((cutN ns (some 3) (some 63)).map V.int)) p1 = some (.lst ((cutN ns (some 3) (some 63)).map V.int)):=upd_same
 generalize cutN ns (some 3) (some 63) = ms at h60 s1 e1 ⊢
 generalize upd H p1 (.lst (ms.map V.int)) = H1 at s1 e1 ⊢
 dsimp (config:={ eta:=false,zeta:=false,iota:=false }) only [gName]
 refine meet (λ σ H2=>∃ (pc : Addr) (cs : List Int),σ = [some (.ref a),some (.ref p),some (.ref pc)] /\ Same H H2 /\ H2 pc = some (.lst (cs.map V.int)) /\ cs.length <= 98 /\ (¬ d < 3 -> cs.length <= 60)) (λ N hN=>?_) ?_
 ·refine ⟨_,rfl,ixT (same_tup s1 hp) rfl (.inl ⟨_,_,rfl,rfl,_,rfl,if2 (λ h3=>?_) (λ h3=>?_)⟩)⟩
  ·refine ⟨_,rfl,a,ns,1,rfl,same_lst s1 ha,by decide,_,_,rfl,rfl,cdivK (by decide) (by decide),_,_,rfl,rfl,(by show (0 : Int) < 8; decide),.inl (.inl ⟨rfl,_,rfl,if2 (λ _=>?_) (λ _=>?_)⟩)⟩
   ·refine ⟨_,rfl,by rw [sizeLine_eq]; show 0 <= _; decide,λ b hb=>?_⟩
    have s2 : Same H (upd H1 b (.lst [])):=new_same hb s1
    have e2:=new_at (o:=.lst []) hb e1
    refine .inr ⟨p1,b,_,rfl,rfl,.inl (.inl e2),.inl (.inl upd_same),_,rfl,?_⟩
    generalize upd H1 b (.lst []) = H2 at s2 e2 ⊢
    cases ms with
    | nil=>exact iteF (hN _ _ ⟨p1,[],rfl,s2,e2,by show 0 <= 98; decide,λ _=>by show 0 <= 60; decide⟩)
    | cons m ms =>
      refine iteT ?_
      have a1:=Int.emod_nonneg ((cellN ns 1).fdiv 16) (show (5 : Int) ≠ 0 by decide)
      have a2:=Int.emod_lt_of_pos ((cellN ns 1).fdiv 16) (show (0 : Int) < 5 by decide)
      obtain ⟨n,hn⟩ : ∃ n : Nat,94 + (cellN ns 1).fdiv 16 % 5 = (n : Int):=⟨(94 + (cellN ns 1).fdiv 16 % 5).toNat,by omega⟩
      refine ⟨_,rfl,_,rfl,a,ns,1,rfl,same_lst s2 ha,by decide,_,_,rfl,rfl,cdivK (by decide) (by decide),_,_,rfl,rfl,(by show (0 : Int) < 5; decide),.inl ⟨_,_,rfl,rfl,?_⟩⟩
      refine ⟨p1,m :: ms,n,congrArg (λ z=>[V.ref p1,V.int z]) hn,.inl (.inl e2),by simp,by omega,by omega,λ H3 p3 ms3 s3 e3 hl3=>?_⟩
      exact hN _ _ ⟨p3,ms3,rfl,s2.trans s3,e3,by omega,λ z=>absurd (by omega) z⟩
   ·exact iteF (hN _ _ ⟨p1,ms,rfl,s1,e1,by omega,λ _=>h60⟩)
  ·exact iteF (hN _ _ ⟨p1,ms,rfl,s1,e1,by omega,λ _=>h60⟩)
 rintro _ H2 ⟨pc,cs,rfl,s2,e2,hcl,hcd⟩
 refine ⟨_,rfl,_,rfl,ixT (same_tup s2 hp) rfl ⟨_,rfl,a,ns,1,rfl,same_lst s2 ha,by decide,_,_,rfl,rfl,(by show (0 : Int) < 2; decide),.inl (.inl ⟨rfl,?_⟩)⟩⟩
 exact ⟨pc,cs,L,_,rfl,.inl (.inl e2),hL2,hL6,by omega,λ l hl hll=>q H2 l s2 hl (by omega) (λ z=>by have:=hcd z; omega)⟩
def placeL : List Nat -> Nat -> Nat
 | [],_=>0
 | a :: r,c=>if a = c then 0 else placeL r c + 1
theorem placeL_at : ∀ {L : List Nat} {c : Nat},c ∈ L -> L[placeL L c]? = some c
 | [],c,h=>nomatch h
 | a :: r,c,h=>by
   unfold placeL
   by_cases z : a = c
   ·rw [if_pos z,z]; rfl
   ·rw [if_neg z]
    rcases List.mem_cons.mp h with h | h
    ·exact absurd h.symm z
    ·rw [List.getElem?_cons_succ]; exact placeL_at h
theorem placeL_inj {L : List Nat} {a b : Nat} (ha : a ∈ L) (hb : b ∈ L) (h : placeL L a = placeL L b) : a = b:=by
 have h1:=placeL_at ha
 rw [h,placeL_at hb] at h1
 exact (Option.some.inj h1).symm
def rkL (L l : List Nat) : List Nat:=l.map (placeL L)
def spRank (K : PySem.W.Frag) : Sp:=λ vs H Q _=>∃ (p : Addr) (L l : List Nat) (d : V),vs = [.ref p,vt l] /\ SqT K H p [vt L,d] /\ L.Nodup /\ l.length <= 4000 /\ (∀ c ∈ l,c ∈ L) /\ ∀ q H',H q = none -> Same H H' -> H' q = some (.lst ((rkL L l).map λ n=>V.int (Int.ofNat n))) -> Q (.ref q) H'
theorem ok_rank (T : Txt K mg t) : FnOk P w K mg base (CX1 P w) 1 t.a_rank t.fd_rank ["frame", "text"] (spRank K):=by
 refine T.F_rank.okn (k:=0) sc_rank (λ vs H Q E h=>?_) (λ cdv A outer s H vs Q E hr h=>?_)
 ·obtain ⟨p,L,l,d,rfl,_⟩:=h; rfl
 obtain ⟨p,L,l,d,rfl,hF,hnd,hl,hall,q⟩:=h
 refine ⟨_,(pss_cons (ps_set (i:=2) sc_rank.nd rfl (Or.inr rfl) (pe_ix ixAny (pv 0) pe_int (λ _ _=>rfl)))
  (pss_one (ps_ret (pe_lc (compSc_of (N:=["sign", "letters"]) (cap:=[none,some 2]) (by kernel_rfl)) rfl (piAny (pv 1)) ⟨λ _=>(pg_name (i:=0) (show List.Nodup (["sign", "letters"] : List Str) by decide +kernel) rfl (Or.inl rfl)),λ _=>pf_nil,λ _=>(pe_bm PySem.F.plainAttrs_str PySem.F.slot_str_index PySem.F.type_str_index mt_index (pv 1) (pa_cons (pv 0) pa_nil))⟩)))),?_⟩
 refine ⟨_,rfl,.inr (.inl ⟨p,_,0,_,rfl,rfl,hF,rfl,_,rfl,.inr (.inr ⟨_,rfl,λ D hD cp=>?_⟩)⟩)⟩
 refine lc_vals (walk_tx l) (caps:=[some (vt L)]) (λ j v=>∃ c,l[j]? = some c /\ v = .int (placeL L c : Nat)) (λ _=>trivial) (by rw [List.length_map,sizeLine_eq]; omega) ?_ ?_
 ·intro i x ys C hx hC
  obtain ⟨c,hc,rfl⟩:=sign_at hx
  have hm : c ∈ L:=hall c (List.mem_of_getElem? hc)
  refine ⟨_,rfl,rfl,_,rfl,L,c,rfl,rfl,hm,λ j hj=>?_⟩
  rw [at_uniq hnd (placeL_at hm) hj]
  exact hC _ ⟨c,hc,rfl⟩
 intro ys hy hR
 rw [List.length_map] at hy
 have e : ys = (rkL L l).map λ n=>V.int (Int.ofNat n):=by
  unfold rkL
  rw [List.map_map]
  refine List.ext_getElem? λ j=>?_
  rw [List.getElem?_map]
  by_cases hj : j < l.length
  ·obtain ⟨c,hc,hv⟩:=hR j _ (List.getElem?_eq_getElem (show j < ys.length by omega))
   rw [List.getElem?_eq_getElem (show j < ys.length by omega),hv,hc]; rfl
  ·rw [List.getElem?_eq_none (by omega),List.getElem?_eq_none (by omega)]; rfl
 rw [e]
 exact q D _ hD (same_new hD _) upd_same
def lamPos (st : Stmt) : Pos:=match defBody st with
 | [.Return (some (.Call _ _ [⟨_,.Lambda _ _ _ p,_⟩] _)) _]=>p
 | _=>⟨0,0,0,0⟩
abbrev lpO : Pos:=lamPos s_Qs
abbrev qlO : Str:=("in_order" : Str) ++ ".<locals>." ++ "<lambda>"
abbrev TO (T0 : Addr) (H : Hp) : Prop:=TB T0 lpO qlO H
def spOrder (K : PySem.W.Frag) (T0 : Addr) : Sp:=λ vs H Q _=>∃ (p q0 : Addr) (L : List Nat) (d : V) (ls : List (List Nat)),vs = [.ref p,.ref q0] /\ SqT K H p [vt L,d] /\ SqL K H q0 (ls.map vt) /\ L.Nodup /\ ls.length <= 100000 /\ (∀ l ∈ ls,l.length <= 4000 /\ ∀ c ∈ l,c ∈ L) /\ TO T0 H /\
 ∀ (r : Addr) (ls' : List (List Nat)) (H' : Hp),ls'.Perm ls -> ls'.Pairwise (λ a b=>¬ rkL L b < rkL L a) -> SameT T0 H H' -> H r = none -> H' r = some (.lst (ls'.map vt)) -> TO T0 H' -> Q (.ref r) H'
theorem sqT_T {H H' : Hp} {T0 p : Addr} {xs : List V} (h : SqT K H p xs) (hT : ∃ ps,H T0 = some (.tbl ps)) (s : SameT T0 H H') : SqT K H' p xs:=by
 obtain ⟨ps,hT⟩:=hT
 rcases h with (h | ⟨o,h⟩) | h
 ·exact .inl (.inl (s _ _ (λ z=>by subst z; rw [hT] at h; cases h) h))
 ·exact .inl (.inr ⟨o,s _ _ (λ z=>by subst z; rw [hT] at h; cases h) h⟩)
 ·exact .inr h
theorem ok_Qs {c0 T0 : Addr} (T : Txt K mg t) (Y : TabX K mg base "in_order" c0 T0) : FnOk P w K mg base (CX1 P w) 5 t.a_Qs t.fd_Qs ["frame", "texts"] (spOrder K T0):=by
 refine T.F_Qs.okc (k:=4) sc_Qs (λ vs H Q E h=>?_) (λ cdv A outer s H vs Q E hcd hr h=>?_)
 ·obtain ⟨p,q0,L,d,ls,rfl,_⟩:=h; rfl
 obtain ⟨p,q0,L,d,ls,rfl,hF,hS,hnd,hls,hall,hTO,q⟩:=h
 have G_rank:=@ok_rank P w K mg base t T
 have hcode:=hcd.symm.trans (Y.code T.m_Qs T.F_Qs)
 subst hcode
 refine ⟨_,pss_one (ps_ret (pe_sortK (x := "text") (y := "frame") (i0:=0) (rk:=rkL L) hr.in1.in1.units0 hr.in1.in1.depth rfl rfl T.m_sorted (pa_cons (pv 1) pa_nil) rfl (λ cc h=>?_) rfl rfl rfl Y.hd Y.bm rfl rfl rfl rfl rfl (by decide +kernel) (λ z hz=>(show ∀ p ∈ ([("text",.local),("frame",.free),("rank",.globalImplicit)] : List (Str × NameKind)),p.2 = .free -> p.1 = "frame" by decide +kernel) _ (PySem.mem_of_lookup hz) rfl) (by decide +kernel) (λ _ _ _ _ _=>rfl)
  (λ f c' cl s H=>pe_call G_rank (hr.in1.in1.deeper _) rfl T.m_rank T.F_rank.kp T.b_rank .nil pass1 (PAs.h (pas_cons (pv 1) (pas_cons (pv 0) pas_nil)))))),?_⟩
 ·have h' : some (_ + 1) = some cc:=h
  cases h'; rfl
 refine ⟨_,rfl,q0,ls,.ref p,rfl,hS,hls,hTO,rfl,λ l hl H2 sm=>?_,λ r ls' H' a1 a2 a3 a4 a5 a6=>q r ls' H' a1 a2 a3 a4 a5 a6⟩
 exact ⟨_,rfl,_,rfl,p,L,l,d,rfl,sqT_T hF hTO.tbl sm,hnd,(hall l hl).1,(hall l hl).2,λ q' H3 h1 h2 h3=>⟨q',rfl,h1,h2,h3⟩⟩
theorem seen_iff {f d : Nat} {l kn : List Nat} {n : Nat} : seen f d l kn n = true ↔ ∃ k,k < n /\ (eldL f d l k).take kn.length = kn:=by
 unfold seen falls
 rw [List.any_eq_true]
 constructor
 ·rintro ⟨k,hk,e⟩; exact ⟨k,List.mem_range.mp hk,of_decide_eq_true e⟩
 ·rintro ⟨k,hk,e⟩; exact ⟨k,List.mem_range.mpr hk,decide_eq_true e⟩
theorem eldL_mem {f d : Nat} {L l : List Nat} {k : Nat} (hl : ∀ c ∈ l,c ∈ f :: L) (hk : k <= l.length) : ∀ c ∈ eldL f d l k,c ∈ f :: L:=λ c hc=>by
 unfold eldL at hc
 obtain ⟨j,hj,rfl⟩:=List.mem_map.mp hc
 split
 ·rw [List.getD_eq_getElem?_getD,List.getElem?_eq_getElem (by omega)]
  exact hl _ (List.getElem_mem _)
 ·exact List.mem_cons_self
theorem seen_ok {f d : Nat} {L l kn : List Nat} (hl : ∀ c ∈ l,c ∈ f :: L) (h : seen f d l kn l.length = true) : kn.length <= d /\ ∀ c ∈ kn,c ∈ f :: L:=by
 obtain ⟨k,hk,e⟩:=seen_iff.mp h
 have hz:=eldL_len f d l k
 refine ⟨?_,λ c hc=>?_⟩
 ·have:=congrArg List.length e
  rw [List.length_take,hz] at this; omega
 ·rw [← e] at hc
  exact eldL_mem hl (by omega) c (List.mem_of_mem_take hc)
structure Kns (L : List Nat) (f d : Nat) (l : List Nat) (ls : List (List Nat)) : Prop where
 ord : ls.Pairwise (λ a b=>¬ rkL L b < rkL L a)
 nd : ls.Nodup
 mem : ∀ kn,kn ∈ ls ↔ seen f d l kn l.length = true
 len : ls.length <= 7 * l.length
theorem rkL_inj {L : List Nat} : ∀ {a b : List Nat},(∀ c ∈ a,c ∈ L) -> (∀ c ∈ b,c ∈ L) -> rkL L a = rkL L b -> a = b
 | [],[],_,_,_=>rfl
 | [],y :: b,_,_,h=>by cases h
 | x :: a,[],_,_,h=>by cases h
 | x :: a,y :: b,ha,hb,h=>by
   unfold rkL at h
   rw [List.map_cons,List.map_cons] at h
   obtain ⟨h1,h2⟩:=List.cons.inj h
   rw [placeL_inj (ha x List.mem_cons_self) (hb y List.mem_cons_self) h1,rkL_inj (λ c hc=>ha c (List.mem_cons_of_mem _ hc)) (λ c hc=>hb c (List.mem_cons_of_mem _ hc)) h2]
theorem ord_one {L : List Nat} : ∀ {xs ys : List (List Nat)},(∀ l ∈ xs,∀ c ∈ l,c ∈ L) -> xs.Pairwise (λ a b=>¬ rkL L b < rkL L a) -> ys.Pairwise (λ a b=>¬ rkL L b < rkL L a) -> xs.Nodup -> ys.Nodup -> (∀ l,l ∈ xs ↔ l ∈ ys) -> xs = ys
 | [],[],_,_,_,_,_,_=>rfl
 | [],y :: ys,_,_,_,_,_,h=>absurd ((h y).mpr List.mem_cons_self) (by simp)
 | x :: xs,[],_,_,_,_,_,h=>absurd ((h x).mp List.mem_cons_self) (by simp)
 | x :: xs,y :: ys,hL,ox,oy,nx,ny,h=>by
   obtain ⟨ox1,ox2⟩:=List.pairwise_cons.mp ox
   obtain ⟨oy1,oy2⟩:=List.pairwise_cons.mp oy
   obtain ⟨nx1,nx2⟩:=List.nodup_cons.mp nx
   obtain ⟨ny1,ny2⟩:=List.nodup_cons.mp ny
   have e : x = y:=by
    rcases List.mem_cons.mp ((h x).mp List.mem_cons_self) with z | z
    ·exact z
    ·rcases List.mem_cons.mp ((h y).mpr List.mem_cons_self) with z2 | z2
     ·exact z2.symm
     ·have a1 : ¬ rkL L x < rkL L y:=oy1 x z
      have a2 : ¬ rkL L y < rkL L x:=ox1 y z2
      exact rkL_inj (hL x List.mem_cons_self) (hL y (List.mem_cons_of_mem _ z2)) (List.le_antisymm a2 a1)
   subst e
   rw [ord_one (λ l hl=>hL l (List.mem_cons_of_mem _ hl)) ox2 oy2 nx2 ny2 λ l=>?_]
   constructor
   ·intro hl
    rcases List.mem_cons.mp ((h l).mp (List.mem_cons_of_mem _ hl)) with z | z
    ·rw [z] at hl; exact absurd hl nx1
    ·exact z
   ·intro hl
    rcases List.mem_cons.mp ((h l).mpr (List.mem_cons_of_mem _ hl)) with z | z
    ·rw [z] at hl; exact absurd hl ny1
    ·exact z
theorem FrV.sameT {H H' : Hp} {T0 : Addr} {x : V} {A B : Int} (h : FrV K H x A B) (hT : ∃ ps,H T0 = some (.tbl ps)) (s : SameT T0 H H') : FrV K H' x A B:=by
 obtain ⟨p,n,d,e,h1,h2⟩:=h
 exact ⟨p,n,d,e,sqT_T h1 hT s,h2⟩
theorem EAt.sameT {F F' : Hp} {T0 : Addr} {v : V} {L : List Nat} {f d : Nat} {l : List Nat} {n : Nat} {k : List Nat} (h : EAt K F v L f d l n k) (hT : ∃ ps,F T0 = some (.tbl ps)) (s : SameT T0 F F') : EAt K F' v L f d l n k:=by
 obtain ⟨e,q,x,y,e0,h1,h2,h3,h4⟩:=h
 exact ⟨e,q,x,y,e0,sqT_T h1 hT s,h2.sameT hT s,h3.sameT hT s,h4.sameT hT s⟩
def RowAt (K : PySem.W.Frag) (F : Hp) (L : List Nat) (f d : Nat) (l : List Nat) (v : V) (kn : List Nat) : Prop :=
 ∃ e y z,v = .ref e /\ F e = some (.tup [vt kn,y,z]) /\ FrV K F y (wo L f d l l.length kn).1 (wo L f d l l.length kn).2 /\ FrV K F z (wv L f d l l.length (d - kn.length) kn).1 (wv L f d l l.length (d - kn.length) kn).2
theorem RowAt.same {F F' : Hp} {L : List Nat} {f d : Nat} {l : List Nat} {v : V} {kn : List Nat} (h : RowAt K F L f d l v kn) (s : Same F F') : RowAt K F' L f d l v kn:=by
 obtain ⟨e,y,z,e0,h1,h2,h3⟩:=h
 exact ⟨e,y,z,e0,s _ _ h1,h2.same s,h3.same s⟩
theorem RowAt.sameT {F F' : Hp} {T0 : Addr} {L : List Nat} {f d : Nat} {l : List Nat} {v : V} {kn : List Nat} (h : RowAt K F L f d l v kn) (hT : ∃ ps,F T0 = some (.tbl ps)) (s : SameT T0 F F') : RowAt K F' L f d l v kn:=by
 obtain ⟨e,y,z,e0,h1,h2,h3⟩:=h
 obtain ⟨ps,hT'⟩:=hT
 exact ⟨e,y,z,e0,s _ _ (λ q=>by subst q; rw [hT'] at h1; cases h1) h1,h2.sameT ⟨ps,hT'⟩ s,h3.sameT ⟨ps,hT'⟩ s⟩
def Rows (K : PySem.W.Frag) (F : Hp) (L : List Nat) (f d : Nat) (l : List Nat) (ls : List (List Nat)) (vs : List V) : Prop:=vs.length = ls.length /\ ∀ (i : Nat) kn v,ls[i]? = some kn -> vs[i]? = some v -> RowAt K F L f d l v kn
def spPaper (K : PySem.W.Frag) (T0 C : Addr) : Sp:=λ vs H Q E=>∃ (p : Addr) (f : Nat) (L l : List Nat) (d : Nat),vs = [.ref p,vt l] /\ SqT K H p [vt (f :: L),.int d] /\ (∀ c ∈ l,c < 16 ^ 8) /\
 ((∃ c ∈ l,c ∉ f :: L) -> E (.ref C) none H) /\ ((∀ c ∈ l,c ∈ f :: L) -> Sm (f :: L) f d l /\ TO T0 H /\ ∀ (r : Addr) (ls : List (List Nat)) (rows : List V) (H' : Hp),Kns (f :: L) f d l ls -> SameT T0 H H' -> H r = none -> H' r = some (.lst rows) -> Rows K H' (f :: L) f d l ls rows -> TO T0 H' -> Q (.ref r) H')
theorem ok_Qf {c0 T0 : Addr} (T : Txt K mg t) (Y : TabX K mg base "in_order" c0 T0) : FnOk P w K mg base (CX1 P w) 9 t.a_Qf t.fd_Qf ["frame", "text"] (spPaper K T0 t.c_NoText):=by
 refine T.F_Qf.okx (k:=8) sc_Qf (λ vs H Q E h=>?_) (λ cdv A outer s H vs Q E hr h=>?_)
 ·obtain ⟨p,f,L,l,d,rfl,_⟩:=h; rfl
 obtain ⟨p,f,L,l,d,rfl,hp,h16,q1,q2⟩:=h
 have G_Qx:=(@ok_Qx P w K mg base t T).mono (show 1 <= 8 by decide)
 have G_Qbk:=@ok_Qbk P w K mg base t T
 have G_Qs:=(@ok_Qs P w K mg base t _ _ T Y).mono (show 5 <= 8 by decide)
 refine ⟨_,(pss_cons (ps_set (i:=2) sc_Qf.nd rfl (Or.inr rfl) (pe_fld (pe_call G_Qbk hr rfl T.m_Qbk T.F_Qbk.kp T.b_Qbk .nil pass1 (PAs.h (pas_cons (pv 0) (pas_cons (pe_call G_Qx hr rfl T.m_Qx T.F_Qx.kp T.b_Qx .nil passes1 (PAs.h (pas_cons (pv 0) (pas_cons (pv 1) pas_nil)))) pas_nil)))) rfl))
  (pss_one (ps_ret (pe_lc (compSc_of (N:=["knot", "table"]) (cap:=[none,some 2]) (by kernel_rfl)) rfl (piAny (pe_call G_Qs hr rfl T.m_Qs T.F_Qs.kp T.b_Qs .nil pass1 (PAs.h (pas_cons (pv 0) (pas_cons (pe_callTy (callListD rfl) rfl T.m_list bt_list (pa_cons (pv 2) pa_nil)) pas_nil))))) ⟨λ _=>(pg_name (i:=0) (show List.Nodup (["knot", "table"] : List Str) by decide +kernel) rfl (Or.inl rfl)),λ _=>pf_nil,λ _=>(pe_tup (PAs.h (pas_cons (pv 0) (pas_cons (pe_ix ixAny (pe_dget (hu_of hr) (pv 1) (pv 0) (λ _ _=>rfl)) (pe_glob (v:=.int 1) rfl T.m_WORTH ⟨_,rfl⟩) (λ _ _=>rfl)) (pas_cons (pe_ix ixAny (pe_dget (hu_of hr) (pv 1) (pv 0) (λ _ _=>rfl)) (pe_glob (v:=.int 2) rfl T.m_WEIGHT ⟨_,rfl⟩) (λ _ _=>rfl)) pas_nil)))))⟩)))),?_⟩
 refine ⟨_,rfl,_,rfl,_,rfl,p,f :: L,_,l,rfl,hp,h16,λ hall=>?_,λ hbad=>q1 hbad⟩
 obtain ⟨S,hT0,q⟩:=q2 hall
 refine ⟨p,f,L,d,l,rfl,hp,S,λ g tb rp H1 s1 np ntb nrp G=>?_⟩
 obtain ⟨dx,ob⟩:=G.ob
 obtain ⟨kvs,td,kl,gt⟩:=G.td
 have d6:=S.d6
 have ll:=S.ll
 have hkl : kvs.length <= 1400:=Nat.le_trans kl (Nat.mul_le_mul (show l.length <= 200 by omega) (show d + 1 <= 7 by omega))
 refine ⟨g,_,dx,_,_,rfl,ob,T.cl_Growth,T.na_Growth_table,gf_table _ _ _ _,?_⟩
 obtain ⟨ks,hks,ksn⟩:=gt.ks
 have hkv : (kvs.map λ p=>kV p.1) = ks.map vt:=by
  have : (kvs.map λ p=>kV p.1) = (kvs.map λ p=>p.1).map kV:=by rw [List.map_map]; rfl
  rw [this,hks,List.map_map]; rfl
 have hsom : ∀ kn,kn ∈ ks -> ∃ v,valV kvs (key kn) = some v /\ kn.length <= d /\ seen f d l kn l.length = true /\ EAt K H1 v (f :: L) f d l l.length kn:=λ kn hk=>by
  have h1:=(keys_mem hks kn).mp hk
  obtain ⟨v,hv⟩:=Option.isSome_iff_exists.mp h1
  have h2:=gt.kl kn h1
  obtain ⟨h3,h4⟩:=gt.som kn v hv h2
  exact ⟨v,hv,h2,h3,h4.same (off_sub _ _ _ _)⟩
 have hmem : ∀ kn,kn ∈ ks ↔ seen f d l kn l.length = true:=λ kn=>by
  constructor
  ·intro hk; obtain ⟨_,_,_,h,_⟩:=hsom kn hk; exact h
  ·intro hs
   have hkd:=(seen_ok hall hs).1
   rw [keys_mem hks]
   cases hv : valV kvs (key kn) with
   | none=>have:=gt.non kn hv hkd; rw [hs] at this; cases this
   | some u=>rfl
 have hlen : ks.length = kvs.length:=by
  have:=congrArg List.length hks
  rw [List.length_map,List.length_map] at this; exact this.symm
 refine ⟨_,rfl,_,rfl,tb,kvs,rfl,td,λ D hD=>?_⟩
 rw [hkv]
 have g3:=s1.trans (same_new hD (.lst (ks.map vt)))
 have g13:=same_new hD (.lst (ks.map vt))
 have eD : upd H1 D (.lst (ks.map vt)) D = some (.lst (ks.map vt)):=upd_same
 generalize upd H1 D (.lst (ks.map vt)) = H3 at g3 g13 eD ⊢
 have hT3 : TO T0 H3:=hT0.same g3
 refine ⟨p,D,f :: L,_,ks,rfl,same_tup g3 hp,SqL.of eD,S.nd,by omega,λ kn hk=>?_,hT3,λ r ls H4 a1 a2 a3 a4 a5 a6=>?_⟩
 ·obtain ⟨h1,h2⟩:=seen_ok hall ((hmem kn).mp hk)
  exact ⟨by omega,h2⟩
 have kns : Kns (f :: L) f d l ls:=⟨a2,a1.nodup_iff.mpr ksn,λ kn=>by rw [a1.mem_iff]; exact hmem kn,by rw [a1.length_eq,hlen]; refine Nat.le_trans kl ?_; rw [Nat.mul_comm]; exact Nat.mul_le_mul_right _ (by omega)⟩
 obtain ⟨ps,hps⟩:=hT3.tbl
 have td4 : H4 tb = some (.dK kvs):=a3 _ _ (λ z=>by subst z; have:=g13 _ _ td; rw [hps] at this; cases this) (g13 _ _ td)
 have e4 : ∀ kn ∈ ls,∃ v,valV kvs (key kn) = some v /\ EAt K H4 v (f :: L) f d l l.length kn:=λ kn hk=>by
  obtain ⟨v,h1,_,_,h4⟩:=hsom kn (a1.mem_iff.mp hk)
  exact ⟨v,h1,(h4.same g13).sameT ⟨ps,hps⟩ a3⟩
 have hlsl : ls.length <= 1400:=by rw [a1.length_eq]; omega
 refine .inl ⟨r,_,rfl,SqL.of a5,λ D2 hD2 cp=>?_⟩
 refine lc_growF walk_list (caps:=[some (.ref tb)]) hD2 (λ _=>true) (λ F x v=>∃ kn,x = vt kn /\ RowAt K (mn F D2) (f :: L) f d l v kn) (λ F1 F2 x v up ⟨kn,e,h⟩=>⟨kn,e,h.same (mn_up up)⟩) (λ F s=>s.seq (SqL.of a5)) (by rw [List.length_map,sizeLine_eq]; omega) (λ i x F ys C hx s hy hC=>hC) ?_ ?_
 ·intro i x F ys C hx _ s5 hy hC
  rw [List.getElem?_map] at hx
  obtain ⟨kn,hkn,rfl⟩ : ∃ kn,kn ∈ ls /\ x = vt kn:=by
   cases z : ls[i]? with
   | none=>rw [z] at hx; cases hx
   | some kn=>rw [z] at hx; exact ⟨kn,List.mem_of_getElem? z,(Option.some.inj hx).symm⟩
  obtain ⟨v,hv,e,q0,xw,yw,rfl,h1,h2,h3,h4⟩:=e4 kn hkn
  have dg : DGet F tb (vt kn) (some (.ref e)):=by rw [← hv]; exact DGet.k (k:=key kn) (s5 _ _ td4)
  refine ⟨_,rfl,_,rfl,_,rfl,tb,_,rfl,dg,ixT (same_tup s5 h1) rfl ?_⟩
  refine ⟨_,rfl,_,rfl,tb,_,rfl,dg,ixT (same_tup s5 h1) rfl ?_⟩
  refine ⟨by rw [sizeLine_eq]; show 3 <= _; decide,λ u hu=>?_⟩
  have s6:=same_new hu (.tup [vt kn,xw,yw])
  have n0 : Same H4 (mn F D2):=λ b o hb=>mn_at (s5 b o hb) λ z=>by subst z; rw [hD2] at hb; cases hb
  have n1 : Same (mn F D2) (mn (upd F u (.tup [vt kn,xw,yw])) D2):=mn_up λ b o _ hb=>s6 b o hb
  refine hC _ _ s6 ⟨kn,rfl,u,xw,yw,rfl,mn_at upd_same ?_,(h3.same n0).same n1,(h4.same n0).same n1⟩
  intro z
  subst z
  rw [hy] at hu; cases hu
 ·intro F rows s5 hy hn hR
  rw [List.filter_eq_self.mpr (λ _ _=>rfl)] at hn hR
  rw [List.length_map] at hn
  refine q D2 ls rows F kns ((SameT.of g3).trans (a3.trans (.of s5))) (g3.free ?_) hy ⟨hn,λ i kn v h1 h2=>?_⟩ (a6.same s5)
  ·cases z : H3 D2 with
   | none=>rfl
   | some o =>
     by_cases y : D2 = T0
     ·subst y
      obtain ⟨ps2,h2⟩:=a6.tbl
      rw [hD2] at h2; cases h2
     ·have:=a3 _ _ y z
      rw [hD2] at this; cases this
  ·obtain ⟨kn',e,h⟩:=hR i v (vt kn) h2 (by rw [List.getElem?_map,h1]; rfl)
   have : kn = kn':=by simpa using vtx.mp e
   subst this
   exact h.same (mn_same _ _)
theorem low_le {n d A B : Int} (n0 : 0 < n) (A0 : 0 < A) (h : n * B = A * d) (g : gcdI n d = 1) : n <= A:=by
 have h1 : n ∣ A * d:=⟨B,h.symm⟩
 have h2 : n.natAbs ∣ A.natAbs * d.natAbs:=by rw [← Int.natAbs_mul]; exact Int.natAbs_dvd_natAbs.mpr h1
 have h3 : Nat.Coprime n.natAbs d.natAbs:=by
  unfold gcdI at g
  have : Nat.gcd n.natAbs d.natAbs = 1:=by omega
  exact this
 have:=Nat.le_of_dvd (by omega) (h3.dvd_of_dvd_mul_right h2)
 omega
theorem gcdI_comm (a b : Int) : gcdI a b = gcdI b a:=by unfold gcdI; rw [Nat.gcd_comm]
theorem FrV.conv {H : Hp} {x : V} {A B A' B' : Int} (h : FrV K H x A B) (a0 : 0 < A') (b0 : 0 < B') (e : A * B' = A' * B) : FrV K H x A' B':=by
 obtain ⟨p,n,d,ex,h1,n0,d0,cr,gc,l1,l2⟩:=h
 have hB : B ≠ 0:=by omega
 have cr' : n * B' = A' * d:=by
  refine Int.eq_of_mul_eq_mul_right hB ?_
  calc n * B' * B = (n * B) * B':=by rw [Int.mul_assoc,Int.mul_comm B' B,← Int.mul_assoc]
   _ = (A * d) * B':=by rw [cr]
   _ = (A * B') * d:=by rw [Int.mul_assoc,Int.mul_comm d B',← Int.mul_assoc]
   _ = (A' * B) * d:=by rw [e]
   _ = A' * d * B:=by rw [Int.mul_assoc,Int.mul_comm B d,← Int.mul_assoc]
 exact ⟨p,n,d,ex,h1,n0,d0,cr',gc,low_le n0 a0 cr' gc,low_le (B:=A') d0 b0 (by rw [Int.mul_comm d A',← cr',Int.mul_comm]) (by rw [gcdI_comm]; exact gc)⟩
def Wts (K : PySem.W.Frag) (H : Hp) (L : List Nat) (f d : Nat) (l : List Nat) (wk : List (Key × V)) : Prop:=∀ k : List Nat,k.length <= d -> (valV wk (key k) = none -> seen f d l k l.length = false) /\ ∀ v,valV wk (key k) = some v -> FrV K H v (wv L f d l l.length (d - k.length) k).1 (wv L f d l l.length (d - k.length) k).2
theorem Wts.same {H H' : Hp} {L : List Nat} {f d : Nat} {l : List Nat} {wk : List (Key × V)} (h : Wts K H L f d l wk) (s : Same H H') : Wts K H' L f d l wk:=λ k hk=>⟨(h k hk).1,λ v hv=>((h k hk).2 v hv).same s⟩
structure Br (X : Int × Int) (a b : Int) : Prop where
 a1 : 1 <= a
 b1 : 1 <= b
 ab : a <= X.1
 bb : b <= X.2
 cr : a * X.2 = X.1 * b
theorem sum_take (xs : List Nat) (j : Nat) : (xs.take j).sum <= xs.sum:=by
 conv=>rhs; rw [← List.take_append_drop j xs,List.sum_append]
 omega
def chW (L M : List Nat) (f d : Nat) (l kn : List Nat) : Int × Int:=prodW (M.map λ c=>wv L f d l l.length (d - (kn.length + 1)) (kn ++ [c]))
theorem chW_ok {L : List Nat} {f d : Nat} {l : List Nat} (S : Sm L f d l) {kn : List Nat} (hk : kn.length < d) (j : Nat) : P2 (chW L (L.take j) f d l kn) 8900:=by
 have h:=prodW_ok (ab:=(L.take j).map λ c=>wv L f d l l.length (d - (kn.length + 1)) (kn ++ [c])) (es:=(L.take j).map λ c=>wb (d - (kn.length + 1)) (sg f d l (kn ++ [c]) l.length).length) (by simp) λ i x e hx he=>by
  rw [List.getElem?_map] at hx he
  cases hc : (L.take j)[i]? with
  | none=>rw [hc] at hx; cases hx
  | some c=>rw [hc] at hx he; cases hx; cases he; exact wv_ok S (Nat.le_refl _) _ _ (by rw [List.length_append,List.length_singleton]; omega)
 refine P2.mono h ?_
 have h1:=sum_take (L.map λ c=>wb (d - (kn.length + 1)) (sg f d l (kn ++ [c]) l.length).length) j
 rw [← List.map_take,sum_wb (d - (kn.length + 1)) (λ c=>(sg f d l (kn ++ [c]) l.length).length) L,sg_part S.nd S.fm S.al hk _ (Nat.le_refl _)] at h1
 refine Nat.le_trans h1 ?_
 exact wb_le S (by omega) (sg_le f d l kn l.length)
theorem chW_step (L M : List Nat) (f d : Nat) (l kn : List Nat) (c : Nat) : chW L (M ++ [c]) f d l kn = ((chW L M f d l kn).1 * (wv L f d l l.length (d - (kn.length + 1)) (kn ++ [c])).1,(chW L M f d l kn).2 * (wv L f d l l.length (d - (kn.length + 1)) (kn ++ [c])).2):=by
 unfold chW prodW
 rw [List.map_append,List.map_append,List.map_append,prodI_app,prodI_app]
 show (_ * (_ * 1),_ * (_ * 1)) = _
 rw [Int.mul_one,Int.mul_one]
theorem Br.step {X : Int × Int} {a b n d A B : Int} (h : Br X a b) (n0 : 0 < n) (d0 : 0 < d) (l1 : n <= A) (l2 : d <= B) (cr : n * B = A * d) : Br (X.1 * A,X.2 * B) (a * n) (b * d):=by
 have h1:=h.a1
 have h2:=h.b1
 have h3:=h.ab
 have h4:=h.bb
 refine ⟨Int.mul_pos (by omega) n0,Int.mul_pos (by omega) d0,Int.mul_le_mul h3 l1 (by omega) (by omega),Int.mul_le_mul h4 l2 (by omega) (by omega),?_⟩
 show a * n * (X.2 * B) = X.1 * A * (b * d)
 calc a * n * (X.2 * B) = (a * X.2) * (n * B):=by rw [Int.mul_assoc,Int.mul_assoc,← Int.mul_assoc n,Int.mul_comm n X.2,Int.mul_assoc X.2]
  _ = (X.1 * b) * (A * d):=by rw [h.cr,cr]
  _ = X.1 * A * (b * d):=by rw [Int.mul_assoc,Int.mul_assoc,← Int.mul_assoc b,Int.mul_comm b A,Int.mul_assoc A]
theorem i_lt {a X : Int} {e : Nat} (h1 : 1 <= a) (h2 : a <= X) (h3 : X <= 2 ^ e) : a.natAbs < 2 ^ (e + 1):=by
 have : X < 2 ^ (e + 1):=by rw [Int.pow_succ]; have:=ipow_pos e; omega
 exact abs_lt (by omega) h2 this
def spBranches (K : PySem.W.Frag) : Sp:=λ vs H Q _=>∃ (p wt : Addr) (f : Nat) (L l kn : List Nat) (d : Nat) (wk : List (Key × V)),vs = [.ref p,.ref wt,vt kn] /\ SqT K H p [vt (f :: L),.int d] /\ Sm (f :: L) f d l /\ kn.length < d /\ H wt = some (.dK wk) /\ Wts K H (f :: L) f d l wk /\ ∀ r H' a b,Same H H' -> H' r = some (.tup [.int a,.int b]) -> Br (chW (f :: L) (f :: L) f d l kn) a b -> Q (.ref r) H'
theorem ok_Qk (T : Txt K mg t) : FnOk P w K mg base (CX1 P w) 1 t.a_Qk t.fd_Qk ["frame", "weights", "knot"] (spBranches K):=by
 refine T.F_Qk.okn (k:=0) sc_Qk (λ vs H Q E h=>?_) (λ cdv A outer s H vs Q E hr h=>?_)
 ·obtain ⟨p,wt,f,L,l,kn,d,wk,rfl,_⟩:=h; rfl
 obtain ⟨p,wt,f,L,l,kn,d,wk,rfl,hp,S,hk,hw,wts,q⟩:=h
 have d6:=S.d6
 have l6:=S.l6
 have zL : (f :: L).length <= sizeLine:=by rw [sizeLine_eq]; omega
 refine ⟨_,(pss_cons (ps_set (i:=3) sc_Qk.nd rfl (Or.inl rfl) pe_int)
  (pss_cons (ps_set (i:=4) sc_Qk.nd rfl (Or.inl rfl) pe_int)
  (pss_cons (ps_for PassesOwn.never rfl (piAny (pe_ix ixAny (pv 0) pe_int (λ _ _=>rfl))) (pg_name (i:=5) sc_Qk.nd rfl (Or.inl rfl)) (pss_cons (ps_set (i:=6) sc_Qk.nd rfl (Or.inl rfl) (pe_dget2 (hu_of hr) (pv 1) (pe_op oAddN (pv 2) (pv 5)) (pe_tup (PAs.h (pas_cons pe_int (pas_cons pe_int pas_nil)))) ⟨rfl,rfl,rfl,rfl⟩))
  (pss_cons (ps_set (i:=3) sc_Qk.nd rfl (Or.inl rfl) (pe_op oMulN (pv 3) (pe_ix ixAny (pv 6) pe_int (λ _ _=>rfl))))
  (pss_one (ps_set (i:=4) sc_Qk.nd rfl (Or.inl rfl) (pe_op oMulN (pv 4) (pe_ix ixAny (pv 6) pe_int (λ _ _=>rfl))))))))
  (pss_one (ps_ret (pe_tup (PAs.h (pas_cons (pv 3) (pas_cons (pv 4) pas_nil))))))))),?_⟩
 refine ⟨_,rfl,.inr (.inl ⟨p,_,0,_,rfl,rfl,hp,rfl,.inr (.inr ⟨_,rfl,?_⟩)⟩)⟩
 refine for_walk (walk_tx (f :: L)) (λ j σ H'=>∃ (a b : Int) (r5 r6 : Option V),σ = [some (.ref p),some (.ref wt),some (vt kn),some (.int a),some (.int b),r5,r6] /\ Same H H' /\ Br (chW (f :: L) ((f :: L).take j) f d l kn) a b) ⟨1,1,_,_,rfl,Same.refl _,⟨by decide,by decide,Int.le_refl 1,Int.le_refl 1,rfl⟩⟩ (λ _ _ _ _ _=>trivial) ?_ ?_
 ·rintro j x _ H1 hx ⟨a,b,r5,r6,rfl,g1,br⟩
  obtain ⟨c,hcj,rfl⟩:=sign_at hx
  have hkc : (kn ++ [c]).length <= d:=by rw [List.length_append,List.length_singleton]; omega
  have ed : d - (kn ++ [c]).length = d - (kn.length + 1):=by rw [List.length_append,List.length_singleton]
  obtain ⟨w1,w2⟩:=(wts.same g1) (kn ++ [c]) hkc
  rw [ed] at w2
  have hP:=chW_ok S hk j
  have hst:=chW_step (f :: L) ((f :: L).take j) f d l kn c
  have htk : (f :: L).take (j + 1) = (f :: L).take j ++ [c]:=by rw [List.take_add_one,hcj]; rfl
  have hW:=(wv_ok S (Nat.le_refl l.length) (d - (kn.length + 1)) (kn ++ [c]) (by rw [List.length_append,List.length_singleton]; omega)).mono (wb_le S (by omega) (sg_le f d l (kn ++ [c]) l.length))
  have hw1:=g1 _ _ hw
  refine ⟨_,rfl,wt,rfl,.inl ⟨wk,.inl hw1⟩,_,rfl,_,rfl,.inr (.inl (catX (by rw [sizeLine_eq]; show _ + 1 <= _; omega) ?_))⟩
  refine ⟨by rw [sizeLine_eq]; show 2 <= _; decide,λ u hu=>?_⟩
  refine ⟨valV wk (key (kn ++ [c])),DGet.k (k:=key (kn ++ [c])) (new_at hu hw1),?_⟩
  have g2:=same_new hu (.tup [.int 1,.int 1])
  have hF : FrV K (upd H1 u (.tup [.int 1,.int 1])) ((valV wk (key (kn ++ [c]))).getD (.ref u)) (wv (f :: L) f d l l.length (d - (kn.length + 1)) (kn ++ [c])).1 (wv (f :: L) f d l l.length (d - (kn.length + 1)) (kn ++ [c])).2:=by
   cases z : valV wk (key (kn ++ [c])) with
   | none =>
     rw [wv_unseen (w1 z)]
     exact ⟨u,1,1,rfl,SqT.of upd_same,by decide,by decide,rfl,rfl,Int.le_refl _,Int.le_refl _⟩
   | some v=>exact (w2 v z).same g2
  generalize upd H1 u (.tup [.int 1,.int 1]) = H2 at g2 hF ⊢
  obtain ⟨pq,n,dd,ev,hq,n0,d0,cr,gc,l1,l2⟩:=hF
  rw [ev]
  refine ⟨_,rfl,_,rfl,ixT hq rfl (.inl ⟨_,_,rfl,rfl,mulB (pow_lt (i_lt br.a1 br.ab hP.ab) (by decide)) (pow_lt (i_lt (by omega) l1 hW.ab) (by decide)),?_⟩)⟩
  refine ⟨_,rfl,_,rfl,ixT hq rfl (.inl ⟨_,_,rfl,rfl,mulB (pow_lt (i_lt br.b1 br.bb hP.bb) (by decide)) (pow_lt (i_lt (by omega) l2 hW.bb) (by decide)),?_⟩)⟩
  refine ⟨_,_,_,_,rfl,g1.trans g2,?_⟩
  rw [htk,hst]
  exact br.step n0 d0 l1 l2 cr
 ·rintro _ H1 ⟨a,b,r5,r6,rfl,g1,br⟩
  rw [List.length_map,List.take_length] at br
  exact ⟨_,rfl,_,rfl,by rw [sizeLine_eq]; show 2 <= _; decide,λ r hr0=>q r _ a b (g1.trans (same_new hr0 _)) upd_same br⟩
def spPair (K : PySem.W.Frag) : Sp:=λ vs H Q _=>∃ (x : V) (A B : Int),vs = [x] /\ FrV K H x A B /\ Q (.bl true) H
theorem ok_Qbh (T : Txt K mg t) : FnOk P w K mg base (CX1 P w) 2 t.a_Qbh t.fd_Qbh ["thing"] (spPair K):=by
 refine T.F_Qbh.okn (k:=1) sc_Qbh (λ vs H Q E h=>?_) (λ cdv A outer s H vs Q E hr h=>?_)
 ·obtain ⟨x,a,b,rfl,_⟩:=h; rfl
 obtain ⟨_,a,b,rfl,⟨p,n,d,rfl,hq,_⟩,q⟩:=h
 have G_Qbb:=@ok_Qbb P w K mg base t T
 refine ⟨_,(pss_one (ps_ret (pe_and (pe_callB isiAnyT rfl T.m_isinstance bt_isinstance (PAs.h (pas_cons (pv 0) (pas_cons (pe_bltn (v:=.ty "tuple") rfl T.m_tuple bt_tuple rfl) pas_nil)))) (pe_and (pe_cmpR (oEqA (hr.units0)) (pe_callB call_len rfl T.m_len bt_len (pa_cons (pv 0) pa_nil)) pe_int (nomark _)) (pe_and (pe_call G_Qbb hr rfl T.m_Qbb T.F_Qbb.kp T.b_Qbb .nil pass1 (pa_cons (pe_ix ixAny (pv 0) pe_int (λ _ _=>rfl)) pa_nil)) (pe_one (pe_call G_Qbb hr rfl T.m_Qbb T.F_Qbb.kp T.b_Qbb .nil pass1 (pa_cons (pe_ix ixAny (pv 0) pe_int (λ _ _=>rfl)) pa_nil)))))))),?_⟩
 refine ⟨_,rfl,.inr ⟨p,_,rfl,hq,true,rfl,iteT ?_⟩⟩
 refine ⟨_,rfl,_,_,rfl,.inr ⟨_,hq,rfl⟩,.inl ⟨rfl,_,rfl,ifT rfl ?_⟩⟩
 refine ⟨_,rfl,ixT hq rfl ⟨_,_,true,false,rfl,.int _,kit_same K _,kit_int_bool K,true,rfl,iteT ?_⟩⟩
 exact ⟨_,rfl,ixT hq rfl ⟨_,_,true,false,rfl,.int _,kit_same K _,kit_int_bool K,q⟩⟩
theorem wo_law {L : List Nat} {f d : Nat} {l kn : List Nat} (S : Sm L f d l) : (wo L f d l l.length kn) = (twN (sg f d l kn l.length) (sg f d l kn l.length).length,botW L.length (sg f d l kn l.length).length):=by
 unfold wo
 rw [twN_sg S.nd S.al _ (Nat.le_refl _),sg_len S.nd S.al _ (Nat.le_refl _)]
def spRow (K : PySem.W.Frag) : Sp:=λ vs H Q _=>∃ (p cm wt : Addr) (x : V) (f : Nat) (L l kn : List Nat) (d : Nat) (ck wk : List (Key × V)),vs = [.ref p,.ref cm,.ref wt,x] /\ SqT K H p [vt (f :: L),.int d] /\ Sm (f :: L) f d l /\ l.length <= 110 /\ kn.length <= d /\ seen f d l kn l.length = true /\ H cm = some (.dK ck) /\ VK1 f d l ck kn l.length /\ H wt = some (.dK wk) /\ Wts K H (f :: L) f d l wk /\ RowAt K H (f :: L) f d l x kn /\ ∀ H',Same H H' -> Q (.bl true) H'
theorem ok_Qbl (T : Txt K mg t) : FnOk P w K mg base (CX1 P w) 3 t.a_Qbl t.fd_Qbl ["frame", "came", "weights", "row"] (spRow K):=by
 refine T.F_Qbl.okn (k:=2) sc_Qbl (λ vs H Q E h=>?_) (λ cdv A outer s H vs Q E hr h=>?_)
 ·obtain ⟨p,cm,wt,x,f,L,l,kn,d,ck,wk,rfl,_⟩:=h; rfl
 obtain ⟨p,cm,wt,x,f,L,l,kn,d,ck,wk,rfl,hp,S,hll,hkd,hsn,hcm,hvk,hw,wts,⟨e,y,z,rfl,he,hy,hz⟩,q⟩:=h
 have G_Qbc:=(@ok_Qbc P w K mg base t T).mono (show 1 <= 2 by decide)
 have G_Qj:=@ok_Qj P w K mg base t T
 have G_Qk:=(@ok_Qk P w K mg base t T).mono (show 1 <= 2 by decide)
 have d6:=S.d6
 have l6:=S.l6
 have zL : (f :: L).length <= sizeLine:=by rw [sizeLine_eq]; omega
 have zk : kn.length <= sizeLine:=by rw [sizeLine_eq]; omega
 have hE : SqT K H e [vt kn,y,z]:=SqT.of he
 have hsl:=sg_le f d l kn l.length
 have ew:=wo_law (kn:=kn) S
 have hwo:=(wo_P2 S (Nat.le_refl l.length) kn).mono (show 17 * (sg f d l kn l.length).length <= 8900 by have:=wb_le S (r:=0) (Nat.zero_le d) (sg_le f d l kn l.length); unfold wb at this; omega)
 have lt8 : ∀ x : Int,x <= 2 ^ 8900 -> x < 2 ^ 8990:=λ x hx=>by
  have h1 : (2 : Int) ^ 8990 = 2 ^ 8900 * 2 ^ 90:=by rw [← Int.pow_add]
  have h2:=ipow_pos 8900
  have h3 : (2 : Int) <= 2 ^ 90:=by decide
  have h4:=Int.mul_le_mul_of_nonneg_left h3 (show (0 : Int) <= 2 ^ 8900 by omega)
  rw [h1]; omega
 refine ⟨_,(pss_cons (ps_set (i:=4) sc_Qbl.nd rfl (Or.inl rfl) (pe_ix ixAny (pv 3) pe_int (λ _ _=>rfl)))
  (pss_cons (ps_set (i:=5) sc_Qbl.nd rfl (Or.inl rfl) (pe_call G_Qbc hr rfl T.m_Qbc T.F_Qbc.kp T.b_Qbc .nil pass1 (PAs.h (pas_cons (pe_dget (hu_of hr) (pv 1) (pv 4) (λ _ _=>rfl)) (pas_cons (pe_callB call_len rfl T.m_len bt_len (pa_cons (pe_ix ixAny (pv 0) pe_int (λ _ _=>rfl)) pa_nil)) pas_nil)))))
  (pss_cons (ps_if (pt_not (pt_val (pe_call G_Qj hr rfl T.m_Qj T.F_Qj.kp T.b_Qj .nil pass1 (PAs.h (pas_cons (pe_ix ixAny (pv 3) pe_int (λ _ _=>rfl)) (pas_cons (pe_ix ixAny (pv 5) pe_int (λ _ _=>rfl)) (pas_cons (pe_ix ixAny (pv 5) pe_int (λ _ _=>rfl)) pas_nil))))))) (pss_one (ps_ret pe_bl)) pss_nil)
  (pss_cons (ps_if (pt_cmpR (oEqA (hr.units0)) (pe_callB call_len rfl T.m_len bt_len (pa_cons (pv 4) pa_nil)) (pe_ix ixAny (pv 0) pe_int (λ _ _=>rfl)) (nomark _)) (pss_one (ps_ret (pe_call G_Qj hr rfl T.m_Qj T.F_Qj.kp T.b_Qj .nil pass1 (PAs.h (pas_cons (pe_ix ixAny (pv 3) pe_int (λ _ _=>rfl)) (pas_cons (pe_ix ixAny (pv 5) pe_int (λ _ _=>rfl)) (pas_cons (pe_ix ixAny (pv 5) pe_int (λ _ _=>rfl)) pas_nil))))))) pss_nil)
  (pss_cons (ps_set (i:=6) sc_Qbl.nd rfl (Or.inl rfl) (pe_call G_Qk hr rfl T.m_Qk T.F_Qk.kp T.b_Qk .nil pass1 (PAs.h (pas_cons (pv 0) (pas_cons (pv 2) (pas_cons (pv 4) pas_nil))))))
  (pss_cons (ps_set (i:=7) sc_Qbl.nd rfl (Or.inl rfl) (pe_op oAddN (pe_op oMulN (pe_ix ixAny (pe_ix ixAny (pv 3) pe_int (λ _ _=>rfl)) pe_int (λ _ _=>rfl)) (pe_ix ixAny (pv 6) pe_int (λ _ _=>rfl))) (pe_op oMulN (pe_ix ixAny (pv 6) pe_int (λ _ _=>rfl)) (pe_ix ixAny (pe_ix ixAny (pv 3) pe_int (λ _ _=>rfl)) pe_int (λ _ _=>rfl)))))
  (pss_one (ps_ret (pe_call G_Qj hr rfl T.m_Qj T.F_Qj.kp T.b_Qj .nil pass1 (PAs.h (pas_cons (pe_ix ixAny (pv 3) pe_int (λ _ _=>rfl)) (pas_cons (pv 7) (pas_cons (pe_op oMulN (pe_op oMulN pe_int (pe_ix ixAny (pe_ix ixAny (pv 3) pe_int (λ _ _=>rfl)) pe_int (λ _ _=>rfl))) (pe_ix ixAny (pv 6) pe_int (λ _ _=>rfl))) pas_nil))))))))))))),?_⟩
 refine ⟨_,rfl,ixT hE rfl ?_⟩
 have dg : DGet H cm (vt kn) (some (vt (sg f d l kn l.length))):=by rw [← hvk.1 hsn]; exact DGet.k (k:=key kn) hcm
 refine ⟨_,rfl,_,rfl,cm,_,rfl,dg,?_⟩
 refine ⟨_,rfl,ixT hp rfl ⟨_,_,rfl,lenvS zL,?_⟩⟩
 refine ⟨sg f d l kn l.length,(f :: L).length,rfl,by omega,by omega,λ wd hwd=>?_⟩
 have g1:=same_new hwd (.tup [.int (twN (sg f d l kn l.length) (sg f d l kn l.length).length),.int (botW (f :: L).length (sg f d l kn l.length).length)])
 have e1 : SqT K (upd H wd (.tup [.int (twN (sg f d l kn l.length) (sg f d l kn l.length).length),.int (botW (f :: L).length (sg f d l kn l.length).length)])) wd [.int (wo (f :: L) f d l l.length kn).1,.int (wo (f :: L) f d l l.length kn).2]:=by rw [ew]; exact SqT.of upd_same
 generalize upd H wd (.tup [.int (twN (sg f d l kn l.length) (sg f d l kn l.length).length),.int (botW (f :: L).length (sg f d l kn l.length).length)]) = H1 at g1 e1 ⊢
 have hE1:=same_tup g1 hE
 have hp1:=same_tup g1 hp
 refine ⟨_,rfl,ixT hE1 rfl ⟨_,rfl,ixT e1 rfl ⟨_,rfl,ixT e1 rfl ⟨y,_,_,rfl,hy.same g1,lt8 _ hwo.ab,lt8 _ hwo.bb,true,rfl,iteF ?_⟩⟩⟩⟩
 refine ⟨_,rfl,_,_,rfl,lenvS zk,_,rfl,ixT hp1 rfl (.inl ⟨rfl,_,rfl,if2 (λ c=>?_) (λ c=>?_)⟩)⟩
 ·have hkd' : kn.length = d:=by have:=V.int.inj c; omega
  rw [show d - kn.length = 0 by omega] at hz
  exact ⟨_,rfl,ixT hE1 rfl ⟨_,rfl,ixT e1 rfl ⟨_,rfl,ixT e1 rfl ⟨z,_,_,rfl,hz.same g1,lt8 _ hwo.ab,lt8 _ hwo.bb,q _ g1⟩⟩⟩⟩
 have hkd' : kn.length < d:=by
  rcases Nat.lt_or_ge kn.length d with h | h
  ·exact h
  ·exact absurd (congrArg V.int (show ((kn.length : Nat) : Int) = (d : Int) by omega)) c
 refine ⟨_,rfl,_,rfl,_,rfl,p,wt,f,L,l,kn,d,wk,rfl,hp1,S,hkd',g1 _ _ hw,wts.same g1,λ r H2 m0 m1 g2 er br=>?_⟩
 have hE2:=same_tup g2 hE1
 have eR : SqT K H2 r [.int m0,.int m1]:=SqT.of er
 obtain ⟨py,x1,x2,ey,hyq,x10,x20,xcr,xgc,xl1,xl2⟩:=(hy.same g1).same g2
 have hzz:=(hz.same g1).same g2
 have ed : d - kn.length = (d - (kn.length + 1)) + 1:=by omega
 have hP:=chW_ok S hkd' (f :: L).length
 rw [List.take_length] at hP
 have hmx : wv (f :: L) f d l l.length (d - kn.length) kn = mixW (wo (f :: L) f d l l.length kn) (chW (f :: L) (f :: L) f d l kn):=by rw [ed,wv_seen hsn]; rfl
 have hPw:=(wv_ok S (Nat.le_refl l.length) (d - kn.length) kn (by omega)).mono (wb_le S (by omega) hsl)
 rw [hmx] at hzz hPw
 generalize wo (f :: L) f d l l.length kn = wa at *
 generalize chW (f :: L) (f :: L) f d l kn = wb' at *
 obtain ⟨a1,a2⟩:=wa
 obtain ⟨b1,b2⟩:=wb'
 obtain ⟨r1,r2,r3,r4,r5⟩:=br
 obtain ⟨w1,w2,w3,w4⟩:=hwo
 obtain ⟨v1,v2,v3,v4⟩:=hP
 obtain ⟨u1,u2,u3,u4⟩:=hPw
 unfold mixW at hzz u1 u2 u3 u4
 dsimp only at *
 have p1 : x1 * m1 <= a1 * b2:=Int.mul_le_mul xl1 r4 (by omega) (by omega)
 have p2 : m0 * x2 <= b1 * a2:=Int.mul_le_mul r3 xl2 (by omega) (by omega)
 have p3 : x2 * m1 <= a2 * b2:=Int.mul_le_mul xl2 r4 (by omega) (by omega)
 have q1 : 0 < x1 * m1:=Int.mul_pos x10 (by omega)
 have q2 : 0 < m0 * x2:=Int.mul_pos (by omega) x20
 have q3 : 0 < x2 * m1:=Int.mul_pos x20 (by omega)
 have hx1:=i_lt (show 1 <= x1 by omega) xl1 w3
 have hx2:=i_lt (show 1 <= x2 by omega) xl2 w4
 have hm0:=i_lt r1 r3 v3
 have hm1:=i_lt r2 r4 v4
 rw [ey] at hE2
 have h2x : (2 * x2).natAbs < 2 ^ (8901 + 1):=i_lt (show 1 <= 2 * x2 by omega) (show 2 * x2 <= 2 * a2 by omega) (by rw [Int.pow_succ]; omega)
 refine ⟨_,rfl,ixT hE2 rfl (ixT hyq rfl ⟨_,rfl,ixT eR rfl (.inl ⟨_,_,rfl,rfl,mulB (pow_lt hx1 (by decide)) (pow_lt hm1 (by decide)),?_⟩)⟩)⟩
 refine ⟨_,rfl,ixT eR rfl ⟨_,rfl,ixT hE2 rfl (ixT hyq rfl (.inl ⟨_,_,rfl,rfl,mulB (pow_lt hm0 (by decide)) (pow_lt hx2 (by decide)),.inl ⟨_,_,rfl,rfl,?_⟩⟩))⟩⟩
 refine ⟨_,rfl,ixT hE2 rfl ⟨_,rfl,_,rfl,ixT hE2 rfl (ixT hyq rfl (.inl ⟨_,_,rfl,rfl,mulL (by decide) (by decide),?_⟩))⟩⟩
 refine ⟨_,rfl,ixT eR rfl (.inl ⟨_,_,rfl,rfl,mulB (pow_lt h2x (by decide)) (pow_lt hm1 (by decide)),?_⟩)⟩
 refine ⟨z,_,_,rfl,hzz.conv (A':=x1 * m1 + m0 * x2) (B':=2 * x2 * m1) (by omega) (by rw [Int.mul_assoc]; omega) ?_,lt8 _ (by omega),lt8 _ (by rw [Int.mul_assoc]; omega),q _ (g1.trans g2)⟩
 grind
theorem vts_flat (ls : List (List Nat)) : (ls.map vt).all flatV = true:=by rw [List.all_map]; exact List.all_eq_true.mpr λ _ _=>rfl
def lamPosA (st : Stmt) : Pos:=match (defBody st).getD 4 (.Pass ⟨0,0,0,0⟩) with
 | .Assign _ (.Call _ _ [⟨_,.Lambda _ _ _ p,_⟩] _) _=>p
 | _=>⟨0,0,0,0⟩
abbrev lpW : Pos:=lamPosA s_Qv
abbrev qlW : Str:=("_law_walked" : Str) ++ ".<locals>." ++ "<lambda>"
abbrev TW (T1 : Addr) (H : Hp) : Prop:=TB T1 lpW qlW H
def spWalked (K : PySem.W.Frag) (T1 : Addr) : Sp:=λ vs H Q _=>∃ (p r : Addr) (f : Nat) (L l : List Nat) (d : Nat) (ls : List (List Nat)) (rows : List V),vs = [.ref p,vt l,.ref r] /\ SqT K H p [vt (f :: L),.int d] /\ Sm (f :: L) f d l /\ l.length <= 110 /\ Kns (f :: L) f d l ls /\ H r = some (.lst rows) /\ Rows K H (f :: L) f d l ls rows /\ TW T1 H /\ ∀ H',SameT T1 H H' -> Q (.bl true) H'
theorem ok_Qv {c1 T1 : Addr} (T : Txt K mg t) (Y1 : TabX K mg base "_law_walked" c1 T1) : FnOk P w K mg base (CX1 P w) 5 t.a_Qv t.fd_Qv ["frame", "text", "paper"] (spWalked K T1):=by
 refine T.F_Qv.okc (k:=4) sc_Qv (λ vs H Q E h=>?_) (λ cdv A outer s H vs Q E hcd hr h=>?_)
 ·obtain ⟨p,r,f,L,l,d,ls,rows,rfl,_⟩:=h; rfl
 obtain ⟨p,r,f,L,l,d,ls,rows,rfl,hp,S,hll,kns,er,⟨hrl,hrow⟩,hTW,q⟩:=h
 have hcode:=hcd.symm.trans (Y1.code T.m_Qv T.F_Qv)
 subst hcode
 have G_Qbh:=(@ok_Qbh P w K mg base t T).mono (show 2 <= 4 by decide)
 have G_Qbg:=(@ok_Qbg P w K mg base t T).mono (show 2 <= 4 by decide)
 have G_Qbl:=(@ok_Qbl P w K mg base t T).mono (show 3 <= 4 by decide)
 have d6:=S.d6
 have l6:=S.l6
 have hlsl:=kns.len
 have at_row : ∀ (i : Nat) x,rows[i]? = some x -> ∃ kn,ls[i]? = some kn /\ RowAt K H (f :: L) f d l x kn:=λ i x hx=>by
  have hi:=(List.getElem?_eq_some_iff.mp hx).1
  exact ⟨ls[i],List.getElem?_eq_getElem (by omega),hrow i _ x (List.getElem?_eq_getElem (by omega)) hx⟩
 refine' ⟨_,(pss_cons (ps_if (pt_not (pt_val (pe_callB isiAnyT rfl T.m_isinstance bt_isinstance (PAs.h (pas_cons (pv 2) (pas_cons (pe_bltn (v:=.ty "list") rfl T.m_list bt_list rfl) pas_nil)))))) (pss_one (ps_ret pe_bl)) pss_nil)
  (pss_cons (ps_set (i:=3) sc_Qv.nd rfl (Or.inr rfl) pe_dnewK)
  (pss_cons (ps_for PassesOwn.never rfl (piAny (pv 2)) (pg_name (i:=4) sc_Qv.nd rfl (Or.inl rfl)) (pss_cons (ps_if (PW.pt (pw_or (pt_not (pt_val (pe_callB isiAnyT rfl T.m_isinstance bt_isinstance (PAs.h (pas_cons (pv 4) (pas_cons (pe_bltn (v:=.ty "tuple") rfl T.m_tuple bt_tuple rfl) pas_nil)))))) (pw_or (pt_cmpR (oNeN (hr.units0)) (pe_callB call_len rfl T.m_len bt_len (pa_cons (pv 4) pa_nil)) pe_int (nomark _)) (pw_or (pt_not (pt_val (pe_callB isiAnyT rfl T.m_isinstance bt_isinstance (PAs.h (pas_cons (pe_ix ixAny (pv 4) pe_int (λ _ _=>rfl)) (pas_cons (pe_bltn (v:=.ty "str") rfl T.m_str bt_str rfl) pas_nil)))))) (pw_or1 (pt_not (pt_val (pe_call G_Qbh hr rfl T.m_Qbh T.F_Qbh.kp T.b_Qbh .nil pass1 (pa_cons (pe_ix ixAny (pv 4) pe_int (λ _ _=>rfl)) pa_nil))))))))) (pss_one (ps_ret pe_bl)) pss_nil)
  (pss_one (ps_dput (hu_of hr) (pv 3) (pe_ix ixAny (pv 4) pe_int (λ _ _=>rfl)) (pe_ix ixAny (pv 4) pe_int (λ _ _=>rfl)) rfl))))
  (pss_cons (ps_set (i:=5) sc_Qv.nd rfl (Or.inr rfl) (pe_call G_Qbg hr rfl T.m_Qbg T.F_Qbg.kp T.b_Qbg .nil pass1 (PAs.h (pas_cons (pv 0) (pas_cons (pv 1) pas_nil)))))
  (pss_cons (ps_set (i:=6) sc_Qv.nd rfl (Or.inl rfl) (pe_sortKD (x := "knot") (y := "frame") (i0:=0) (rk:=rkL (f :: L)) hr.in1.in1.units0 hr.in1.in1.depth rfl rfl T.m_sorted (pa_cons (pv 5) pa_nil) rfl (λ cc h=>by have h' : some _ = some cc:=h; cases h'; rfl) rfl rfl rfl Y1.hd Y1.bm rfl rfl rfl rfl rfl (by decide +kernel) (λ z hz=>(show ∀ p ∈ ([("knot",.local),("frame",.free)] : List (Str × NameKind)),p.2 = .free -> p.1 = "frame" by decide +kernel) _ (PySem.mem_of_lookup hz) rfl) (by decide +kernel) (λ _ _ _ _ _=>rfl) ?hb))
  (pss_cons (ps_if (pt_cmpR (oNeN (hr.units0)) (pe_lc (compSc_of (N:=["row"]) (cap:=[none]) (by kernel_rfl)) rfl (piAny (pv 2)) ⟨λ _=>(pg_name (i:=0) (show List.Nodup (["row"] : List Str) by decide +kernel) rfl (Or.inl rfl)),λ _=>pf_nil,λ _=>(pe_ix ixAny (pv 0) pe_int (λ _ _=>rfl))⟩) (pv 6) (nomark _)) (pss_one (ps_ret pe_bl)) pss_nil)
  (pss_one (ps_ret (pe_callB (callAll rfl) rfl T.m_all bt_all (pa_cons (pe_lc (compSc_of (N:=["row", "frame", "weights", "came"]) (cap:=[none,some 0,some 3,some 5]) (by kernel_rfl)) rfl (piAny (pv 2)) ⟨λ _=>(pg_name (i:=0) (show List.Nodup (["row", "frame", "weights", "came"] : List Str) by decide +kernel) rfl (Or.inl rfl)),λ _=>pf_nil,λ _=>(pe_call G_Qbl hr rfl T.m_Qbl T.F_Qbl.kp T.b_Qbl .nil pass1 (PAs.h (pas_cons (pv 1) (pas_cons (pv 3) (pas_cons (pv 2) (pas_cons (pv 0) pas_nil))))))⟩) pa_nil)))))))))),?main⟩
 case hb=>exact λ f' c' cl' s' H'=>pe_lc (compSc_of (N:=["sign", "frame"]) (cap:=[none,some 1]) (by kernel_rfl)) rfl (piAny (pv 0)) ⟨λ _=>(pg_name (i:=0) (show List.Nodup (["sign", "frame"] : List Str) by decide +kernel) rfl (Or.inl rfl)),λ _=>pf_nil,λ _=>(pe_bm PySem.F.plainAttrs_str PySem.F.slot_str_find PySem.F.type_str_find mt_find (pe_ix ixAny (pv 1) pe_int (λ _ _=>rfl)) (pa_cons (pv 0) pa_nil))⟩
 refine ⟨_,rfl,.inl (.inl ⟨_,_,_,true,rfl,.lst er,kit_same K _,true,rfl,iteF ?_⟩)⟩
 refine λ wt hwt=>?_
 refine ⟨_,rfl,.inl ⟨r,_,rfl,SqL.of (new_at hwt er),?_⟩⟩
 refine for_walk walk_list (λ i σ H'=>∃ (wk : List (Key × V)) (r4 r5 r6 : Option V),σ = [some (.ref p),some (vt l),some (.ref r),some (.ref wt),r4,r5,r6] /\ Same H H' /\ H' wt = some (.dK wk) /\ wk.length <= i /\ (∀ k,valV wk (key k) = none -> k ∉ ls.take i) /\ ∀ k v,valV wk (key k) = some v -> FrV K H' v (wv (f :: L) f d l l.length (d - k.length) k).1 (wv (f :: L) f d l l.length (d - k.length) k).2) ⟨[],_,_,_,rfl,same_new hwt _,upd_same,Nat.le_refl _,λ k _ h=>(nomatch h),λ k v h=>(nomatch h)⟩ (λ i σ H' _ ⟨_,_,_,_,_,g,_⟩=>SqL.of (g _ _ er)) ?_ ?_
 ·rintro i x _ H1 hx ⟨wk,r4,r5,r6,rfl,g1,ew,hwl,hw1,hw2⟩
  have hi:=(List.getElem?_eq_some_iff.mp hx).1
  obtain ⟨kn,hkn,e,y,z,rfl,he,hy,hz⟩:=at_row i x hx
  have hE : SqT K H1 e [vt kn,y,z]:=SqT.of (g1 _ _ he)
  refine ⟨_,rfl,.inr ⟨e,_,rfl,hE,true,rfl,iteF ?_⟩⟩
  refine ⟨_,rfl,_,_,rfl,.inr ⟨_,hE,rfl⟩,.inl ⟨rfl,_,rfl,ifnF rfl ?_⟩⟩
  refine ⟨_,rfl,ixT hE rfl (.inl (.inl ⟨_,_,_,true,rfl,.str _,kit_same K _,true,rfl,iteF ?_⟩))⟩
  refine ⟨_,rfl,ixT hE rfl ⟨z,_,_,rfl,hz.same g1,true,rfl,iteF ?_⟩⟩
  refine ⟨_,rfl,ixT hE rfl ⟨_,rfl,_,rfl,ixT hE rfl ⟨wt,_,rfl,DPut.k (k:=key kn) ew (by rw [sizeLine_eq]; omega),?_⟩⟩⟩
  have g2 : Same H (upd H1 wt (.dK (putK wk (key kn) z))):=over_same hwt g1
  refine ⟨_,_,_,_,rfl,g2,upd_same,by have:=length_putK wk (key kn) z; omega,λ k hk hm=>?_,λ k v hk=>?_⟩
  ·rw [valV_put] at hk
   by_cases zk : key k = key kn
   ·rw [if_pos zk] at hk; cases hk
   ·rw [if_neg zk] at hk
    rw [List.take_add_one,hkn] at hm
    rcases List.mem_append.mp hm with hm | hm
    ·exact hw1 k hk hm
    ·exact zk (by rw [show k = kn by simpa using hm])
  ·rw [valV_put] at hk
   by_cases zk : key k = key kn
   ·rw [if_pos zk] at hk; cases hk
    rw [key_inj zk]; exact hz.same g2
   ·rw [if_neg zk] at hk
    obtain ⟨pp,n0,d0,e0,hq,rest⟩:=hw2 k v hk
    refine ⟨pp,n0,d0,e0,?_,rest⟩
    rcases hq with (hq | ⟨o,hq⟩) | hq
    ·exact .inl (.inl (by rw [upd_ne (ne_of hq ew (λ z=>by cases z))]; exact hq))
    ·exact .inl (.inr ⟨o,by rw [upd_ne (ne_of hq ew (λ z=>by cases z))]; exact hq⟩)
    ·exact .inr hq
 rintro _ H1 ⟨wk,r4,r5,r6,rfl,g1,ew,hwl,hw1,hw2⟩
 rw [hrl,List.take_length] at hw1
 have wts : Wts K H1 (f :: L) f d l wk:=λ k hk=>⟨λ hv=>by
  cases hs : seen f d l k l.length with
  | false=>rfl
  | true=>exact absurd ((kns.mem k).mpr hs) (hw1 k hv),λ v hv=>hw2 k v hv⟩
 clear hw1 hw2 hwl
 refine ⟨_,rfl,_,rfl,p,f,L,l,d,rfl,same_tup g1 hp,l6,d6,hll,λ cm H2 ck g2 hcm ecm ko hcl hvk=>?_⟩
 obtain ⟨ks,hks,ksn⟩:=ko
 have hkv : (ck.map λ p=>kV p.1) = ks.map vt:=by
  have : (ck.map λ p=>kV p.1) = (ck.map λ p=>p.1).map kV:=by rw [List.map_map]; rfl
  rw [this,hks,List.map_map]; rfl
 have hmem : ∀ kn,kn ∈ ks ↔ kn ∈ ls:=λ kn=>by
  rw [keys_mem hks,kns.mem]
  cases hs : seen f d l kn l.length with
  | true=>rw [(hvk kn).1 hs]; rfl
  | false=>rw [(hvk kn).2 hs]; rfl
 have hlen : ks.length = ck.length:=by
  have:=congrArg List.length hks
  rw [List.length_map,List.length_map] at this; exact this.symm
 have g12:=g1.trans g2
 have hp2:=same_tup g12 hp
 have hTW2:=hTW.same g12
 refine ⟨_,rfl,cm,ck,ks,.ref p,rfl,ecm,hkv,by omega,hTW2,rfl,λ kn hkn f9 c9 cl9 s9 H3 sm3=>?_,λ rd ls2 H3 b1 b2 b3 b4 b5 b6=>?_⟩
 ·have hp3:=sqT_T hp2 hTW2.tbl sm3
  obtain ⟨hk1,hk2⟩:=seen_ok S.al ((kns.mem kn).mp ((hmem kn).mp hkn))
  refine ⟨_,rfl,.inr (.inr ⟨_,rfl,λ D hD cp=>?_⟩)⟩
  refine lc_vals (walk_tx kn) (caps:=[some (.ref p)]) (λ j v=>∃ c,kn[j]? = some c /\ v = .int (placeL (f :: L) c : Nat)) (λ _=>trivial) (by rw [List.length_map,sizeLine_eq]; omega) ?_ ?_
  ·intro i x ys C hx hC
   obtain ⟨c,hc,rfl⟩:=sign_at hx
   have hm : c ∈ f :: L:=hk2 c (List.mem_of_getElem? hc)
   refine ⟨_,rfl,ixT (new_tup hD hp3) rfl ⟨rfl,_,rfl,f :: L,c,rfl,rfl,hm,λ j hj=>?_⟩⟩
   rw [at_uniq S.nd (placeL_at hm) hj]
   exact hC _ ⟨c,hc,rfl⟩
  intro ys hy hR
  rw [List.length_map] at hy
  have e : ys = (rkL (f :: L) kn).map λ n=>V.int (Int.ofNat n):=by
   unfold rkL
   rw [List.map_map]
   refine List.ext_getElem? λ j=>?_
   rw [List.getElem?_map]
   by_cases hj : j < kn.length
   ·obtain ⟨c,hc,hv⟩:=hR j _ (List.getElem?_eq_getElem (show j < ys.length by omega))
    rw [List.getElem?_eq_getElem (show j < ys.length by omega),hv,hc]; rfl
   ·rw [List.getElem?_eq_none (by omega),List.getElem?_eq_none (by omega)]; rfl
  rw [e]
  exact ⟨D,rfl,hD,same_new hD _,upd_same⟩
 have el : ls2 = ls:=ord_one (λ kn h=>(seen_ok S.al ((kns.mem kn).mp ((hmem kn).mp (b1.mem_iff.mp h)))).2) b2 kns.ord (b1.nodup_iff.mpr ksn) kns.nd λ kn=>by rw [b1.mem_iff]; exact hmem kn
 subst el
 obtain ⟨ps,hps⟩:=hTW2.tbl
 have kp3 : ∀ x o,(∀ ps,o ≠ HO.tbl ps) -> H2 x = some o -> H3 x = some o:=λ x o hn e=>b3 x o (λ z=>by subst z; rw [hps] at e; cases e; exact hn _ rfl) e
 have er3:=kp3 _ _ (λ _ z=>by cases z) (g12 _ _ er)
 have row3 : ∀ (i : Nat) x,rows[i]? = some x -> ∃ kn,ls2[i]? = some kn /\ RowAt K H3 (f :: L) f d l x kn:=λ i x hx=>by
  obtain ⟨kn,h1,h2⟩:=at_row i x hx
  exact ⟨kn,h1,(h2.same g12).sameT ⟨ps,hps⟩ b3⟩
 refine ⟨_,rfl,.inl ⟨r,_,rfl,SqL.of er3,λ D hD cp=>?_⟩⟩
 refine lc_vals walk_list (caps:=[]) (λ j v=>∃ kn,ls2[j]? = some kn /\ v = vt kn) (λ ys=>SqL.of (new_at hD er3)) (by rw [hrl,sizeLine_eq]; omega) ?_ ?_
 ·intro i x ys C hx hC
  obtain ⟨kn,h1,e,y,z,rfl,he,_⟩:=row3 i x hx
  exact ⟨_,rfl,ixT (SqT.of (new_at hD he)) rfl (hC _ ⟨kn,h1,rfl⟩)⟩
 intro ys hy hR
 have ey : ys = ls2.map vt:=by
  refine List.ext_getElem? λ j=>?_
  rw [List.getElem?_map]
  by_cases hj : j < ls2.length
  ·obtain ⟨kn,h1,h2⟩:=hR j _ (List.getElem?_eq_getElem (show j < ys.length by omega))
   rw [List.getElem?_eq_getElem (show j < ys.length by omega),h2,h1]; rfl
  ·rw [List.getElem?_eq_none (by omega),List.getElem?_eq_none (by omega)]; rfl
 rw [ey]
 have g4:=same_new hD (.lst (ls2.map vt))
 refine ⟨_,rfl,.inr (.inr ⟨D,rd,_,_,rfl,rfl,SqL.of upd_same,SqL.of (g4 _ _ b5),vts_flat _,vts_flat _,_,rfl,?_⟩)⟩
 rw [eqVs_refl (vts_flat _)]
 refine iteF ?_
 generalize upd H3 D (.lst (ls2.map vt)) = H4 at g4 ⊢
 clear hR hy ey hD cp
 refine ⟨_,rfl,.inl ⟨r,_,rfl,SqL.of (g4 _ _ er3),λ D2 hD2 cp2=>?_⟩⟩
 have hp4:=same_tup g4 (sqT_T hp2 ⟨ps,hps⟩ b3)
 have ecm4:=g4 _ _ (kp3 _ _ (λ _ z=>by cases z) ecm)
 have ew4:=g4 _ _ (kp3 _ _ (λ _ z=>by cases z) (g2 _ _ ew))
 have wts4 : Wts K H4 (f :: L) f d l wk:=λ k hk=>⟨(wts k hk).1,λ v hv=>((((wts k hk).2 v hv).same g2).sameT ⟨ps,hps⟩ b3).same g4⟩
 refine lc_growF walk_list (caps:=[some (.ref p),some (.ref wt),some (.ref cm)]) hD2 (λ _=>true) (λ F x v=>v = .bl true) (λ F1 F2 x v up h=>h) (λ F s=>s.seq (SqL.of (g4 _ _ er3))) (by rw [hrl,sizeLine_eq]; omega) (λ i x F ys C hx s hy hC=>hC) ?_ ?_
 ·intro i x F ys C hx _ s5 hy hC
  obtain ⟨kn,h1,h2⟩:=row3 i x hx
  have hsn:=(kns.mem kn).mp (List.mem_of_getElem? h1)
  refine ⟨_,rfl,_,rfl,_,rfl,_,rfl,p,cm,wt,x,f,L,l,kn,d,ck,wk,rfl,same_tup s5 hp4,S,hll,(seen_ok S.al hsn).1,hsn,s5 _ _ ecm4,hvk kn,s5 _ _ ew4,wts4.same s5,(h2.same g4).same s5,λ F2 s6=>hC F2 _ s6 rfl⟩
 ·intro F vs s5 hy hn hR
  rw [List.filter_eq_self.mpr (λ _ _=>rfl)] at hn hR
  have ev : vs = (List.replicate rows.length true).map V.bl:=by
   refine List.ext_getElem? λ j=>?_
   rw [List.getElem?_map,List.getElem?_replicate]
   by_cases hj : j < rows.length
   ·rw [if_pos hj,List.getElem?_eq_getElem (show j < vs.length by omega)]
    exact congrArg some (hR j _ _ (List.getElem?_eq_getElem (show j < vs.length by omega)) (List.getElem?_eq_getElem hj))
   ·rw [if_neg hj,List.getElem?_eq_none (by omega)]; rfl
  rw [ev] at hy
  refine ⟨D2,List.replicate rows.length true,rfl,SqL.of hy,?_⟩
  have ea : (List.replicate rows.length true).all id = true:=List.all_eq_true.mpr λ b hb=>(List.mem_replicate.mp hb).2
  rw [ea]
  exact q F ((SameT.of g12).trans (b3.trans (.of (g4.trans s5))))
def spRefused (K : PySem.W.Frag) : Sp:=λ vs H Q _=>∃ (p : Addr) (f : Nat) (L l : List Nat) (d : Nat) (b : Bool),vs = [.ref p,vt l,.bl b] /\ SqT K H p [vt (f :: L),.int d] /\ (f :: L).length <= 6 /\ d <= 6 /\ l.length <= 110 /\ (∀ c ∈ l,c < 16 ^ 8) /\ (∃ c ∈ l,c ∉ f :: L) /\ ∀ H',Same H H' -> Q (.bl true) H'
theorem ok_Qq {c0 T0 : Addr} (T : Txt K mg t) (Y : TabX K mg base "in_order" c0 T0) : FnOk P w K mg base (CX1 P w) 10 t.a_Qq t.fd_Qq ["frame", "text", "whole"] (spRefused K):=by
 refine T.F_Qq.okn (k:=9) sc_Qq (λ vs H Q E h=>?_) (λ cdv A outer s H vs Q E hr h=>?_)
 ·obtain ⟨p,f,L,l,d,b,rfl,_⟩:=h; rfl
 obtain ⟨p,f,L,l,d,b,rfl,hp,hL6,hd,hll,hc16,hbad,q⟩:=h
 have G_Qbe:=@ok_Qbe P w K mg base t T
 have G_Qf:=@ok_Qf P w K mg base t _ _ T Y
 refine ⟨_,(pss_cons (ps_set (i:=3) sc_Qq.nd rfl (Or.inl rfl) (pe_lst pa_nil))
  (pss_cons (ps_tryU (i:=4) rfl rfl rfl rfl sc_Qq.nd rfl rfl rfl T.m_PressError T.x_PressError (by decide) (λ pins xe Φ hx=>(pss_one (ps_if (pt_val (pv 2)) (pss_one (ps_expr (pe_callX G_Qbe hr rfl T.m_Qbe T.F_Qbe.kp T.b_Qbe .nil hx (PAs.h (pas_cons (pv 0) (pas_cons (pv 1) pas_nil)))))) (pss_one (ps_expr (pe_callX G_Qf hr rfl T.m_Qf T.F_Qf.kp T.b_Qf .nil hx (PAs.h (pas_cons (pv 0) (pas_cons (pv 1) pas_nil))))))))) (λ pins e=>(pss_one (ps_set (i:=3) sc_Qq.nd rfl (Or.inl rfl) (pe_lst (PAs.h (pas_cons (pe_callB isiAny rfl T.m_isinstance bt_isinstance (PAs.h (pas_cons (pv 4) (pas_cons (pe_bltn (v:=.ty "ValueError") rfl T.m_ValueError bt_ValueError rfl) pas_nil)))) (pas_cons (pe_callB isiAny rfl T.m_isinstance bt_isinstance (PAs.h (pas_cons (pv 4) (pas_cons (pe_glob (v:=.ref t.c_NoText) rfl T.m_NoText rfl) pas_nil)))) (pas_cons (pe_callB isiAny rfl T.m_isinstance bt_isinstance (PAs.h (pas_cons (pv 4) (pas_cons (pe_glob (v:=.ref t.c_NoSign) rfl T.m_NoSign rfl) pas_nil)))) pas_nil)))))))))
  (pss_one (ps_ret (pe_cmpR (oEqA (hr.units0)) (pv 3) (pe_lst (PAs.h (pas_cons pe_bl (pas_cons pe_bl (pas_cons pe_bl pas_nil))))) (nomark _)))))),?_⟩
 refine ⟨by rw [sizeLine_eq]; show 0 <= _; decide,λ b0 hb0=>?_⟩
 have s0 : Same H (upd H b0 (.lst [])):=same_new hb0 _
 generalize upd H b0 (.lst []) = H0 at s0 ⊢
 refine λ pins0 xe0=>?_
 have good : (∀ c ∈ l,c ∈ f :: L) -> False:=λ z=>by
  obtain ⟨c,h1,h2⟩:=hbad
  exact h2 (z c h1)
 cases b with
 | true =>
   refine ⟨_,rfl,true,rfl,iteT ?_⟩
   refine ⟨_,rfl,_,rfl,p,f,L,l,d,rfl,same_tup s0 hp,hL6,hd,by omega,hc16,λ _=>?_,λ z=>(good z).elim⟩
   refine ⟨_,rfl,T.u_NoText_PressError,λ y hy pins1 ev1=>?_⟩
   have e0 : upd H0 y (excO y t.c_NoText) y = some (excO y t.c_NoText):=upd_same
   have sx : Same H (upd H0 y (excO y t.c_NoText)):=s0.trans (same_new hy _)
   generalize upd H0 y (excO y t.c_NoText) = H2 at e0 sx ⊢
   refine ⟨_,rfl,.inr ⟨y,_,_,true,rfl,e0,T.z_NoText,.inr (.inl ⟨_,rfl,T.i_NoText_ValueError⟩),?_⟩⟩
   refine ⟨_,rfl,.inr ⟨y,_,_,true,rfl,e0,T.z_NoText,.inl ⟨_,rfl,T.i_NoText_NoText⟩,?_⟩⟩
   refine ⟨_,rfl,.inr ⟨y,_,_,false,rfl,e0,T.z_NoText,.inl ⟨_,rfl,T.i_NoText_NoSign⟩,?_⟩⟩
   refine ⟨by rw [sizeLine_eq]; show 3 <= _; decide,λ r hr0=>?_⟩
   have s3:=sx.trans (same_new hr0 (.lst [.bl true,.bl true,.bl false]))
   have e3 : upd H2 r (.lst [.bl true,.bl true,.bl false]) r = some (.lst [.bl true,.bl true,.bl false]):=upd_same
   refine ⟨_,rfl,by rw [sizeLine_eq]; show 3 <= _; decide,λ c hc=>?_⟩
   refine .inr (.inl ⟨r,c,_,_,rfl,rfl,.inl (.inl (new_at hc e3)),.inl (.inl upd_same),rfl,rfl,?_⟩)
   exact q _ (s3.trans (same_new hc _))
 | false =>
   refine ⟨_,rfl,false,rfl,iteF ?_⟩
   refine ⟨_,rfl,_,rfl,p,f,L,l,d,rfl,same_tup s0 hp,hc16,λ _=>?_,λ z=>(good z).elim⟩
   refine ⟨_,rfl,T.u_NoText_PressError,λ y hy pins1 ev1=>?_⟩
   have e0 : upd H0 y (excO y t.c_NoText) y = some (excO y t.c_NoText):=upd_same
   have sx : Same H (upd H0 y (excO y t.c_NoText)):=s0.trans (same_new hy _)
   generalize upd H0 y (excO y t.c_NoText) = H2 at e0 sx ⊢
   refine ⟨_,rfl,.inr ⟨y,_,_,true,rfl,e0,T.z_NoText,.inr (.inl ⟨_,rfl,T.i_NoText_ValueError⟩),?_⟩⟩
   refine ⟨_,rfl,.inr ⟨y,_,_,true,rfl,e0,T.z_NoText,.inl ⟨_,rfl,T.i_NoText_NoText⟩,?_⟩⟩
   refine ⟨_,rfl,.inr ⟨y,_,_,false,rfl,e0,T.z_NoText,.inl ⟨_,rfl,T.i_NoText_NoSign⟩,?_⟩⟩
   refine ⟨by rw [sizeLine_eq]; show 3 <= _; decide,λ r hr0=>?_⟩
   have s3:=sx.trans (same_new hr0 (.lst [.bl true,.bl true,.bl false]))
   have e3 : upd H2 r (.lst [.bl true,.bl true,.bl false]) r = some (.lst [.bl true,.bl true,.bl false]):=upd_same
   refine ⟨_,rfl,by rw [sizeLine_eq]; show 3 <= _; decide,λ c hc=>?_⟩
   refine .inr (.inl ⟨r,c,_,_,rfl,rfl,.inl (.inl (new_at hc e3)),.inl (.inl upd_same),rfl,rfl,?_⟩)
   exact q _ (s3.trans (same_new hc _))
theorem sm_of {f : Nat} {L S l : List Nat} {d : Nat} (dr : Drawn (f :: L).length (f :: L) S) (l6 : (f :: L).length <= 6) (d6 : d <= 6) (al : ∀ c ∈ l,c ∈ f :: L) (hl : l.length <= 98) (h3 : ¬ d < 3 -> l.length <= 60) : Sm (f :: L) f d l:=by
 refine ⟨dr.nodup,l6,List.mem_cons_self,d6,by omega,?_,al⟩
 unfold wb
 by_cases z : d < 3
 ·exact Nat.le_trans (Nat.mul_le_mul (show 17 + 18 * d <= 53 by omega) hl) (by decide)
 ·exact Nat.le_trans (Nat.mul_le_mul (show 17 + 18 * d <= 125 by omega) (h3 z)) (by decide)
theorem first_nil {L : List Nat} {f d : Nat} {l : List Nat} {kn : List Nat} {ls : List (List Nat)} (kns : Kns L f d l (kn :: ls)) : kn = []:=by
 have h1:=(kns.mem kn).mp List.mem_cons_self
 obtain ⟨k,hk,_⟩:=seen_iff.mp h1
 have h0 : ([] : List Nat) ∈ kn :: ls:=(kns.mem []).mpr (seen_iff.mpr ⟨k,hk,rfl⟩)
 rcases List.mem_cons.mp h0 with z | z
 ·exact z.symm
 ·cases kn with
  | nil=>rfl
  | cons c r =>
    have:=(List.pairwise_cons.mp kns.ord).1 [] z
    exact absurd (List.nil_lt_cons _ _) this
def spLaw (K : PySem.W.Frag) (T0 T1 : Addr) : Sp:=λ vs H Q _=>∃ (a : Addr) (ns : List Int),vs = [.ref a] /\ SqL K H a (ns.map V.int) /\ ns.length <= 63 /\ (∀ n ∈ ns,Small n) /\ H T0 = some (.tbl #[]) /\ H T1 = some (.tbl #[]) /\ ∀ H',Q (.bl true) H'
theorem ok_law {c0 T0 c1 T1 : Addr} (T : Txt K mg t) (Y : TabX K mg base "in_order" c0 T0) (Y1 : TabX K mg base "_law_walked" c1 T1) (hTT : T0 ≠ T1) : FnOk P w K mg base (CX1 P w) 11 t.a_law t.fd_law ["script"] (spLaw K T0 T1):=by
 refine T.F_law.okn (k:=10) sc_law (λ vs H Q E h=>?_) (λ cdv A outer s H vs Q E hr h=>?_)
 ·obtain ⟨a,ns,rfl,_⟩:=h; rfl
 obtain ⟨a,ns,rfl,ha,hl,hs,hT0,hT1,q⟩:=h
 have G_Qn:=(@ok_Qn P w K mg base t T).mono (show 1 <= 10 by decide)
 have G_Qba:=(@ok_Qba P w K mg base t T).mono (show 2 <= 10 by decide)
 have G_Qg:=(@ok_Qg P w K mg base t T).mono (show 2 <= 10 by decide)
 have G_Qbm:=(@ok_Qbm P w K mg base t T).mono (show 2 <= 10 by decide)
 have G_Qq:=@ok_Qq P w K mg base t _ _ T Y
 have G_Qf:=(@ok_Qf P w K mg base t _ _ T Y).mono (show 9 <= 10 by decide)
 have G_Qbe:=(@ok_Qbe P w K mg base t T).mono (show 9 <= 10 by decide)
 have G_Qv:=(@ok_Qv P w K mg base t _ _ T Y1).mono (show 5 <= 10 by decide)
 have G_Qj:=(@ok_Qj P w K mg base t T).mono (show 2 <= 10 by decide)
 refine ⟨_,(pss_cons (ps_set (i:=1) sc_law.nd rfl (Or.inl rfl) (pe_call G_Qba hr rfl T.m_Qba T.F_Qba.kp T.b_Qba .nil pass1 (pa_cons (pe_call G_Qn hr rfl T.m_Qn T.F_Qn.kp T.b_Qn .nil pass1 (PAs.h (pas_cons (pv 0) (pas_cons pe_int pas_nil)))) pa_nil)))
  (pss_cons (ps_set (i:=2) sc_law.nd rfl (Or.inl rfl) (pe_call G_Qg hr rfl T.m_Qg T.F_Qg.kp T.b_Qg .nil pass1 (PAs.h (pas_cons (pv 0) (pas_cons (pv 1) pas_nil)))))
  (pss_cons (ps_set (i:=3) sc_law.nd rfl (Or.inl rfl) (pe_call G_Qbm hr rfl T.m_Qbm T.F_Qbm.kp T.b_Qbm .nil pass1 (PAs.h (pas_cons (pe_ix ixAny (pv 1) pe_int (λ _ _=>rfl)) (pas_cons (pv 2) (pas_cons (pe_call G_Qn hr rfl T.m_Qn T.F_Qn.kp T.b_Qn .nil pass1 (PAs.h (pas_cons (pv 0) (pas_cons pe_int pas_nil)))) pas_nil))))))
  (pss_cons (ps_if (PW.pt (pw_or (pt_not (pt_val (pe_call G_Qq hr rfl T.m_Qq T.F_Qq.kp T.b_Qq .nil pass1 (PAs.h (pas_cons (pv 1) (pas_cons (pv 3) (pas_cons pe_bl pas_nil))))))) (pw_or1 (pt_not (pt_val (pe_call G_Qq hr rfl T.m_Qq T.F_Qq.kp T.b_Qq .nil pass1 (PAs.h (pas_cons (pv 1) (pas_cons (pv 3) (pas_cons pe_bl pas_nil)))))))))) (pss_one (ps_ret pe_bl)) pss_nil)
  (pss_cons (ps_set (i:=4) sc_law.nd rfl (Or.inl rfl) (pe_call G_Qf hr rfl T.m_Qf T.F_Qf.kp T.b_Qf .nil pass1 (PAs.h (pas_cons (pv 1) (pas_cons (pv 2) pas_nil)))))
  (pss_cons (ps_if (pt_not (pt_val (pe_call G_Qv hr rfl T.m_Qv T.F_Qv.kp T.b_Qv .nil pass1 (PAs.h (pas_cons (pv 1) (pas_cons (pv 2) (pas_cons (pv 4) pas_nil))))))) (pss_one (ps_ret pe_bl)) pss_nil)
  (pss_cons (ps_set (i:=5) sc_law.nd rfl (Or.inl rfl) (pe_tup (PAs.h (pas_cons pe_int (pas_cons pe_int pas_nil)))))
  (pss_cons (ps_if (pt_cmpR (oNeW (hr.units0)) (pv 4) (pe_lst pa_nil) (nomark _)) (pss_one (ps_set (i:=5) sc_law.nd rfl (Or.inl rfl) (pe_ix ixAny (pe_ix ixAny (pv 4) pe_int (λ _ _=>rfl)) pe_int (λ _ _=>rfl)))) pss_nil)
  (pss_cons (ps_set (i:=6) sc_law.nd rfl (Or.inl rfl) (pe_call G_Qbe hr rfl T.m_Qbe T.F_Qbe.kp T.b_Qbe .nil pass1 (PAs.h (pas_cons (pv 1) (pas_cons (pv 2) pas_nil)))))
  (pss_one (ps_ret (pe_call G_Qj hr rfl T.m_Qj T.F_Qj.kp T.b_Qj .nil pass1 (PAs.h (pas_cons (pv 6) (pas_cons (pe_ix ixAny (pv 5) pe_int (λ _ _=>rfl)) (pas_cons (pe_ix ixAny (pv 5) pe_int (λ _ _=>rfl)) pas_nil)))))))))))))))),?_⟩
 refine ⟨_,rfl,a,ns,0,rfl,ha,by decide,?_⟩
 refine ⟨_,rfl,cellN_small hs 0,λ LL S d H1 f1 hL2 hL6 hDr hd s1 _ e1=>?_⟩
 obtain ⟨f,L,rfl⟩ : ∃ f L',LL = f :: L':=by
  cases LL with
  | nil=>simp at hL2
  | cons f L'=>exact ⟨f,L',rfl⟩
 refine ⟨_,rfl,_,rfl,a,f1,ns,f :: L,d,rfl,same_lst s1 ha,.inl (.inl e1),hL2,hL6,λ H2 l s2 hlL hll hl3=>?_⟩
 have s02:=s1.trans s2
 have e2:=s2 _ _ e1
 have hl16 : ∀ c ∈ l,c < 16 ^ 8:=λ c hc=>Nat.lt_trans (signs_lt c (hDr.mem c (hlL c hc))).2.1 (by decide)
 have Sm0:=sm_of hDr hL6 hd hlL hll hl3
 refine ⟨_,rfl,ixT (.inl (.inl e2)) rfl ⟨_,rfl,_,rfl,a,ns,2,rfl,same_lst s02 ha,by decide,f :: L,S,l,_,rfl,hDr,hL6,hll,hlL,λ H3 b s3 hb1 hb2 hb3=>?_⟩⟩
 have e3:=s3 _ _ e2
 refine ⟨_,rfl,_,rfl,f1,f,L,b,d,true,rfl,.inl (.inl e3),hL6,hd,hb3,hb2,hb1,λ H4 s4=>⟨true,rfl,iteF ?_⟩⟩
 have e4:=s4 _ _ e3
 refine ⟨_,rfl,_,rfl,f1,f,L,b,d,false,rfl,.inl (.inl e4),hL6,hd,hb3,hb2,hb1,λ H5 s5=>⟨true,rfl,iteF ?_⟩⟩
 have e5:=s5 _ _ e4
 have s05:=((s02.trans s3).trans s4).trans s5
 have t0 : TO T0 H5:=.inl (s05 _ _ hT0)
 have t1:=s05 _ _ hT1
 clear s05 s1 s2 s3 s4 s5 e1 e2 e3 e4 s02 hT0 hT1
 refine ⟨_,rfl,_,rfl,f1,f,L,l,d,rfl,.inl (.inl e5),hl16,λ ⟨c,h1,h2⟩=>absurd (hlL c h1) h2,λ _=>⟨Sm0,t0,λ r ls rows H6 kns sm6 hr6 er6 hrows t06=>?_⟩⟩
 obtain ⟨ps,hps⟩:=t0.tbl
 have e6:=sm6 _ _ (λ z=>by subst z; rw [hps] at e5; cases e5) e5
 have t16 : TW T1 H6:=.inl (sm6 _ _ hTT.symm t1)
 refine ⟨_,rfl,_,rfl,_,rfl,f1,r,f,L,l,d,ls,rows,rfl,.inl (.inl e6),Sm0,by omega,kns,er6,hrows,t16,λ H7 sm7=>⟨true,rfl,iteF ?_⟩⟩
 obtain ⟨ps1,hps1⟩:=t16.tbl
 have e7:=sm7 _ _ (λ z=>by subst z; rw [hps1] at e6; cases e6) e6
 have er7:=sm7 _ _ (λ z=>by subst z; rw [hps1] at er6; cases er6) er6
 have hrow7 : ∀ (i : Nat) kn v,ls[i]? = some kn -> rows[i]? = some v -> RowAt K H7 (f :: L) f d l v kn:=λ i kn v h1 h2=>(hrows.2 i kn v h1 h2).sameT ⟨ps1,hps1⟩ sm7
 have hrl:=hrows.1
 clear hrows sm7 t16 hps1 e6 er6 sm6 hps e5 t1 t0 t06
 have hPw:=(wv_ok Sm0 (Nat.le_refl l.length) d [] (by show 0 + d = d; omega)).mono (wb_le Sm0 (Nat.le_refl d) (sg_le f d l [] l.length))
 have lt8 : ∀ x : Int,x <= 2 ^ 8900 -> x < 2 ^ 8990:=λ x hx=>by
  have h1 : (2 : Int) ^ 8990 = 2 ^ 8900 * 2 ^ 90:=by rw [← Int.pow_add]
  have h2:=ipow_pos 8900
  have h3 : (2 : Int) <= 2 ^ 90:=by decide
  have h4:=Int.mul_le_mul_of_nonneg_left h3 (show (0 : Int) <= 2 ^ 8900 by omega)
  rw [h1]; omega
 refine ⟨by rw [sizeLine_eq]; show 2 <= _; decide,λ o1 ho1=>?_⟩
 have s8:=same_new ho1 (.tup [.int 1,.int 1])
 have eo : SqT K (upd H7 o1 (.tup [.int 1,.int 1])) o1 [.int 1,.int 1]:=SqT.of upd_same
 generalize upd H7 o1 (.tup [.int 1,.int 1]) = H8 at s8 eo ⊢
 dsimp (config:={ eta:=false,zeta:=false,iota:=false }) only [gName]
 refine meet (λ σ H'=>∃ (x : Addr) (A B : Int),σ = [some (.ref a),some (.ref f1),some (vt l),some (vt b),some (.ref r),some (.ref x),none] /\ Same H7 H' /\ SqT K H' x [.int A,.int B] /\ 0 < A /\ 0 < B /\ A <= (wv (f :: L) f d l l.length d []).1 /\ B <= (wv (f :: L) f d l l.length d []).2 /\ (wv (f :: L) f d l l.length d []).1 * B = A * (wv (f :: L) f d l l.length d []).2) (λ N hN=>?_) ?_
 ·refine ⟨_,rfl,by rw [sizeLine_eq]; show 0 <= _; decide,λ b1 hb1'=>?_⟩
  have s9:=s8.trans (same_new hb1' (.lst []))
  have eo9:=new_tup (o:=.lst []) hb1' eo
  have er9:=s9 _ _ er7
  refine .inr ⟨r,b1,_,rfl,rfl,.inl (.inl er9),.inl (.inl upd_same),_,rfl,?_⟩
  generalize upd H8 b1 (.lst []) = H9 at s9 eo9 er9 ⊢
  cases rows with
  | nil =>
    have hls : ls = []:=List.length_eq_zero_iff.mp hrl.symm
    have hu : seen f d l [] l.length = false:=by
     cases z : seen f d l [] l.length with
     | false=>rfl
     | true=>have:=(kns.mem []).mpr z; rw [hls] at this; cases this
    refine iteF (hN _ _ ⟨o1,1,1,rfl,s9,eo9,by decide,by decide,?_⟩)
    rw [wv_unseen hu]
    exact ⟨Int.le_refl _,Int.le_refl _,rfl⟩
  | cons v rows =>
    cases ls with
    | nil=>cases hrl
    | cons kn ls =>
      have hkn:=first_nil kns
      subst hkn
      refine iteT ?_
      obtain ⟨e,y,z,rfl,he,hy,hz⟩:=hrow7 0 [] v rfl rfl
      obtain ⟨pz,n,dd,rfl,hq,n0,d0,cr,gc,l1,l2⟩:=hz.same s9
      refine ⟨_,rfl,ixL (.inl (.inl er9)) at_zero (ixT (SqT.of (s9 _ _ he)) rfl ?_)⟩
      exact hN _ _ ⟨pz,n,dd,rfl,s9,hq,n0,d0,l1,l2,cr.symm⟩
 rintro _ H9 ⟨x,A,B,rfl,s9,hx,a0,b0,l1,l2,cr⟩
 refine ⟨_,rfl,_,rfl,f1,f,L,l,d,rfl,.inl (.inl (s9 _ _ e7)),hL6,hd,by omega,hl16,λ ⟨c,h1,h2⟩=>absurd (hlL c h1) h2,λ _=>⟨Sm0,λ H10 z s10 hz=>?_⟩⟩
 have hx10:=same_tup s10 hx
 refine ⟨_,rfl,_,rfl,ixT hx10 rfl ⟨_,rfl,ixT hx10 rfl ⟨z,A,B,rfl,hz.conv a0 b0 cr,lt8 _ (Int.le_trans l1 hPw.ab),lt8 _ (Int.le_trans l2 hPw.bb),q _⟩⟩⟩
end
theorem fin {P : Program} {w : World} {K : PySem.W.Frag} {mg : Str -> Option Value} {fa c0 T0 c1 T1 : Addr} (hmg : mg "law" = some (.ref fa)) (hTT : T0 ≠ T1) (h : ∃ t,Txt K mg t) :
 ∃ fd : FuncData,(∀ (s : Shared) (v : Value),BindsTo s fd ⟨[v],[]⟩ [("script",v)]) /\ ∀ base : Heap,TabX K mg base "in_order" c0 T0 -> TabX K mg base "_law_walked" c1 T1 -> FnOk P w K mg base (CX1 P w) 11 fa fd ["script"] (spLaw K T0 T1):=by
 obtain ⟨t,T⟩:=h
 have e:=hmg.symm.trans T.m_law
 cases e
 exact ⟨_,T.bl,λ base Y Y1=>ok_law T Y Y1 hTT⟩
theorem walk {l : PySem.W.OpenLaw} {q : Program} {loose : List Str} {XP : (Str -> Option Value) -> Heap -> Prop} {YP : World -> Heap -> Prop} {d : DefRec} {K : Params -> PySem.W.Frag} (hn : l.most = some 63) (hdf : d.params.defaults = [])
 (hY : ∀ (w : World) (h : Heap),YP w h -> (K w.params).In h) (hnt : ∀ w : World,PySem.W.noTabs (K w.params) = true) (hdr : ((recsOf q).find? (λ e=>e.name == ("in_order" : Str))).isSome = true) (hdr1 : ((recsOf q).find? (λ e=>e.name == ("_law_walked" : Str))).isSome = true) (htab : ∀ w : World,tabs2 (K w.params) "in_order" "_law_walked" = true)
 (F : ∀ (w : World) (mg : Str -> Option Value) (fa : Addr) (h : Heap) (c0 T0 c1 T1 : Addr),(K w.params).In h -> h.Ns mainGlobals mg -> mg d.name = some (.ref fa) -> T0 ≠ T1 ->
  ∃ fd : FuncData,(∀ (s : Shared) (u : Value),BindsTo s fd ⟨[u],[]⟩ [("script",u)]) /\ ∀ base : Heap,TabX (K w.params) mg base "in_order" c0 T0 -> TabX (K w.params) mg base "_law_walked" c1 T1 -> FnOk l.prog w (K w.params) mg base (CX1 l.prog w) 11 fa fd ["script"] (spLaw (K w.params) T0 T1)) :
 PySem.W.WalkO q loose XP YP l.row.toRowW d [] (λ f vs=>PySem.call f vs) :=
 L2.walk_t2 (fn := "in_order") (fn1 := "_law_walked") (n:=63) (k:=11) (x := "script") (CX:=λ w=>CX1 l.prog w) (sp:=λ w T0 T1=>spLaw (K w.params) T0 T1) hn (by decide) hdf ⟨rfl,by decide,by decide⟩ hY hnt hdr hdr1 htab F (λ _ _ a T0 T1 ns hl hb hS hT hT1=>⟨a,ns,rfl,hS,hl,hb,hT,hT1,λ _=>rfl⟩) λ _ _ _ _ _ z=>cx1_none z
end Bp
theorem PySem.W.Fast.tw15043188123012239575 : True:=.intro
theorem PySem.W.Fast.tw16403899518492848491 : True:=.intro
theorem PySem.W.Fast.tw18226079045317361422 : True:=.intro
theorem PySem.W.Fast.tw10912487612461190894 : True:=.intro
theorem PySem.W.Fast.tw2063127539660092134 : True:=.intro
theorem PySem.W.Fast.tw1392022500440370275 : True:=.intro
theorem PySem.W.Fast.tw18127381916723462265 : True:=.intro
theorem PySem.W.Fast.tw2780591074844262664 : True:=.intro
theorem PySem.W.Fast.tw14970657977285910736 : True:=.intro
theorem PySem.W.Fast.tw17306856792131817114 : True:=.intro
theorem PySem.W.Fast.tw16991371523612732003 : True:=.intro
theorem PySem.W.Fast.tw12818373605891959468 : True:=.intro
theorem PySem.W.Fast.tw8570275392701677182 : True:=.intro
theorem PySem.W.Fast.tw15707434828862702376 : True:=.intro
theorem PySem.W.Fast.tw15781189119198641911 : True:=.intro
theorem PySem.W.Fast.tw17941972120136711167 : True:=.intro
theorem PySem.W.Fast.tw16211520804373983889 : True:=.intro
theorem PySem.W.Fast.tw12727481000528515092 : True:=.intro
theorem PySem.W.Fast.tw13943081837929299337 : True:=.intro
theorem PySem.W.Fast.tw16912784677912391881 : True:=.intro
theorem PySem.W.Fast.tw7750366817667639358 : True:=.intro
theorem PySem.W.Fast.tw2329865486764916915 : True:=.intro
theorem PySem.W.Fast.tw4373421252682580401 : True:=.intro
theorem PySem.W.Fast.tw14567262773896780791 : True:=.intro
theorem PySem.W.Fast.tw18431297718771210581 : True:=.intro
theorem PySem.W.Fast.tw14652416096068506388 : True:=.intro
theorem PySem.W.Fast.tw14397692305933613890 : True:=.intro
theorem PySem.W.Fast.tw9057253353730786807 : True:=.intro
theorem PySem.W.Fast.tw4990845229738131369 : True:=.intro
theorem PySem.W.Fast.tw3773793373569280953 : True:=.intro
theorem PySem.W.Fast.tw5480316083515595603 : True:=.intro
theorem PySem.W.Fast.tw17562739501157787245 : True:=.intro
theorem PySem.W.Fast.tw15048548810674250562 : True:=.intro
theorem PySem.W.Fast.tw18135235634778421810 : True:=.intro
theorem PySem.W.Fast.tw17388773111014328790 : True:=.intro
theorem PySem.W.Fast.tw3282444006005111424 : True:=.intro
theorem PySem.W.Fast.tw7118789558632796273 : True:=.intro
theorem PySem.W.Fast.tw1746465761595908697 : True:=.intro
theorem PySem.W.Fast.tw13589834861062396799 : True:=.intro
theorem PySem.W.Fast.tw5847843242990117517 : True:=.intro
theorem PySem.W.Fast.tw12128388628614999045 : True:=.intro
theorem PySem.W.Fast.tw12496002843849038813 : True:=.intro
theorem PySem.W.Fast.tw6367880097504362923 : True:=.intro
theorem PySem.W.Fast.tw3579124215314711132 : True:=.intro
theorem PySem.W.Fast.tw1735100562420812376 : True:=.intro
theorem PySem.W.Fast.tw9319847551634054210 : True:=.intro
theorem PySem.W.Fast.tw4556948792698955170 : True:=.intro
theorem PySem.W.Fast.tw9032695793781267188 : True:=.intro
theorem PySem.W.Fast.tw10584191019073075641 : True:=.intro
theorem PySem.W.Fast.tw3400976655837286187 : True:=.intro
theorem PySem.W.Fast.tw367845500984269470 : True:=.intro
theorem PySem.W.Fast.tw17168665102914430021 : True:=.intro
theorem PySem.W.Fast.tw14509389779272020402 : True:=.intro
theorem PySem.W.Fast.tw3815211983602106295 : True:=.intro
theorem PySem.W.Fast.tw2606360758295554388 : True:=.intro
theorem PySem.W.Fast.tw18042889053201739742 : True:=.intro
theorem PySem.W.Fast.tw8669804143903565749 : True:=.intro
theorem PySem.W.Fast.tw15429651119646382321 : True:=.intro
theorem PySem.W.Fast.tw3341282843851384723 : True:=.intro
theorem PySem.W.Fast.tw1054607006732004099 : True:=.intro
theorem PySem.W.Fast.tw7715441634879553911 : True:=.intro
theorem PySem.W.Fast.tw1695239590963597508 : True:=.intro
theorem PySem.W.Fast.tw9061489951747608525 : True:=.intro
theorem PySem.W.Fast.tw7181588198384363224 : True:=.intro
theorem PySem.W.Fast.tw17126018180403946235 : True:=.intro
theorem PySem.W.Fast.tw11538598551098587247 : True:=.intro
theorem PySem.W.Fast.tw10696991829925080864 : True:=.intro
theorem PySem.W.Fast.tw17808484097998714199 : True:=.intro
theorem PySem.W.Fast.tw17792278930323266838 : True:=.intro
theorem PySem.W.Fast.tw14070461222962648454 : True:=.intro
theorem PySem.W.Fast.tw6966403989363624557 : True:=.intro
theorem PySem.W.Fast.tw1518666012085423144 : True:=.intro
theorem PySem.W.Fast.tw1877543299015952598 : True:=.intro
theorem PySem.W.Fast.tw4499820845979632636 : True:=.intro
theorem PySem.W.Fast.tw8232574186559141959 : True:=.intro
theorem PySem.W.Fast.tw227613491037331182 : True:=.intro
theorem PySem.W.Fast.tw6685899596595490861 : True:=.intro
theorem PySem.W.Fast.tw17407321381131376046 : True:=.intro
theorem PySem.W.Fast.tw17394201998789716763 : True:=.intro
theorem PySem.W.Fast.tw10445455777084035546 : True:=.intro
theorem PySem.W.Fast.tw6989356378796312538 : True:=.intro
theorem PySem.W.Fast.tw7905692249168452212 : True:=.intro
theorem PySem.W.Fast.tw18110787515514893782 : True:=.intro
theorem PySem.W.Fast.tw8539603087041824714 : True:=.intro
theorem PySem.W.Fast.tw16142566471063830150 : True:=.intro
theorem PySem.W.Fast.tw12772984553176869152 : True:=.intro
theorem PySem.W.Fast.tw6354478412743269410 : True:=.intro
theorem PySem.W.Fast.tw13826957950614562573 : True:=.intro
theorem PySem.W.Fast.tw9243457367709918097 : True:=.intro
theorem PySem.W.Fast.tw1524135790155243408 : True:=.intro
theorem PySem.W.Fast.tw6972801435527928039 : True:=.intro
theorem PySem.W.Fast.tw154637331888058845 : True:=.intro
theorem PySem.W.Fast.tw2571780511329995970 : True:=.intro
theorem PySem.W.Fast.tw16030294617794626305 : True:=.intro
theorem PySem.W.Fast.tw9748467513176833513 : True:=.intro
theorem PySem.W.Fast.tw14140201994198883424 : True:=.intro
theorem PySem.W.Fast.tw17544990125076465790 : True:=.intro
theorem PySem.W.Fast.tw6055959185390690440 : True:=.intro
theorem PySem.W.Fast.tw4045859525299338321 : True:=.intro
theorem PySem.W.Fast.tw7318905869941672056 : True:=.intro
theorem PySem.W.Fast.tw11514414394046335343 : True:=.intro
theorem PySem.W.Fast.tw8671991208731220655 : True:=.intro
theorem PySem.W.Fast.tw14746909359788382570 : True:=.intro
theorem PySem.W.Fast.tw9526687855581015208 : True:=.intro
theorem PySem.W.Fast.tw10915973928140011490 : True:=.intro
theorem PySem.W.Fast.tw7523687740880036737 : True:=.intro
theorem PySem.W.Fast.tw2762103008021443850 : True:=.intro
theorem PySem.W.Fast.tw12969223010399149962 : True:=.intro
theorem PySem.W.Fast.tw10695491344969091323 : True:=.intro
theorem PySem.W.Fast.tw1491752129710835030 : True:=.intro
theorem PySem.W.Fast.tw10429366871971388822 : True:=.intro
theorem PySem.W.Fast.tw786084464430961005 : True:=.intro
theorem PySem.W.Fast.tw10676816818220949764 : True:=.intro
theorem PySem.W.Fast.tw10386717061874450902 : True:=.intro
theorem PySem.W.Fast.tw12643371173915894351 : True:=.intro
theorem PySem.W.Fast.tw16945797976655534647 : True:=.intro
theorem PySem.W.Fast.tw6621337404123780354 : True:=.intro
theorem PySem.W.Fast.tw14591873292701549910 : True:=.intro
theorem PySem.W.Fast.tw8426878344134381089 : True:=.intro
theorem PySem.W.Fast.tw15776388172794614901 : True:=.intro
theorem PySem.W.Fast.tw17564698946178683754 : True:=.intro
theorem PySem.W.Fast.tw9699085130838996208 : True:=.intro
theorem PySem.W.Fast.tw7833966837570528083 : True:=.intro
theorem PySem.W.Fast.tw17571044202899675335 : True:=.intro
theorem PySem.W.Fast.tw15034024925838593632 : True:=.intro
theorem PySem.W.Fast.tw14903311111329470518 : True:=.intro
theorem PySem.W.Fast.tw15396727795882798947 : True:=.intro
theorem PySem.W.Fast.tw18183355180117459625 : True:=.intro
theorem PySem.W.Fast.tw3807003251482979995 : True:=.intro
theorem PySem.W.Fast.tw16074040623781379696 : True:=.intro
theorem PySem.W.Fast.tw16820968695298577465 : True:=.intro
theorem PySem.W.Fast.tw2735710676666456863 : True:=.intro
theorem PySem.W.Fast.tw4057192302507539631 : True:=.intro
theorem PySem.W.Fast.tw3940062107781445437 : True:=.intro
theorem PySem.W.Fast.tw11524131774161366235 : True:=.intro
theorem PySem.W.Fast.tw5434565280982937015 : True:=.intro
local macro_rules | `(tactic| sizeOf_list_dec)=>`(tactic| first | (refine' Bp.fx ?n ?l ?c ?k; (case n=>k_is); (case l=>k_is); (case c=>k_is); (case k=>k_is)) | (refine' Bp.mx ?n ?i ?l ?c ?k; (case n=>k_is); (case i=>k_is); (case l=>k_is); (case c=>k_is); (case k=>k_is)))
open PySem PySem.W PyProof.Rows
set_option maxRecDepth 100000 in
set_option maxHeartbeats 0 in
theorem PySem.Challenge.cw_boughpress_k41_weigh_paper_walked_holds : PySem.Challenge.rw_boughpress_k41_weigh_paper_walked.Holds := by
 w_on; o_law; k_head; (case hw=>w_witness2)
 k_fill
 refine Bp.walk (l:=PySem.Challenge.rw_boughpress_k41_weigh_paper_walked) rfl rfl (λ w h Y=>PySem.W.km_in_of Y) ?nt ?dr ?dr1 ?tb ?F
 (case nt=>intro w; kernel_rfl)
 (case dr=>kernel_rfl)
 (case dr1=>kernel_rfl)
 (case tb=>intro w; kernel_rfl)
 case F =>
  intro w mg fa h c0 T0 c1 T1 KX G hmg hTT
  refine Bp.fin hmg hTT ?_
  refine' Bp.txt_mk KX G ?f_Qr ?f_Qx ?f_rank ?f_Ql ?f_Qm ?f_Qs ?f_Qa ?f_Qt ?f_plus ?f_Qbi ?f_half ?f_Qy ?f_Qbj ?f_Qbd ?f_Qbk ?f_Qbe ?f_Qf ?f_Qn ?f_Qz ?f_Qba ?f_Qbf ?f_Qu ?f_Qbb ?f_Qo ?f_Qj ?f_Qbg ?f_Qbc ?f_Qk ?f_Qbl ?f_Qbh ?f_Qv ?f_Qp ?f_Qbm ?f_Qw ?f_Qg ?f_Qq ?f_law ?n_Growth ?f_Qh ?f_Qe ?f_Qb ?f_Qc ?f_Qd ?f_Qi ?pg_Growth ?hd_Growth ?po_Growth ?sa_Growth ?mk_Growth ?kc_Growth ?na_Growth_frame ?na_Growth_replaced ?na_Growth_table ?na_Growth_text ?n_ValueError ?n_abs ?n_all ?n_bool ?n_int ?n_isinstance ?n_len ?n_list ?n_max ?n_range ?n_reversed ?n_sorted ?n_str ?n_sum ?n_tuple ?n_PressError ?n_NoFraction ?n_NoText ?n_NoSign ?n_COUNTS ?n_WORTH ?n_WEIGHT ?n_ONE ?lk_ONE ?x_NoFraction ?zga_NoFraction ?zgt_NoFraction ?zcl_NoFraction ?zob_NoFraction ?zbe_NoFraction ?x_NoText ?zga_NoText ?zgt_NoText ?zcl_NoText ?zob_NoText ?zbe_NoText ?x_PressError ?zga_PressError ?zgt_PressError ?zcl_PressError ?zob_PressError ?zbe_PressError ?i_NoFraction_ValueError ?i_NoText_ValueError ?i_NoFraction_NoText ?i_NoText_NoText ?i_NoFraction_NoSign ?i_NoText_NoSign ?u_NoFraction_PressError ?u_NoText_PressError
  (case f_Qr=>sizeOf_list_dec)
  (case f_Qx=>sizeOf_list_dec)
  (case f_rank=>sizeOf_list_dec)
  (case f_Ql=>sizeOf_list_dec)
  (case f_Qm=>sizeOf_list_dec)
  (case f_Qs=>sizeOf_list_dec)
  (case f_Qa=>sizeOf_list_dec)
  (case f_Qt=>sizeOf_list_dec)
  (case f_plus=>sizeOf_list_dec)
  (case f_Qbi=>sizeOf_list_dec)
  (case f_half=>sizeOf_list_dec)
  (case f_Qy=>sizeOf_list_dec)
  (case f_Qbj=>sizeOf_list_dec)
  (case f_Qbd=>sizeOf_list_dec)
  (case f_Qbk=>sizeOf_list_dec)
  (case f_Qbe=>sizeOf_list_dec)
  (case f_Qf=>sizeOf_list_dec)
  (case f_Qn=>sizeOf_list_dec)
  (case f_Qz=>sizeOf_list_dec)
  (case f_Qba=>sizeOf_list_dec)
  (case f_Qbf=>sizeOf_list_dec)
  (case f_Qu=>sizeOf_list_dec)
  (case f_Qbb=>sizeOf_list_dec)
  (case f_Qo=>sizeOf_list_dec)
  (case f_Qj=>sizeOf_list_dec)
  (case f_Qbg=>sizeOf_list_dec)
  (case f_Qbc=>sizeOf_list_dec)
  (case f_Qk=>sizeOf_list_dec)
  (case f_Qbl=>sizeOf_list_dec)
  (case f_Qbh=>sizeOf_list_dec)
  (case f_Qv=>sizeOf_list_dec)
  (case f_Qp=>sizeOf_list_dec)
  (case f_Qbm=>sizeOf_list_dec)
  (case f_Qw=>sizeOf_list_dec)
  (case f_Qg=>sizeOf_list_dec)
  (case f_Qq=>sizeOf_list_dec)
  (case f_law=>sizeOf_list_dec)
  (case n_Growth=>k_is)
  (case f_Qh=>sizeOf_list_dec)
  (case f_Qe=>sizeOf_list_dec)
  (case f_Qb=>sizeOf_list_dec)
  (case f_Qc=>sizeOf_list_dec)
  (case f_Qd=>sizeOf_list_dec)
  (case f_Qi=>sizeOf_list_dec)
  (case pg_Growth=>k_is)
  (case hd_Growth=>k_is)
  (case po_Growth=>k_is)
  (case sa_Growth=>k_is)
  (case mk_Growth=>k_is)
  (case kc_Growth=>k_is)
  (case na_Growth_frame=>k_is)
  (case na_Growth_replaced=>k_is)
  (case na_Growth_table=>k_is)
  (case na_Growth_text=>k_is)
  (case n_ValueError=>k_is)
  (case n_abs=>k_is)
  (case n_all=>k_is)
  (case n_bool=>k_is)
  (case n_int=>k_is)
  (case n_isinstance=>k_is)
  (case n_len=>k_is)
  (case n_list=>k_is)
  (case n_max=>k_is)
  (case n_range=>k_is)
  (case n_reversed=>k_is)
  (case n_sorted=>k_is)
  (case n_str=>k_is)
  (case n_sum=>k_is)
  (case n_tuple=>k_is)
  (case n_PressError=>k_is)
  (case n_NoFraction=>k_is)
  (case n_NoText=>k_is)
  (case n_NoSign=>k_is)
  (case n_COUNTS=>k_is)
  (case n_WORTH=>k_is)
  (case n_WEIGHT=>k_is)
  (case n_ONE=>k_is)
  (case lk_ONE=>k_is)
  (case x_NoFraction=>k_exc)
  (case zga_NoFraction=>k_is)
  (case zgt_NoFraction=>k_is)
  (case zcl_NoFraction=>k_is)
  (case zob_NoFraction=>k_is)
  (case zbe_NoFraction=>k_is)
  (case x_NoText=>k_exc)
  (case zga_NoText=>k_is)
  (case zgt_NoText=>k_is)
  (case zcl_NoText=>k_is)
  (case zob_NoText=>k_is)
  (case zbe_NoText=>k_is)
  (case x_PressError=>k_exc)
  (case zga_PressError=>k_is)
  (case zgt_PressError=>k_is)
  (case zcl_PressError=>k_is)
  (case zob_PressError=>k_is)
  (case zbe_PressError=>k_is)
  (case i_NoFraction_ValueError=>kit_is)
  (case i_NoText_ValueError=>kit_is)
  (case i_NoFraction_NoText=>kit_is)
  (case i_NoText_NoText=>kit_is)
  (case i_NoFraction_NoSign=>kit_is)
  (case i_NoText_NoSign=>kit_is)
  (case u_NoFraction_PressError=>k_is)
  (case u_NoText_PressError=>k_is)
#print axioms PySem.Challenge.cw_boughpress_k41_weigh_paper_walked_holds
