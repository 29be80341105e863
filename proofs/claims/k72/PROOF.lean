import PyProof.Rows.All
import Wide.All
import OpenK.AllK
import Wide.FinOn
import Lean
import PyProof.EqAt
import PyProof.EqKinds
import PyProof.TupleCall
import KE.KDictLaws
import KE.KIntText
import KE.KRevIter
import PyProof.Draws
import PyProof.EnumMake
import PyProof.JoinWalk
import PyProof.MinMaxWalk
import PyProof.NeKinds
import PyProof.Rows.CallKw2
import PyProof.Rows.SortWalk
import PyProof.Rows.StrPadFill
import PyProof.Rows.StrRev
import PyProof.SeqI3
import PyProof.SumAny
import PyProof.WalkInts
import PyProof.ZipIter
import PySem.Challenge.RW_boughpress_k72_packets_spoilt
set_option Elab.async false
set_option linter.all false
set_option maxRecDepth 100000
namespace L2
open PySem PySem.Spec PyProof.Rows
abbrev Key:=Sum Int Str
def keyIs:Key->Value->Bool
 | .inl k,v=>Value.isInt k v
 | .inr x,v=>Value.isStrOf x v
def keyH (w:World):Key->Int
 | .inl k=>hashInt k
 | .inr x=>hashStr w x
theorem keyIs_shape:∀ {k:Key} {v:Value},keyIs k v=true->(∃ i t,k=Sum.inl i/\v=Value.int i t)\/(∃ x t,k=Sum.inr x/\v=Value.str x t)
 | .inl i,v,h=>by
   obtain ⟨t,e⟩:=Value.isInt_shape (k:=i) (v:=v) h
   exact .inl ⟨i,t,rfl,e⟩
 | .inr x,v,h=>by
   obtain ⟨t,e⟩:=Value.isStrOf_shape (x:=x) (v:=v) h
   exact .inr ⟨x,t,rfl,e⟩
theorem keyIs_int (i:Int) (t:Tok):keyIs (.inl i) (.int i t)=true:=by simp [keyIs,Value.isInt]
theorem keyIs_str (x:Str) (t:Tok):keyIs (.inr x) (.str x t)=true:=by simp [keyIs,Value.isStrOf]
theorem key_ll (a b:Int):decide ((Sum.inl a:Key)=Sum.inl b)=(a == b):=by
 by_cases e:a=b
 ·subst e; simp
 ·have h:¬ (Sum.inl a:Key)=Sum.inl b:=λ q=>e (Sum.inl.inj q)
  rw [decide_eq_false h]
  exact (beq_eq_false_iff_ne.mpr e).symm
theorem key_rr (a b:Str):decide ((Sum.inr a:Key)=Sum.inr b)=decide (a=b):=by
 by_cases e:a=b
 ·subst e; simp
 ·have h:¬ (Sum.inr a:Key)=Sum.inr b:=λ q=>e (Sum.inr.inj q)
  rw [decide_eq_false h,decide_eq_false e]
theorem key_lr (a:Int) (b:Str):decide ((Sum.inl a:Key)=Sum.inr b)=false:=decide_eq_false (λ q=>nomatch q)
theorem key_rl (a:Str) (b:Int):decide ((Sum.inr a:Key)=Sum.inl b)=false:=decide_eq_false (λ q=>nomatch q)
def mixKind (prog:Program) (w:World):PySem.KeyKind prog w Key where
 is:=keyIs
 hash:=keyH w
 inj:=λ v a b ha hb=>by
  rcases keyIs_shape ha with ⟨i,t,rfl,rfl⟩ | ⟨x,t,rfl,rfl⟩
  ·rcases keyIs_shape hb with ⟨j,u,rfl,e⟩ | ⟨y,u,rfl,e⟩
   ·injection e with e1 _; rw [e1]
   ·exact nomatch e
  ·rcases keyIs_shape hb with ⟨j,u,rfl,e⟩ | ⟨y,u,rfl,e⟩
   ·exact nomatch e
   ·injection e with e1 _; rw [e1]
 byValue:=λ k v h=>by
  rcases keyIs_shape h with ⟨i,t,rfl,rfl⟩ | ⟨x,t,rfl,rfl⟩<;>rfl
 pyHash:=λ hv h=>by
  rcases keyIs_shape hv with ⟨i,t,rfl,rfl⟩ | ⟨x,t,rfl,rfl⟩
  ·exact wpAny_pyHash_int h
  ·exact wpAny_pyHash_str h
 eqBool:=λ hu hv h=>by
  rcases keyIs_shape hu with ⟨i,t,rfl,rfl⟩ | ⟨x,t,rfl,rfl⟩
  ·rcases keyIs_shape hv with ⟨j,u,rfl,rfl⟩ | ⟨y,u,rfl,rfl⟩
   ·rw [key_ll] at h; exact wpAny_eqBool_int h
   ·rw [key_lr] at h; exact SeqAt.EqAt.int_str i t y u _ _ _ _ h
  ·rcases keyIs_shape hv with ⟨j,u,rfl,rfl⟩ | ⟨y,u,rfl,rfl⟩
   ·rw [key_rl] at h; exact SeqAt.EqAt.str_int x t j u _ _ _ _ h
   ·rw [key_rr] at h; exact wpAny_eqBool_str h
 «strs»:=λ k x t v h=>by
  rcases keyIs_shape h with ⟨i,u,rfl,e⟩ | ⟨y,u,rfl,e⟩
  ·exact nomatch e
  ·injection e with e1 _
   subst e1
   cases v<;>rfl
theorem mixKind_int (prog:Program) (w:World) (i:Int) (t:Tok):(mixKind prog w).is (.inl i) (.int i t)=true:=keyIs_int i t
theorem mixKind_str (prog:Program) (w:World) (x:Str) (t:Tok):(mixKind prog w).is (.inr x) (.str x t)=true:=keyIs_str x t
end L2
namespace L2
open PySem PySem.Spec PyProof.Rows
inductive V where
 | non | bl (b:Bool) | int (i:Int) | str (x:Str) | byt (b:Array UInt8) | flt (b:UInt64) | ref (a:Addr) | ty (n:String)
 deriving DecidableEq
def RelV:V->Value->Prop
 | .non,u=>u=Value.none
 | .bl b,u=>u=Value.bool b
 | .int i,u=>∃ t,u=Value.int i t
 | .str x,u=>∃ t,u=Value.str x t
 | .byt b,u=>∃ t,u=Value.bytes b t
 | .flt b,u=>∃ t,u=Value.float b t
 | .ref a,u=>u=Value.ref a
 | .ty n,u=>u=Value.type n
abbrev Vals:List V->List Value->Prop:=Paired RelV
theorem Vals.length {xs:List V} {us:List Value} (r:Vals xs us):xs.length=us.length:=Paired.length r
theorem Vals.get:∀ {xs:List V} {us:List Value} {i:Nat} {x:V},Vals xs us->xs[i]?=some x->∃ u,us[i]?=some u/\RelV x u
 | _,_,_,_,.nil,e=>by simp at e
 | _,_,0,_,.cons r _,e=>by simp at e; subst e; exact ⟨_,rfl,r⟩
 | _,_,i+1,x,.cons _ t,e=>by
   obtain ⟨u,h1,h2⟩:=Vals.get (i:=i) (x:=x) t (by simpa using e)
   exact ⟨u,by simpa using h1,h2⟩
theorem Vals.set {x:V} {u:Value} (r:RelV x u):∀ {xs:List V} {us:List Value} (i:Nat),Vals xs us->Vals (xs.set i x) (us.set i u)
 | _,_,_,.nil=>.nil
 | _,_,0,.cons _ t=>.cons r t
 | _,_,i+1,.cons q t=>.cons q (Vals.set r i t)
theorem Vals.append:∀ {xs ys:List V} {us ws:List Value},Vals xs us->Vals ys ws->Vals (xs++ys) (us++ws)
 | _,_,_,_,.nil,s=>s
 | _,_,_,_,.cons r t,s=>.cons r (Vals.append t s)
theorem Vals.take:∀ {xs:List V} {us:List Value} (n:Nat),Vals xs us->Vals (xs.take n) (us.take n)
 | _,_,0,_=>.nil
 | _,_,_+1,.nil=>.nil
 | _,_,n+1,.cons r t=>.cons r (Vals.take n t)
theorem Vals.drop:∀ {xs:List V} {us:List Value} (n:Nat),Vals xs us->Vals (xs.drop n) (us.drop n)
 | _,_,0,r=>r
 | _,_,_+1,.nil=>.nil
 | _,_,n+1,.cons _ t=>Vals.drop n t
theorem Vals.none_of:∀ {xs:List V} {us:List Value} {i:Nat},Vals xs us->xs[i]?=none->us[i]?=none:=λ {xs us i} r e=>by
 have h1:=r.length
 have h2:xs.length<=i:=List.getElem?_eq_none_iff.mp e
 exact List.getElem?_eq_none_iff.mpr (by omega)
def RelO:Option V->Option Value->Prop
 | some v,some u=>RelV v u
 | none,none=>True
 | _,_=>False
def KV {κ:Type}:List (κ × V)->List (κ × Value)->Prop:=Paired λ (p:κ × V) (q:κ × Value)=>p.1=q.1/\RelV p.2 q.2
def kV:Key->V
 | .inl i=>.int i
 | .inr x=>.str x
inductive HO where
 | lst (xs:List V)
 | tup (xs:List V)
 | dK (kvs:List (Key × V)) | dT (kvs:List (List Key × V))
 | set (S:Int->Bool) (n:Nat)
 | ins (C dx:Addr) (fs:List (Str × V))
 | own (x:Addr)
 | xd (fs:List (Str × V))
 | met (f x:Addr)
 | rng (lo hi:Int)
 | frz (o:Obj) (u:HO)
 | tbl (ps:Array Value)
 | ext (φ:Heap->Prop)
abbrev Hp:=Addr->Option HO
def upd (H:Hp) (a:Addr) (o:HO):Hp:=λ b=>if b=a then some o else H b
theorem upd_same {H:Hp} {a:Addr} {o:HO}:upd H a o a=some o:=by unfold upd; rw [if_pos rfl]
theorem upd_ne {H:Hp} {a b:Addr} {o:HO} (h:b ≠ a):upd H a o b=H b:=by unfold upd; rw [if_neg h]
theorem upd_upd {H:Hp} {a:Addr} {o u:HO}:upd (upd H a o) a u=upd H a u:=by
 funext b; unfold upd; split<;>rfl
theorem ne_of {H:Hp} {a b:Addr} {o u:HO} (h:H a=some o) (h':H b=some u) (d:o ≠ u):a ≠ b:=by
 intro e; subst e; rw [h] at h'; exact d (Option.some.inj h')
theorem ne_of_none {H:Hp} {a b:Addr} {o:HO} (h:H a=some o) (h':H b=none):a ≠ b:=by
 intro e; subst e; rw [h] at h'; cases h'
section
variable (P:Program) (w:World)
def ObjOk (H:Hp) (h:Heap) (a:Addr):HO->Prop
 | .lst xs=>xs.length<=sizeLine/\∃ (its:List Value) (n:Nat),Vals xs its/\h.get? a=some { cls:=.type "list",data:=.seq its.toArray n }
 | .tup xs=>xs.length<=sizeLine/\∃ its:List Value,Vals xs its/\IsTup h a its.toArray
 | .dK kvs=>kvs.length<=sizeLine/\(a == sysModules)=false/\∃ vs,KV kvs vs/\h.DictOf (mixKind P w) a vs
 | .dT kvs=>kvs.length<=sizeLine/\(a == sysModules)=false/\∃ xs:List (List Key × Addr × Value),
  Paired (λ (p:List Key × V) (q:List Key × Addr × Value)=>p.1=q.1/\H q.2.1=some (.tup (p.1.map kV))/\RelV p.2 q.2.2) kvs xs/\
  ∃ o es ep,h.get? a=some o/\o.ExactDict/\o.data=.dict es ep/\es.toList=xs.map (entryOfKey (tupleKind (mixKind P w)))/\(xs.map (·.1)).Nodup
 | .set S n=>h.SetOf (intKind P w) a S n
 | .ins C dx fs=>H dx=some (.own a)/\fs.length<=1000/\dx ≠ a/\h.get? a=some (PySem.W.instObj C dx)/\
  ∃ mA,h.Ns1 dx mA/\(∀ f,RelO (fs.lookup f) (mA f))/\PySem.Within mA (fs.map (·.1))
 | .own _=>∃ o,h.get? a=some o
 | .xd fs=>∃ mA,h.Ns1 a mA/\∀ f,RelO (fs.lookup f) (mA f)
 | .rng lo hi=>∃ t u v,h.get? a=some { cls:=.type "range",data:=.fields #[.int lo t,.int hi u,.int 1 v] }
 | .frz o u=>h.get? a=some o/\ObjOk H h a u
 | .tbl ps=>h.get? a=some { cls:=.none,data:=.fields ps }
 | .met f x=>h.get? a=some (PySem.W.methodObj (.ref f) (.ref x))
 | .ext φ=>φ h/\(∃ o,h.get? a=some o)/\∀ h1 h2:Heap,φ h1->(∀ o,h1.get? a=some o->h2.get? a=some o)->φ h2
def HOk (H:Hp) (h:Heap):Prop:=∀ a o,H a=some o->ObjOk P w H h a o
end
section
variable {P:Program} {w:World} {H H':Hp} {h h':Heap} {a:Addr} {o:HO}
theorem ObjOk.lt (x:ObjOk P w H h a o):a<h.objs.size:=by
 cases o with
 | lst xs=>obtain ⟨_,_,_,_,e⟩:=x; exact Heap.lt_size e
 | tup xs=>obtain ⟨_,_,_,p⟩:=x; exact p.lt
 | dK kvs=>obtain ⟨_,_,_,_,o,_,_,e,_⟩:=x; exact Heap.lt_size e
 | dT kvs=>obtain ⟨_,_,_,_,o,_,_,e,_⟩:=x; exact Heap.lt_size e
 | set S n=>obtain ⟨o,_,_,_,e,_⟩:=x; exact Heap.lt_size e
 | ins C dx fs=>obtain ⟨_,_,_,e,_⟩:=x; exact Heap.lt_size e
 | own y=>obtain ⟨_,e⟩:=x; exact Heap.lt_size e
 | xd fs=>obtain ⟨_,⟨_,_,_,e,_⟩,_⟩:=x; exact Heap.lt_size e
 | rng lo hi=>obtain ⟨_,_,_,e⟩:=x; exact Heap.lt_size e
 | frz ob u=>obtain ⟨e,_⟩:=x; exact Heap.lt_size e
 | tbl ps=>exact Heap.lt_size (show h.get? a=some _ from x)
 | met f y=>exact Heap.lt_size (show h.get? a=some _ from x)
 | ext φ=>obtain ⟨_,⟨_,e⟩,_⟩:=x; exact Heap.lt_size e
theorem Paired.mapP {α β:Type} {F G:α->β->Prop}:∀ {l₁:List α} {l₂:List β},Paired F l₁ l₂->(∀ a b,F a b->G a b)->Paired G l₁ l₂
 | _,_,.nil,_=>.nil
 | _,_,.cons r t,f=>.cons (f _ _ r) (Paired.mapP t f)
theorem ObjOk.stay (x:ObjOk P w H h a o) (k:∀ b u,(b=a\/H b=some (.own a))->h.get? b=some u->h'.get? b=some u)
 (ho:∀ b,H b=some (.own a)->H' b=some (.own a)) (ht:∀ b xs,H b=some (.tup xs)->H' b=some (.tup xs)):ObjOk P w H' h' a o:=by
 induction o with
 | lst xs=>obtain ⟨z,its,n,r,e⟩:=x; exact ⟨z,its,n,r,k _ _ (.inl rfl) e⟩
 | tup xs=>obtain ⟨z,its,r,ob,e,c⟩:=x; exact ⟨z,its,r,ob,k _ _ (.inl rfl) e,c⟩
 | dK kvs=>obtain ⟨z,y,vs,r,ob,es,ep,e,c⟩:=x; exact ⟨z,y,vs,r,ob,es,ep,k _ _ (.inl rfl) e,c⟩
 | dT kvs =>
   obtain ⟨z,y,xs,r,ob,es,ep,e,c⟩:=x
   exact ⟨z,y,xs,Paired.mapP r λ p q z=>⟨z.1,ht _ _ z.2.1,z.2.2⟩,ob,es,ep,k _ _ (.inl rfl) e,c⟩
 | set S n=>obtain ⟨ob,es,ep,t,e,c⟩:=x; exact ⟨ob,es,ep,t,k _ _ (.inl rfl) e,c⟩
 | ins C dx fs =>
   obtain ⟨d,z,ne,e,mA,⟨od,es,ep,e2,c⟩,r⟩:=x
   exact ⟨ho _ d,z,ne,k _ _ (.inl rfl) e,mA,⟨od,es,ep,k _ _ (.inr d) e2,c⟩,r⟩
 | own y=>obtain ⟨ob,e⟩:=x; exact ⟨ob,k _ _ (.inl rfl) e⟩
 | xd fs=>obtain ⟨mA,⟨od,es,ep,e,c⟩,r⟩:=x; exact ⟨mA,⟨od,es,ep,k _ _ (.inl rfl) e,c⟩,r⟩
 | rng lo hi=>obtain ⟨t,u,v,e⟩:=x; exact ⟨t,u,v,k _ _ (.inl rfl) e⟩
 | frz ob u ih=>obtain ⟨e,q⟩:=x; exact ⟨k _ _ (.inl rfl) e,ih q⟩
 | tbl ps =>
   have e:h.get? a=some { cls:=.none,data:=.fields ps }:=x
   show h'.get? a=some { cls:=.none,data:=.fields ps }
   exact k a _ (.inl rfl) e
 | met f y =>
   have e:h.get? a=some (PySem.W.methodObj (.ref f) (.ref y)):=x
   show h'.get? a=some (PySem.W.methodObj (.ref f) (.ref y))
   exact k a _ (.inl rfl) e
 | ext φ=>obtain ⟨p,⟨o,e⟩,st⟩:=x; exact ⟨st _ _ p λ o q=>k _ _ (.inl rfl) q,⟨o,k _ _ (.inl rfl) e⟩,st⟩
theorem HOk.lt (x:HOk P w H h) (e:H a=some o):a<h.objs.size:=(x a o e).lt
theorem HOk.fresh (x:HOk P w H h) (e:h.objs.size<=a):H a=none:=by
 cases q:H a with
 | none=>rfl
 | some u=>exact absurd (Nat.lt_of_lt_of_le (x.lt q) e) (Nat.lt_irrefl _)
theorem HOk.kept (x:HOk P w H h) (k:∀ b u,h.get? b=some u->h'.get? b=some u):HOk P w H h':=λ a o e =>
 (x a o e).stay (λ b u _ q=>k b u q) (λ _ q=>q) λ _ _ q=>q
theorem HOk.laid (x:HOk P w H h) (k:∀ b u,h.get? b=some u->h'.get? b=some u) (hp:h.objs.size<=a) (new:ObjOk P w (upd H a o) h' a o):HOk P w (upd H a o) h':=λ b u e=>by
 have hn:=x.fresh hp
 by_cases hb:b=a
 ·subst hb; rw [upd_same] at e; cases e; exact new
 ·rw [upd_ne hb] at e
  exact (x b u e).stay (λ c v _ q=>k c v q) (λ c q=>by rw [upd_ne (ne_of_none q hn)]; exact q) λ c xs q=>by rw [upd_ne (ne_of_none q hn)]; exact q
end
def Rd (H:Hp) (a:Addr) (u:HO):Prop:=H a=some u\/∃ o,H a=some (.frz o u)
theorem Rd.of {H:Hp} {a:Addr} {u:HO} (h:H a=some u):Rd H a u:=.inl h
theorem Rd.ok {P:Program} {w:World} {H:Hp} {h:Heap} {a:Addr} {u:HO} (r:Rd H a u) (x:HOk P w H h):ObjOk P w H h a u:=by
 rcases r with r | ⟨o,r⟩
 ·exact x a u r
 ·obtain ⟨_,q⟩:=x a _ r
  exact q
def Mut:Option HO->Prop
 | some (.lst _)=>True
 | some (.dK _)=>True
 | some (.dT _)=>True
 | some (.set _ _)=>True
 | some (.ins _ _ _)=>True
 | some (.ext _)=>True
 | _=>False
section
variable {P:Program} {w:World} {H:Hp} {h h':Heap} {x e:Addr} {o':HO}
theorem HOk.write (ok:HOk P w H h) (mu:Mut (H x)) (he:e=x\/H e=some (.own x)) (k:∀ b u,b ≠ e->h.get? b=some u->h'.get? b=some u) (heo:∃ u,h'.get? e=some u)
 (new:ObjOk P w (upd H x o') h' x o'):HOk P w (upd H x o') h':=λ b u q=>by
 have nown:∀ c y,H c=some (.own y)->c ≠ x:=λ c y r z=>by subst z; rw [r] at mu; exact mu
 have ntup:∀ c xs,H c=some (.tup xs)->c ≠ x:=λ c xs r z=>by subst z; rw [r] at mu; exact mu
 by_cases hb:b=x
 ·subst hb; rw [upd_same] at q; cases q; exact new
 ·rw [upd_ne hb] at q
  by_cases hbe:b=e
  ·have q':H b=some (.own x):=by
    rcases he with z | z
    ·exact absurd (hbe.trans z) hb
    ·rw [hbe]; exact z
   rw [q] at q'; cases q'
   obtain ⟨v,hv⟩:=heo
   exact ⟨v,by rw [hbe]; exact hv⟩
  ·refine (ok b u q).stay (λ c v hc r=>k c v ?_ r) (λ c r=>by rw [upd_ne (nown c b r)]; exact r) λ c xs r=>by rw [upd_ne (ntup c xs r)]; exact r
   rcases hc with rfl | hc
   ·exact hbe
   ·rintro rfl
    rcases he with z | z
    ·exact nown c b hc z
    ·rw [hc] at z; cases z; exact hb rfl
end
structure Un (fs ex:List Addr) (H H':Hp) (h h':Heap):Prop where
 keep:∀ b o,h.get? b=some o->H b=none->b ∉ fs->b ∉ ex->h'.get? b=some o
 slot:∀ b o,h.get? b=some o->H b=none->b ∈ fs->b ∉ ex->∃ sl,h'.get? b=some { o with slots:=sl }
 free:∀ b o,h.get? b=some o->H b=none->b ∉ ex->H' b=none
 there:∀ b o,h.get? b=some o->b ∉ ex->∃ o',h'.get? b=some o'
 tups:∀ b xs,H b=some (.tup xs)->H' b=some (.tup xs)
 frzs:∀ b o u,H b=some (.frz o u)->H' b=some (.frz o u)
 tbls:∀ b ps,H b=some (.tbl ps)->∃ more,H' b=some (.tbl (ps++more))
section
variable {fs fs' ex ex':List Addr} {H H1 H2:Hp} {h h1 h2 h':Heap} {a x e:Addr} {o:HO}
theorem Un.any (u:Un fs ex H H1 h h1) {b:Addr} {ob:Obj} (q:h.get? b=some ob) (n:H b=none) (hx:b ∉ ex):∃ sl,h1.get? b=some { ob with slots:=sl }:=by
 by_cases hb:b ∈ fs
 ·exact u.slot b ob q n hb hx
 ·exact ⟨ob.slots,u.keep b ob q n hb hx⟩
theorem Un.trans (a:Un fs ex H H1 h h1) (b:Un fs ex H1 H2 h1 h2):Un fs ex H H2 h h2 where
 keep:=λ c ob q n hc hx=>b.keep c ob (a.keep c ob q n hc hx) (a.free c ob q n hx) hc hx
 slot:=λ c ob q n hc hx=>by
  obtain ⟨sl,e1⟩:=a.slot c ob q n hc hx
  obtain ⟨sl',e2⟩:=b.slot c _ e1 (a.free c ob q n hx) hc hx
  exact ⟨sl',e2⟩
 free:=λ c ob q n hx=>by
  obtain ⟨o',e1⟩:=a.there c ob q hx
  exact b.free c o' e1 (a.free c ob q n hx) hx
 there:=λ c ob q hx=>by
  obtain ⟨o',e1⟩:=a.there c ob q hx
  exact b.there c o' e1 hx
 tups:=λ c xs q=>b.tups c xs (a.tups c xs q)
 frzs:=λ c ob xs q=>b.frzs c ob xs (a.frzs c ob xs q)
 tbls:=λ c ps q=>by
  obtain ⟨m1,e1⟩:=a.tbls c ps q
  obtain ⟨m2,e2⟩:=b.tbls c _ e1
  exact ⟨m1++m2,by rw [e2,Array.append_assoc]⟩
theorem Un.kept (k:∀ b u,h.get? b=some u->h'.get? b=some u):Un fs ex H H h h' :=
 ⟨λ b ob q _ _ _=>k b ob q,λ b ob q _ _ _=>⟨ob.slots,k b ob q⟩,λ _ _ _ n _=>n,λ b ob q _=>⟨ob,k b ob q⟩,λ _ _ q=>q,λ _ _ _ q=>q,λ _ ps q=>⟨#[],by rw [q]; simp⟩⟩
theorem Un.refl:Un fs ex H H h h:=Un.kept λ _ _ q=>q
theorem Un.laid (k:∀ b u,h.get? b=some u->h'.get? b=some u) (hp:h.objs.size<=a) (hn:H a=none):Un fs ex H (upd H a o) h h' where
 keep:=λ b u q _ _ _=>k b u q
 slot:=λ b u q _ _ _=>⟨u.slots,k b u q⟩
 free:=λ b u q n _=>by rw [upd_ne (Nat.ne_of_lt (Nat.lt_of_lt_of_le (Heap.lt_size q) hp))]; exact n
 there:=λ b u q _=>⟨u,k b u q⟩
 tups:=λ b xs q=>by rw [upd_ne (ne_of_none q hn)]; exact q
 frzs:=λ b u xs q=>by rw [upd_ne (ne_of_none q hn)]; exact q
 tbls:=λ b ps q=>⟨#[],by rw [upd_ne (ne_of_none q hn),q]; simp⟩
theorem Un.write (mu:Mut (H x)) (he:e=x\/H e=some (.own x)) (k:∀ b u,b ≠ e->h.get? b=some u->h'.get? b=some u) (heo:∃ u,h'.get? e=some u):Un fs ex H (upd H x o) h h':=by
 have hx:∀ b,H b=none->b ≠ x:=λ b n z=>by subst z; rw [n] at mu; exact mu
 have hb:∀ b,H b=none->b ≠ e:=λ b n z=>by
  subst z
  rcases he with r | r
  ·exact hx b n r
  ·rw [n] at r; cases r
 have hm:∀ b u,H b=some u->¬ Mut (some u)->b ≠ x:=λ b u q nm z=>by subst z; rw [q] at mu; exact nm mu
 refine ⟨λ b u q n _ _=>k b u (hb b n) q,λ b u q n _ _=>⟨u.slots,k b u (hb b n) q⟩,λ b u q n _=>by rw [upd_ne (hx b n)]; exact n,λ b u q _=>?_,
  λ b xs q=>by rw [upd_ne (hm b _ q λ z=>z)]; exact q,λ b u xs q=>by rw [upd_ne (hm b _ q λ z=>z)]; exact q,λ b ps q=>⟨#[],by rw [upd_ne (hm b _ q λ z=>z),q]; simp⟩⟩
 by_cases hbe:b=e
 ·subst hbe; exact heo
 ·exact ⟨u,k b u hbe q⟩
theorem Un.mono (u:Un fs ex H H1 h h1) (hs:∀ b ∈ fs,b ∈ fs') (hx:∀ b ∈ ex,b ∈ ex'):Un fs' ex' H H1 h h1 :=
 ⟨λ b ob q n hb he=>u.keep b ob q n (λ z=>hb (hs b z)) λ z=>he (hx b z),λ _ _ q n _ he=>u.any q n λ z=>he (hx _ z),λ b ob q n he=>u.free b ob q n λ z=>he (hx b z),λ b ob q he=>u.there b ob q λ z=>he (hx b z),u.tups,u.frzs,u.tbls⟩
end
def trk (h:Heap) (H:Hp):List Addr:=(List.range h.objs.size).filter λ a=>(H a).isSome
def hidT (h:Heap) (H:Hp):Heap:=PySem.W.hideAll h (trk h H)
theorem hidT_size (h:Heap) (H:Hp):(hidT h H).objs.size=h.objs.size:=PySem.W.hideAll_size _ _
theorem hidT_get {h:Heap} {H:Hp} {b:Addr} {o:Obj} (e:h.get? b=some o) (n:H b=none):(hidT h H).get? b=some o :=
 PySem.W.hideAll_get _ e λ hm=>by
  have q:(H b).isSome=true:=(List.mem_filter.mp hm).2
  rw [n] at q; simp at q
theorem of_hidT {h:Heap} {H:Hp} {b:Addr} {o:Obj} (e:(hidT h H).get? b=some o):h.get? b=some o/\H b=none:=by
 have e':h.get? b=some o:=PySem.W.of_hideAll (trk h H) e
 refine ⟨e',?_⟩
 cases q:H b with
 | none=>rfl
 | some x =>
   have hm:b ∈ trk h H:=List.mem_filter.mpr ⟨List.mem_range.mpr (Heap.lt_size e'),by simp [q]⟩
   have z:(hidT h H).get? b=none:=PySem.W.hideAll_none (trk h H) hm
   rw [z] at e; cases e
def allNews (g h:Heap) (L:Addr):List (Addr × Obj):=(List.range h.objs.size).filterMap λ a=>if a=L\/(g.get? a).isSome=true then none else (h.get? a).map λ o=>(a,o)
def rest (g h:Heap) (L d:Addr):List (Addr × Obj):=(allNews g h L).filter λ p=>decide (p.1 ≠ d)
end L2
namespace L2
open PySem PySem.Spec PyProof.Rows
structure Mod (K:PySem.W.Frag) (mg:Str->Option Value) (base:Heap):Prop where
 kin:K.In base
 glob:base.Ns mainGlobals mg
 blt:∃ mb,base.Ns builtinsNs mb/\∀ x:Str,x ≠ "__name__" -> mb x=bootBuiltins x
 nolimit:base.NoLimit
structure Cx where
 prog:Program
 w:World
 K:PySem.W.Frag
 mg:Str->Option Value
 base:Heap
 A:Around
 N:List Str
 s₀:Shared
 H₀:Hp
 env:Env
 outer:List Env
 stack:List Env
 ex:List Addr
 fn:Str->Bool
 calm:Bool
 pn:List (Addr × Obj)
 xe:Value->Shared->Prop
def frs (l:List Env):List Addr:=l.filterMap (·.frame)
abbrev Cx.fs (X:Cx):List Addr:=frs X.outer
def Vis (sc:Scope) (x:Str):Prop:=sc.names.lookup x=some .local\/sc.names.lookup x=some .cell\/sc.names.lookup x=some .free
def Loc (sc:Scope) (x:Str):Prop:=sc.names.lookup x=some .local\/sc.names.lookup x=some .cell
def Look (env:Env) (h:Heap) (m:Str->Option Value) (x:Str) (u:Value):Prop :=
 (env.kindOf x=some .local/\m x=some u)\/((env.kindOf x=some .cell\/env.kindOf x=some .free)/\∃ c,env.cells.lookup x=some c/\h.IsCell c (some u))
structure Cx.Ok (X:Cx):Prop where
 mod:Mod X.K X.mg X.base
 kind:X.env.scope.kind=.function
 glob:X.env.globals=mainGlobals
 blt:X.env.builtins=builtinsNs
 above:X.s₀.heap.objs.size<=X.env.locals
 inj:∀ x y c,X.env.cells.lookup x=some c->X.env.cells.lookup y=some c->x=y
 has:∀ x,(X.env.kindOf x=some .cell\/X.env.kindOf x=some .free)->∃ c,X.env.cells.lookup x=some c
 cab:∀ x c,X.fn x=true->X.env.cells.lookup x=some c->X.s₀.heap.objs.size<=c
 hd:X.calm=true->X.A.handled=none
 frames:X.A.frames=some X.stack
 stk:X.stack=X.outer\/(X.stack=X.env::X.outer/\X.env.frame=some X.env.locals)
 exf:∀ b ∈ X.ex,b ≠ X.env.locals/\∀ x c,X.env.cells.lookup x=some c->c ≠ b
 bs:∀ b o,X.base.get? b=some o->X.s₀.heap.get? b=some o/\X.H₀ b=none
 bsz:X.base.objs.size<=X.s₀.heap.objs.size
 noex:∀ b o,X.base.get? b=some o->b ∉ X.ex
 exfs:∀ b ∈ X.ex,b ∉ X.fs
 funs:X.s₀.heap.FunFrames X.base X.outer
 frf:∀ b ∈ X.fs,X.H₀ b=none
structure Inv (X:Cx) (pins:List (Addr × Obj)) (σ:List (Option V)) (H:Hp) (s:Shared):Prop where
 ok:X.Ok
 os:s.os=X.s₀.os
 bare:AllBare s.gens
 base:Un X.fs X.ex X.H₀ H X.s₀.heap s.heap
 loc:∃ m,s.heap.Ns X.env.locals m/\∀ (i:Nat) (x:Str) (v:V),X.N[i]?=some x->σ[i]?=some (some v)->Vis X.env.scope x->∃ u,RelV v u/\Look X.env s.heap m x u
 cell:∀ x c,X.env.cells.lookup x=some c->∃ v,s.heap.IsCell c v
 free:H X.env.locals=none
 freeC:∀ x c,X.env.cells.lookup x=some c->H c=none
 pin:∀ p ∈ X.pn++pins,s.heap.get? p.1=some p.2/\H p.1=none/\p.1 ≠ X.env.locals/\p.1 ∉ X.fs/\∀ v,p.2.data ≠ .cell v
 hok:HOk X.prog X.w H s.heap
 len:σ.length=X.N.length
section
variable {X:Cx} {pins:List (Addr × Obj)} {σ:List (Option V)} {H H':Hp} {s:Shared} {h':Heap}
theorem Cx.Ok.nofr (ok:X.Ok) {b:Addr} {o:Obj} (e:X.base.get? b=some o):b ∉ X.fs:=λ hb=>by
 have:=(ok.funs.mem hb).1
 rw [e] at this; cases this
theorem Inv.bs (I:Inv X pins σ H s):∀ b o,X.base.get? b=some o->s.heap.get? b=some o/\H b=none:=λ b o e =>
 ⟨I.base.keep b o (I.ok.bs b o e).1 (I.ok.bs b o e).2 (I.ok.nofr e) (I.ok.noex b o e),I.base.free b o (I.ok.bs b o e).1 (I.ok.bs b o e).2 (I.ok.noex b o e)⟩
theorem Inv.bk (I:Inv X pins σ H s):∀ b o,X.base.get? b=some o->s.heap.get? b=some o:=λ b o e=>(I.bs b o e).1
theorem Inv.mod (I:Inv X pins σ H s):Mod X.K X.mg X.base:=I.ok.mod
theorem Inv.kIn (I:Inv X pins σ H s):X.K.In s.heap:=I.ok.mod.kin.keeps I.bk
theorem Inv.nolimit (I:Inv X pins σ H s):s.heap.NoLimit:=I.ok.mod.nolimit.keeps I.bk
theorem Inv.fr (I:Inv X pins σ H s):∃ m,Fr X.base X.env.locals s.heap m :=
 let ⟨m,hn,_⟩:=I.loc
 ⟨m,hn,I.bk,Nat.le_trans I.ok.bsz I.ok.above⟩
theorem Inv.lt (I:Inv X pins σ H s):X.env.locals<s.heap.objs.size:=let ⟨_,hn,_⟩:=I.loc; hn.lt
theorem Inv.sz (I:Inv X pins σ H s):X.s₀.heap.objs.size<=s.heap.objs.size:=Nat.le_trans I.ok.above (Nat.le_of_lt I.lt)
theorem Inv.nofs (I:Inv X pins σ H s) {a:Addr} (h:s.heap.objs.size<=a):a ∉ X.fs:=λ hb=>by
 obtain ⟨_,o,ho,_⟩:=I.ok.funs.mem hb
 exact absurd (Nat.lt_of_lt_of_le (Heap.lt_size ho) (Nat.le_trans I.sz h)) (Nat.lt_irrefl _)
theorem Inv.cne (I:Inv X pins σ H s):∀ x c,X.env.cells.lookup x=some c->c ≠ X.env.locals:=λ x c e z=>by
 obtain ⟨v,o,ho,hd⟩:=I.cell x c e
 obtain ⟨m,⟨o',es,ep,ho',hd',_⟩,_⟩:=I.loc
 rw [z,ho'] at ho; cases ho; rw [hd'] at hd; cases hd
theorem Inv.funs (I:Inv X pins σ H s):s.heap.FunFrames X.base X.outer:=by
 have all:∀ (l:List Env),(∀ b ∈ frs l,b ∈ X.fs)->X.s₀.heap.FunFrames X.base l->s.heap.FunFrames X.base l:=by
  intro l
  induction l with
  | nil=>intro _ _; trivial
  | cons env r ih =>
    intro hs hl
    obtain ⟨hk,⟨L,o,hf,hn,ho,hd⟩,hr⟩:=hl
    have hL:L ∈ X.fs:=hs L (by unfold frs; rw [List.filterMap_cons,hf]; exact List.mem_cons_self)
    obtain ⟨sl,e⟩:=I.base.slot L o ho (I.ok.frf L hL) hL λ z=>I.ok.exfs L z hL
    exact ⟨hk,⟨L,_,hf,hn,e,hd⟩,ih (λ b hb=>hs b (by unfold frs; rw [List.filterMap_cons,hf]; exact List.mem_cons_of_mem _ hb)) hr⟩
 exact all X.outer (λ _ hb=>hb) I.ok.funs
theorem Inv.stack (I:Inv X pins σ H s):s.heap.FunFrames X.base X.stack:=by
 rcases I.ok.stk with e | ⟨e,hf⟩
 ·rw [e]; exact I.funs
 ·rw [e]
  obtain ⟨m,hn,_⟩:=I.loc
  refine .cons (by rw [I.ok.kind]; decide) hf hn ?_ I.funs
  exact Heap.get?_none_of_le (Nat.le_trans I.ok.bsz I.ok.above)
theorem Inv.stkSub (I:Inv X pins σ H s):∀ b ∈ frs X.stack,b ∈ X.env.locals::X.fs:=λ b hb=>by
 rcases I.ok.stk with e | ⟨e,hf⟩
 ·rw [e] at hb; exact List.mem_cons_of_mem _ hb
 ·rw [e] at hb
  unfold frs at hb
  rw [List.filterMap_cons,hf] at hb
  exact hb
theorem Inv.stkFree (I:Inv X pins σ H s):∀ b ∈ frs X.stack,H b=none:=λ b hb=>by
 rcases List.mem_cons.mp (I.stkSub b hb) with e | hb
 ·rw [e]; exact I.free
 ·obtain ⟨_,o,ho,_⟩:=I.ok.funs.mem hb
  exact I.base.free b o ho (I.ok.frf b hb) λ z=>I.ok.exfs b z hb
theorem Inv.step {g':Array GenState} {t':Nat} {d':Drawn} {ch:List Addr} (I:Inv X pins σ H s)
 (hch:∀ b ∈ ch,(b ∈ X.ex\/X.s₀.heap.objs.size<=b)/\b ≠ X.env.locals/\(∀ x c,X.env.cells.lookup x=some c->c ≠ b)/\∀ p ∈ X.pn++pins,p.1 ≠ b)
 (keep:∀ b o,b ≠ X.env.locals->b ∉ X.fs->b ∉ ch->s.heap.get? b=some o->H b=none->h'.get? b=some o)
 (slot:∀ b o,b ≠ X.env.locals->b ∈ X.fs->b ∉ ch->s.heap.get? b=some o->H b=none->∃ sl,h'.get? b=some { o with slots:=sl }) (free:∀ b o,b ∉ ch->s.heap.get? b=some o->H b=none->H' b=none)
 (there:∀ b o,b ∉ ch->s.heap.get? b=some o->∃ o',h'.get? b=some o')
 (tups:∀ b xs,H b=some (.tup xs)->H' b=some (.tup xs)) (frzs:∀ b o u,H b=some (.frz o u)->H' b=some (.frz o u)) (tbls:∀ b ps,H b=some (.tbl ps)->∃ more,H' b=some (.tbl (ps++more)))
 (ns:∀ m,s.heap.Ns X.env.locals m->h'.Ns X.env.locals m) (hok:HOk X.prog X.w H' h') (hg:AllBare g'):
 Inv X pins σ H' { s with heap:=h',gens:=g',drawn:=d',toks:=t' }:=by
 have neL:∀ b o,X.s₀.heap.get? b=some o->b ≠ X.env.locals:=λ b o e=>Nat.ne_of_lt (Nat.lt_of_lt_of_le (Heap.lt_size e) I.ok.above)
 have neC:∀ b o,X.s₀.heap.get? b=some o->b ∉ X.ex->b ∉ ch:=λ b o e hx hb=>by
  rcases (hch b hb).1 with z | z
  ·exact hx z
  ·exact absurd (Nat.lt_of_lt_of_le (Heap.lt_size e) z) (Nat.lt_irrefl _)
 have cellK:∀ x c,X.env.cells.lookup x=some c->∀ v,s.heap.IsCell c v->h'.IsCell c v:=λ x c e v ⟨o,ho,hd⟩=>by
  have nch:c ∉ ch:=λ z=>(hch c z).2.2.1 x c e rfl
  by_cases hc:c ∈ X.fs
  ·obtain ⟨sl,q⟩:=slot c o (I.cne x c e) hc nch ho (I.freeC x c e)
   exact ⟨_,q,hd⟩
  ·exact ⟨o,keep c o (I.cne x c e) hc nch ho (I.freeC x c e),hd⟩
 refine ⟨I.ok,I.os,hg,⟨λ b o e n hb hx=>?_,λ b o e n hb hx=>?_,λ b o e n hx=>?_,λ b o e hx=>?_,λ b xs e=>tups b xs (I.base.tups b xs e),λ b o xs e=>frzs b o xs (I.base.frzs b o xs e),λ b ps e=>?_⟩,?_,λ x c e=>?_,?_,λ x c e=>?_,λ p hp=>?_,hok,I.len⟩
 ·exact keep b o (neL b o e) hb (neC b o e hx) (I.base.keep b o e n hb hx) (I.base.free b o e n hx)
 ·obtain ⟨sl,e1⟩:=I.base.slot b o e n hb hx
  obtain ⟨sl',e2⟩:=slot b _ (neL b o e) hb (neC b o e hx) e1 (I.base.free b o e n hx)
  exact ⟨sl',e2⟩
 ·obtain ⟨o',e1⟩:=I.base.there b o e hx
  exact free b o' (neC b o e hx) e1 (I.base.free b o e n hx)
 ·obtain ⟨o',e1⟩:=I.base.there b o e hx
  exact there b o' (neC b o e hx) e1
 ·obtain ⟨m1,e1⟩:=I.base.tbls b ps e
  obtain ⟨m2,e2⟩:=tbls b _ e1
  exact ⟨m1++m2,by rw [e2,Array.append_assoc]⟩
 ·obtain ⟨m,hn,hl⟩:=I.loc
  refine ⟨m,ns m hn,λ i x v e1 e2 e3=>?_⟩
  obtain ⟨u,r,l⟩:=hl i x v e1 e2 e3
  refine ⟨u,r,?_⟩
  rcases l with l | ⟨k,c,e,z⟩
  ·exact .inl l
  ·exact .inr ⟨k,c,e,cellK x c e _ z⟩
 ·obtain ⟨v,z⟩:=I.cell x c e
  exact ⟨v,cellK x c e v z⟩
 ·obtain ⟨m,⟨o,_,_,ho,_⟩,_⟩:=I.loc
  exact free _ o (λ z=>(hch _ z).2.1 rfl) ho I.free
 ·obtain ⟨v,o,ho,hd⟩:=I.cell x c e
  exact free c o (λ z=>(hch c z).2.2.1 x c e rfl) ho (I.freeC x c e)
 ·obtain ⟨e,n,ne,nf,d⟩:=I.pin p hp
  have nch:p.1 ∉ ch:=λ z=>(hch p.1 z).2.2.2 p hp rfl
  exact ⟨keep p.1 p.2 ne nf nch e n,free p.1 p.2 nch e n,ne,nf,d⟩
theorem Inv.un {t':Nat} (I:Inv X pins σ H s) (u:Un X.fs [] H H' s.heap h') (hok:HOk X.prog X.w H' h'):Inv X pins σ H' { s with heap:=h',toks:=t' }:=by
 obtain ⟨m,⟨o,es,ep,ho,r⟩,_⟩:=id I.loc
 obtain ⟨sl,hL⟩:=u.any ho I.free (by simp)
 exact I.step (g':=s.gens) (d':=s.drawn) (ch:=[]) (λ _ z=>nomatch z) (λ b o _ hb _ e n=>u.keep b o e n hb (by simp)) (λ b o _ hb _ e n=>u.slot b o e n hb (by simp)) (λ b o _ e n=>u.free b o e n (by simp)) (λ b o _ e=>u.there b o e (by simp)) u.tups u.frzs u.tbls (λ m' hm=>by
  obtain ⟨o',es',ep',ho',r'⟩:=hm
  rw [ho] at ho'; cases ho'
  exact ⟨_,es',ep',hL,r'⟩) hok I.bare
theorem Inv.call {g':Array GenState} {t':Nat} {d':Drawn} {ch:List Addr} (I:Inv X pins σ H s) (u:Un (frs X.stack) ch H H' s.heap h') (hok:HOk X.prog X.w H' h') (hg:AllBare g')
 (hch:∀ b ∈ ch,(b ∈ X.ex\/X.s₀.heap.objs.size<=b)/\b ≠ X.env.locals/\(∀ x c,X.env.cells.lookup x=some c->c ≠ b)/\∀ p ∈ X.pn++pins,p.1 ≠ b):
 Inv X pins σ H' { s with heap:=h',gens:=g',drawn:=d',toks:=t' }:=by
 obtain ⟨m,⟨o,es,ep,ho,r⟩,_⟩:=id I.loc
 obtain ⟨sl,hL⟩:=u.any ho I.free λ z=>(hch _ z).2.1 rfl
 exact I.step (ch:=ch) hch (λ b o hL hb hc e n=>u.keep b o e n (λ z=>(List.mem_cons.mp (I.stkSub b z)).elim hL hb) hc) (λ b o _ _ hc e n=>u.any e n hc) (λ b o hc e n=>u.free b o e n hc) (λ b o hc e=>u.there b o e hc) u.tups u.frzs u.tbls (λ m' hm=>by
  obtain ⟨o',es',ep',ho',r'⟩:=hm
  rw [ho] at ho'; cases ho'
  exact ⟨_,es',ep',hL,r'⟩) hok hg
theorem Inv.turned {t':Nat} {it:Addr} (I:Inv X pins σ H s) (k:∀ b o,b ≠ it->s.heap.get? b=some o->h'.get? b=some o) (hn:H it=none) (hL:it ≠ X.env.locals)
 (h1:it ∈ X.ex\/X.s₀.heap.objs.size<=it) (h2:∀ x c,X.env.cells.lookup x=some c->c ≠ it) (h3:∀ p ∈ X.pn++pins,p.1 ≠ it):Inv X pins σ H { s with heap:=h',toks:=t' }:=by
 have nit:∀ b u,H b=some u->b ≠ it:=λ b u e z=>by rw [z,hn] at e; cases e
 refine I.step (g':=s.gens) (d':=s.drawn) (ch:=[it]) (λ b hb=>?_) (λ b o _ _ hc e _=>k b o (λ z=>hc (by simp [z])) e) (λ b o _ _ hc e _=>⟨o.slots,k b o (λ z=>hc (by simp [z])) e⟩) (λ _ _ _ _ n=>n)
  (λ b o hc e=>⟨o,k b o (λ z=>hc (by simp [z])) e⟩) (λ _ _ e=>e) (λ _ _ _ e=>e) (λ b ps e=>⟨#[],by rw [e]; simp⟩) (λ m hm=>?_) (λ b u e=>?_) I.bare
 ·have e:b=it:=by simpa using hb
  subst e
  exact ⟨h1,hL,h2,h3⟩
 ·obtain ⟨o,es,ep,ho,r⟩:=hm
  exact ⟨o,es,ep,k _ o (Ne.symm hL) ho,r⟩
 ·refine (I.hok b u e).stay (λ c v hc q=>k c v ?_ q) (λ _ q=>q) λ _ _ q=>q
  rcases hc with z | z
  ·rw [z]; exact nit b u e
  ·exact nit c _ z
theorem Inv.tok (I:Inv X pins σ H s) (t:Nat):Inv X pins σ H { s with toks:=t }:=I.un (h':=s.heap) (t':=t) Un.refl I.hok
theorem Inv.kept {t':Nat} (I:Inv X pins σ H s) (k:∀ b u,s.heap.get? b=some u->h'.get? b=some u):Inv X pins σ H { s with heap:=h',toks:=t' }:=I.un (Un.kept k) (I.hok.kept k)
theorem Inv.laid {a:Addr} {o:HO} {t':Nat} (I:Inv X pins σ H s) (k:∀ b u,s.heap.get? b=some u->h'.get? b=some u) (hp:s.heap.objs.size<=a) (new:ObjOk X.prog X.w (upd H a o) h' a o):
 Inv X pins σ (upd H a o) { s with heap:=h',toks:=t' }:=I.un (Un.laid k hp (I.hok.fresh hp)) (I.hok.laid k hp new)
theorem Inv.write {x e:Addr} {o:HO} {t':Nat} (I:Inv X pins σ H s) (mu:Mut (H x)) (he:e=x\/H e=some (.own x)) (k:∀ b u,b ≠ e->s.heap.get? b=some u->h'.get? b=some u) (heo:∃ u,h'.get? e=some u)
 (new:ObjOk X.prog X.w (upd H x o) h' x o):Inv X pins σ (upd H x o) { s with heap:=h',toks:=t' }:=I.un (Un.write mu he k heo) (I.hok.write mu he k heo new)
theorem Inv.pins_of {pins':List (Addr × Obj)} (I:Inv X pins σ H s) (h:∀ p ∈ pins',s.heap.get? p.1=some p.2/\H p.1=none/\p.1 ≠ X.env.locals/\p.1 ∉ X.fs/\∀ v,p.2.data ≠ .cell v):Inv X pins' σ H s :=
 ⟨I.ok,I.os,I.bare,I.base,I.loc,I.cell,I.free,I.freeC,λ p hp=>(List.mem_append.mp hp).elim (λ z=>I.pin p (List.mem_append_left _ z)) (h p),I.hok,I.len⟩
theorem nodup_ix {N:List Str} (hN:N.Nodup) {i j:Nat} {x:Str} (a:N[i]?=some x) (b:N[j]?=some x):i=j:=by
 obtain ⟨h1,e1⟩:=List.getElem?_eq_some_iff.mp a
 obtain ⟨h2,e2⟩:=List.getElem?_eq_some_iff.mp b
 exact (List.getElem_inj hN).mp (e1.trans e2.symm)
theorem store_ok2 {M:Model} {A:Around} {E:Value->Shared->Prop} {i:Nat} {x:Str} {v:V} {u:Value} {Q:Unit->Shared->Prop} (I:Inv X pins σ H s) (hN:X.N.Nodup) (hi:X.N[i]?=some x) (hx:Loc X.env.scope x) (r:RelV v u)
 (h:∀ s',Inv X pins (σ.set i (some v)) H s'->(∃ a,Heap.SameBut a s.heap s'.heap/\(a=X.env.locals\/X.env.cells.lookup x=some a))->Q () s') (hf:X.fn x=true\/X.env.scope.names.lookup x=some .local:=by first | exact .inl rfl | exact .inr rfl | assumption):wpAny M A (storeName X.env x u) Q E s:=by
 obtain ⟨m,hn,hl⟩:=id I.loc
 have hcls:(X.env.scope.kind == .class || (X.env.scope.kind == .module && X.env.locals != X.env.globals))=false:=by rw [I.ok.kind]; rfl
 have hiσ:i<σ.length:=by rw [I.len]; exact (List.getElem?_eq_some_iff.mp hi).1
 have cne:=I.cne
 have tracked:∀ {a:Addr} {h':Heap},(∃ o,s.heap.get? a=some o/\H a=none)->Heap.SameBut a s.heap h'->HOk X.prog X.w H h':=λ {a h'} ha hs b ob e=>by
  obtain ⟨_,_,hfree⟩:=ha
  refine (I.hok b ob e).stay (λ c w' hc q=>(hs.2 c ?_).trans q) (λ _ q=>q) λ _ _ q=>q
  rintro rfl
  rcases hc with rfl | hc
  ·rw [hfree] at e; cases e
  ·rw [hfree] at hc; cases hc
 rcases hx with hk | hk
 ·refine wpAny_storeName_local hk hn (λ h' hn' hs=>?_) hcls
  obtain ⟨oL,_,_,hoL,_⟩:=id hn
  refine h _ ⟨I.ok,I.os,I.bare,⟨λ b o e n hb hx=>?_,λ b o e n hb hx=>?_,I.base.free,λ b o e hx=>?_,I.base.tups,I.base.frzs,I.base.tbls⟩,⟨_,hn',λ j y v' e1 e2 e3=>?_⟩,λ y c e=>?_,I.free,I.freeC,λ p hp=>?_,tracked ⟨oL,hoL,I.free⟩ hs,by simpa using I.len⟩ ⟨_,hs,.inl rfl⟩
  ·exact (hs.2 b (Nat.ne_of_lt (Nat.lt_of_lt_of_le (Heap.lt_size e) I.ok.above))).trans (I.base.keep b o e n hb hx)
  ·obtain ⟨sl,e1⟩:=I.base.slot b o e n hb hx
   exact ⟨sl,(hs.2 b (Nat.ne_of_lt (Nat.lt_of_lt_of_le (Heap.lt_size e) I.ok.above))).trans e1⟩
  ·obtain ⟨o',e1⟩:=I.base.there b o e hx
   exact ⟨o',(hs.2 b (Nat.ne_of_lt (Nat.lt_of_lt_of_le (Heap.lt_size e) I.ok.above))).trans e1⟩
  ·by_cases hj:j=i
   ·subst hj
    rw [hi] at e1; cases e1
    rw [List.getElem?_set_self hiσ] at e2
    cases e2
    exact ⟨u,r,.inl ⟨hk,by simp⟩⟩
   ·rw [List.getElem?_set_ne (Ne.symm hj)] at e2
    obtain ⟨u',r',q⟩:=hl j y v' e1 e2 e3
    refine ⟨u',r',?_⟩
    rcases q with ⟨k,e⟩ | ⟨k,c,e,z⟩
    ·refine .inl ⟨k,?_⟩
     have:y ≠ x:=λ e=>hj (nodup_ix hN e1 (e ▸ hi))
     simp [this,e]
    ·exact .inr ⟨k,c,e,z.sameBut hs (cne y c e)⟩
  ·obtain ⟨w',z⟩:=I.cell y c e
   exact ⟨w',z.sameBut hs (cne y c e)⟩
  ·obtain ⟨e,n,ne,nf,d⟩:=I.pin p hp
   exact ⟨(hs.2 p.1 ne).trans e,n,ne,nf,d⟩
 ·have hfn:X.fn x=true:=by
   rcases hf with z | z
   ·exact z
   ·rw [z] at hk; cases hk
  obtain ⟨c,hc⟩:=I.ok.has x (.inl hk)
  obtain ⟨w',z⟩:=I.cell x c hc
  refine wpAny_storeName_cell I.ok.kind hk hc z (λ h' hc' hs=>?_)
  obtain ⟨oc,hoc,hocd⟩:=id z
  refine h { s with heap:=h' } ⟨I.ok,I.os,I.bare,⟨λ b o e n hb hx=>?_,λ b o e n hb hx=>?_,I.base.free,λ b o e hx=>?_,I.base.tups,I.base.frzs,I.base.tbls⟩,⟨m,hn.sameBut hs (Ne.symm (cne x c hc)),λ j y v' e1 e2 e3=>?_⟩,λ y c' e=>?_,I.free,I.freeC,λ p hp=>?_,tracked ⟨oc,hoc,I.freeC x c hc⟩ hs,by simpa using I.len⟩ ⟨c,hs,.inr hc⟩
  ·exact (hs.2 b (Nat.ne_of_lt (Nat.lt_of_lt_of_le (Heap.lt_size e) (I.ok.cab x c hfn hc)))).trans (I.base.keep b o e n hb hx)
  ·obtain ⟨sl,e1⟩:=I.base.slot b o e n hb hx
   exact ⟨sl,(hs.2 b (Nat.ne_of_lt (Nat.lt_of_lt_of_le (Heap.lt_size e) (I.ok.cab x c hfn hc)))).trans e1⟩
  ·obtain ⟨o',e1⟩:=I.base.there b o e hx
   exact ⟨o',(hs.2 b (Nat.ne_of_lt (Nat.lt_of_lt_of_le (Heap.lt_size e) (I.ok.cab x c hfn hc)))).trans e1⟩
  ·by_cases hj:j=i
   ·subst hj
    rw [hi] at e1; cases e1
    rw [List.getElem?_set_self hiσ] at e2
    cases e2
    exact ⟨u,r,.inr ⟨.inl hk,c,hc,hc'⟩⟩
   ·rw [List.getElem?_set_ne (Ne.symm hj)] at e2
    obtain ⟨u',r',q⟩:=hl j y v' e1 e2 e3
    refine ⟨u',r',?_⟩
    rcases q with q | ⟨k,c',e,z'⟩
    ·exact .inl q
    ·refine .inr ⟨k,c',e,z'.sameBut hs ?_⟩
     rintro rfl
     exact hj (nodup_ix hN e1 (I.ok.inj _ _ _ e hc ▸ hi))
  ·by_cases hcc:c'=c
   ·subst hcc; exact ⟨_,hc'⟩
   ·obtain ⟨w2,z2⟩:=I.cell y c' e
    exact ⟨w2,z2.sameBut hs hcc⟩
  ·obtain ⟨e,n,ne,nf,d⟩:=I.pin p hp
   refine ⟨(hs.2 p.1 ?_).trans e,n,ne,nf,d⟩
   intro q
   rw [q,hoc] at e
   have q':oc=p.2:=Option.some.inj e
   exact d w' (by rw [← q']; exact hocd)
theorem store_ok {M:Model} {A:Around} {E:Value->Shared->Prop} {i:Nat} {x:Str} {v:V} {u:Value} {Q:Unit->Shared->Prop} (I:Inv X pins σ H s) (hN:X.N.Nodup) (hi:X.N[i]?=some x) (hx:Loc X.env.scope x) (r:RelV v u)
 (h:∀ s',Inv X pins (σ.set i (some v)) H s'->Q () s') (hf:X.fn x=true\/X.env.scope.names.lookup x=some .local:=by first | exact .inl rfl | exact .inr rfl | assumption):wpAny M A (storeName X.env x u) Q E s :=
 store_ok2 I hN hi hx r (λ s' I' _=>h s' I') hf
theorem Inv.call' {s':Shared} {ch:List Addr} (I:Inv X pins σ H s) (ho:s'.os=s.os) (u:Un (frs X.stack) ch H H' s.heap s'.heap) (hok:HOk X.prog X.w H' s'.heap) (hg:AllBare s'.gens)
 (hch:∀ b ∈ ch,(b ∈ X.ex\/X.s₀.heap.objs.size<=b)/\b ≠ X.env.locals/\(∀ x c,X.env.cells.lookup x=some c->c ≠ b)/\∀ p ∈ X.pn++pins,p.1 ≠ b):Inv X pins σ H' s':=by
 obtain ⟨h',g',d',t',o'⟩:=s'
 have e:o'=s.os:=ho
 subst e
 exact I.call (g':=g') (t':=t') (d':=d') u hok hg hch
end
abbrev XK:=Value->Option Addr->Hp->Prop
abbrev St:=List (Option V)
abbrev VK:=V->Hp->Prop
abbrev TE:=St->Hp->VK->Prop
abbrev TT:=St->Hp->(Bool->Hp->Prop)->Prop
abbrev TA:=St->Hp->(List V->Hp->Prop)->Prop
structure Ends where
 nx:St->Hp->Prop
 rt:VK
 bk:St->Hp->Prop:=λ _ _=>False
 ct:St->Hp->Prop:=λ _ _=>False
abbrev TS:=Ends->St->Hp->Prop
def EP (X:Cx) (pins:List (Addr × Obj)) (σ:St) (Q:VK) (u:Value) (s':Shared):Prop:=∃ v H',Inv X pins σ H' s'/\RelV v u/\Q v H'
def TP (X:Cx) (pins:List (Addr × Obj)) (σ:St) (Q:Bool->Hp->Prop) (b:Bool) (s':Shared):Prop:=∃ H',Inv X pins σ H' s'/\Q b H'
def AP (X:Cx) (pins:List (Addr × Obj)) (σ:St) (Q:List V->Hp->Prop) (us:List Value) (s':Shared):Prop:=∃ vs H',Inv X pins σ H' s'/\Vals vs us/\Q vs H'
def SP (X:Cx) (pins:List (Addr × Obj)) (D:Ends) (f:Flow) (s':Shared):Prop :=
 match f with
 | .next=>∃ σ' H',Inv X pins σ' H' s'/\D.nx σ' H'
 | .brk=>∃ σ' H',Inv X pins σ' H' s'/\D.bk σ' H'
 | .cont=>∃ σ' H',Inv X pins σ' H' s'/\D.ct σ' H'
 | .ret u=>∃ v σ' H',Inv X pins σ' H' s'/\RelV v u/\D.rt v H'
def PE (X:Cx) (e:Expr) (t:TE):Prop :=
 ∀ (pins:List (Addr × Obj)) (s:Shared) (σ:St) (H:Hp) (Q:VK),Inv X pins σ H s->t σ H Q->wpAny (model X.prog X.w) X.A (eval e X.env) (EP X pins σ Q) X.xe s
def PT (X:Cx) (e:Expr) (t:TT):Prop :=
 ∀ (pins:List (Addr × Obj)) (s:Shared) (σ:St) (H:Hp) (Q:Bool->Hp->Prop),Inv X pins σ H s->t σ H Q->wpAny (model X.prog X.w) X.A (isTrue e X.env (eval e X.env)) (TP X pins σ Q) X.xe s
def PW (X:Cx) (e:Expr) (t:TT):Prop :=
 ∀ (whole:Sem Value) (pins:List (Addr × Obj)) (s:Shared) (σ:St) (H:Hp) (Q:Bool->Hp->Prop),Inv X pins σ H s->t σ H Q->wpAny (model X.prog X.w) X.A (isTrue e X.env whole) (TP X pins σ Q) X.xe s
theorem PW.pt {X:Cx} {e:Expr} {t:TT} (h:PW X e t):PT X e t:=h _
def PA (X:Cx) (es:List Expr) (t:TA):Prop :=
 ∀ (pos:Pos) (pins:List (Addr × Obj)) (s:Shared) (σ:St) (H:Hp) (Q:List V->Hp->Prop),Inv X pins σ H s->t σ H Q->wpAny (model X.prog X.w) X.A (spliced (backTo pos (starEach es X.env))) (AP X pins σ Q) X.xe s
def PS (X:Cx) (st:Stmt) (t:TS):Prop :=
 ∀ (pins:List (Addr × Obj)) (s:Shared) (σ:St) (H:Hp) (D:Ends),Inv X pins σ H s->t D σ H->wpAny (model X.prog X.w) X.A (exec st X.env) (SP X pins D) X.xe s
def PSs (X:Cx) (st:List Stmt) (t:TS):Prop :=
 ∀ (pins:List (Addr × Obj)) (s:Shared) (σ:St) (H:Hp) (D:Ends),Inv X pins σ H s->t D σ H->wpAny (model X.prog X.w) X.A (execs st X.env) (SP X pins D) X.xe s
theorem thn {α:Type} {t:Sem α} {Q Q':α->Shared->Prop} {M:Model} {A:Around} {E:Value->Shared->Prop} {s:Shared} (h:wpAny M A t Q E s) (hQ:∀ a s,Q a s->Q' a s):wpAny M A t Q' E s:=wpAny_mono h hQ λ _ _ x=>x
end L2
namespace L2
open PySem PySem.Spec PyProof.Rows
section
variable {X:Cx}
def tVar (i:Nat):TE:=λ σ H Q=>∃ v,σ[i]?=some (some v)/\Q v H
def tC (v:V):TE:=λ _ H Q=>Q v H
theorem pe_var {i:Nat} {x:Str} {pos:Pos} (hN:X.N[i]?=some x) (hv:Vis X.env.scope x) (hd:(x == ("__debug__" : Str))=false:=by decide) (hcd:(x == ("__classdict__" : Str))=false:=by decide):PE X (.Name x pos) (tVar i):=by
 intro pins s σ H Q I h
 obtain ⟨v,e,h⟩:=h
 obtain ⟨m,hn,hl⟩:=I.loc
 obtain ⟨u,r,l⟩:=hl i x v hN e hv
 have fin:EP X pins σ Q u s:=⟨v,H,I,r,h⟩
 rcases l with ⟨hk,hm⟩ | ⟨hk,c,hc,hcell⟩
 ·exact wpAny_Name (wpAny_loadName_local I.ok.kind hk hn hm fin) hd
 ·rcases hk with hk | hk
  ·exact wpAny_Name (wpAny_loadName_cell I.ok.kind hk hc hcell fin) hd
  ·exact wpAny_Name (wpAny_loadName_free I.ok.kind hk hc hcell fin hcd) hd
theorem pe_int {i j pos}:PE X (.Constant (.int i) j pos) (tC (.int i)):=λ _ _ _ H _ I h=>wpAny_Constant_int ⟨.int i,H,I.tok _,⟨_,rfl⟩,h⟩
theorem pe_bl {b j pos}:PE X (.Constant (.bool b) j pos) (tC (.bl b)):=λ _ _ _ H _ I h=>Constant_bool ⟨.bl b,H,I,rfl,h⟩
theorem pe_non {j pos}:PE X (.Constant .none j pos) (tC .non):=λ _ _ _ H _ I h=>Constant_none ⟨.non,H,I,rfl,h⟩
theorem pe_str {x j pos}:PE X (.Constant (.str x) j pos) (tC (.str x)):=λ _ _ _ H _ I h=>Calls.Constant_str ⟨.str x,H,I.tok _,⟨_,rfl⟩,h⟩
def Gl (X:Cx) (x:Str):Prop:=X.env.kindOf x=some .globalImplicit
theorem ld_glob {E:Value->Shared->Prop} {pins:List (Addr × Obj)} {s:Shared} {σ:St} {H:Hp} {x:Str} {u:Value} {pos:Pos} {Q:Value->Shared->Prop} (I:Inv X pins σ H s) (hg:Gl X x) (hm:X.mg x=some u) (h:Q u s)
 (hd:(x == ("__debug__" : Str))=false:=by decide):wpAny (model X.prog X.w) X.A (eval (.Name x pos) X.env) Q E s :=
 Calls.Name_function_global I.ok.kind hg (Calls.loadGlobal_global (by rw [I.ok.glob]; exact I.mod.glob.keeps I.bk) hm h) hd
theorem ld_blt {E:Value->Shared->Prop} {pins:List (Addr × Obj)} {s:Shared} {σ:St} {H:Hp} {x:Str} {u:Value} {pos:Pos} {Q:Value->Shared->Prop} (I:Inv X pins σ H s) (hg:Gl X x) (hm:X.mg x=none) (hv:bootBuiltins x=some u) (h:Q u s)
 (hn:x ≠ "__name__":=by decide) (hd:(x == ("__debug__" : Str))=false:=by decide):wpAny (model X.prog X.w) X.A (eval (.Name x pos) X.env) Q E s:=by
 obtain ⟨mb,h1,h2⟩:=I.mod.blt
 exact Calls.Name_function_global I.ok.kind hg (Calls.loadGlobal_builtin (by rw [I.ok.glob]; exact I.mod.glob.keeps I.bk) hm (by rw [I.ok.blt]; exact h1.keeps I.bk) ((h2 x hn).trans hv) h) hd
theorem pe_glob {x:Str} {v:V} {u:Value} {pos:Pos} (hg:Gl X x) (hm:X.mg x=some u) (r:RelV v u) (hd:(x == ("__debug__" : Str))=false:=by decide):PE X (.Name x pos) (tC v) :=
 λ _ _ _ H _ I h=>ld_glob I hg hm ⟨v,H,I,r,h⟩ hd
theorem pe_bltn {x:Str} {v:V} {u:Value} {pos:Pos} (hg:Gl X x) (hm:X.mg x=none) (hv:bootBuiltins x=some u) (r:RelV v u) (hn:x ≠ "__name__":=by decide) (hd:(x == ("__debug__" : Str))=false:=by decide):PE X (.Name x pos) (tC v) :=
 λ _ _ _ H _ I h=>ld_blt I hg hm hv ⟨v,H,I,r,h⟩ hn hd
variable {a b:Expr} {ta tb:TE} {pos:Pos}
def PC (X:Cx) (op:CmpOp) (a b:Expr) (t:TE):Prop :=
 ∀ (pins:List (Addr × Obj)) (s:Shared) (σ:St) (H:Hp) (Q:VK),Inv X pins σ H s->t σ H Q->
   wpAny (model X.prog X.w) X.A (eval a X.env) (λ v s₁=>wpAny (model X.prog X.w) X.A (eval b X.env) (λ u s₂=>wpAny (model X.prog X.w) X.A (compareOp op v u) (EP X pins σ Q) X.xe s₂) X.xe s₁) X.xe s
theorem nobehind (b:Expr) {op:CmpOp} (h:op ≠ .In) (h2:op ≠ .NotIn):behindInMarks op b=false:=by
 have e1:(op == CmpOp.In)=false:=by cases op<;>first | rfl | exact absurd rfl h
 have e2:(op == CmpOp.NotIn)=false:=by cases op<;>first | rfl | exact absurd rfl h2
 cases b<;>simp [behindInMarks,e1,e2]
def tIsN (ta:TE):TE:=λ σ H Q=>ta σ H λ x H1=>Q (.bl (decide (x=.non))) H1
theorem RelV.none_iff {x:V} {v:Value} (r:RelV x v):(v == Value.none)=decide (x=.non):=by
 cases x with
 | non=>cases r; rfl
 | bl _=>cases r; rfl
 | int _=>obtain ⟨t,rfl⟩:=r; rfl
 | str _=>obtain ⟨t,rfl⟩:=r; rfl
 | byt _=>obtain ⟨t,rfl⟩:=r; rfl
 | flt _=>obtain ⟨t,rfl⟩:=r; rfl
 | ref _=>cases r; rfl
 | ty _=>cases r; rfl
theorem pc_isN {j pos'} (ha:PE X a ta):PC X .Is a (.Constant .none j pos') (tIsN ta):=by
 intro pins s σ H Q I h
 refine thn (ha pins s σ H _ I h) λ v s1 ⟨x,H1,I1,r1,q1⟩=>?_
 exact Constant_none (is_none_gen ⟨.bl _,H1,I1,by rw [r1.none_iff]; rfl,q1⟩)
def tB (t:TE):TT:=λ σ H Q=>t σ H λ x H1=>∃ c,x=.bl c/\Q c H1
theorem pt_cmp {op:CmpOp} {t:TE} (h:PC X op a b t) (h1:behindInMarks op b=false:=by first | exact nobehind _ (by decide) (by decide) | rfl):PT X (.Compare a [op] [b] pos) (tB t):=by
 intro pins s σ H Q I hw
 refine wpAny_isTrue_Compare1 (thn (h pins s σ H _ I hw) λ v s1 h1=>thn h1 λ u s2 h2=>thn h2 λ c s3 ⟨x,H1,I1,r1,q1⟩=>?_) h1
 obtain ⟨d,rfl,q⟩:=q1
 cases r1
 exact wpAny_truthy_bool ⟨H1,I1,q⟩
theorem pt_val {e:Expr} {t:TE} (h:PE X e t) (he:∀ whole,isTrue e X.env whole=(do let v ← whole; standAt e.pos; holding [v] (truthy v)):=by intro _; rfl):PT X e (tB t):=by
 intro pins s σ H Q I hw
 refine isTrue_plain (thn (h pins s σ H _ I hw) λ v s1 ⟨x,H1,I1,r1,q1⟩=>?_) (he _)
 obtain ⟨d,rfl,q⟩:=q1
 cases r1
 exact wpAny_truthy_bool ⟨H1,I1,q⟩
variable {tA tB':TT} {rest:List Expr}
def tOr (t u:TT):TT:=λ σ H Q=>t σ H λ c H1=>if c=true then Q true H1 else u σ H1 Q
def tNot (t:TT):TT:=λ σ H Q=>t σ H λ c H1=>Q (!c) H1
theorem pw_or1 (ha:PT X a tA):PW X (.BoolOp .Or [a] pos) tA:=by
 intro wh pins s σ H Q I h
 refine isTrue_or (thn (ha pins s σ H Q I h) λ c s1 e=>?_)
 cases c with
 | false=>exact isTrue_or_nil e
 | true=>exact e
theorem pw_or (ha:PT X a tA) (hb:PW X (.BoolOp .Or (b::rest) pos) tB'):PW X (.BoolOp .Or (a::b::rest) pos) (tOr tA tB'):=by
 intro wh pins s σ H Q I h
 refine isTrue_or (thn (ha pins s σ H _ I h) λ c s1 ⟨H1,I1,q1⟩=>?_)
 cases c with
 | true=>exact ⟨H1,I1,q1⟩
 | false=>exact hb wh pins s1 σ H1 Q I1 q1
theorem pt_not (ha:PT X a tA):PT X (.UnaryOp .Not a pos) (tNot tA):=by
 intro pins s σ H Q I h
 exact isTrue_not (ha pins s σ H (λ c H1=>Q (!c) H1) I h)
def tAndV (ta tb:TE):TE:=λ σ H Q=>ta σ H λ x H1=>∃ c,x=.bl c/\if c=true then tb σ H1 Q else Q (.bl false) H1
def tNotV (ta:TE):TE:=λ σ H Q=>ta σ H λ x H1=>∃ c,x=.bl c/\Q (.bl (!c)) H1
theorem pe_one {op} {t:TE} (h:PE X a t):PE X (.BoolOp op [a] pos) t:=λ pins s σ H Q I hw=>BoolOp_one (h pins s σ H Q I hw)
theorem pe_and (ha:PE X a ta) (hb:PE X (.BoolOp .And (b::rest) pos) tb):PE X (.BoolOp .And (a::b::rest) pos) (tAndV ta tb):=by
 intro pins s σ H Q I h
 refine BoolOp_and (thn (ha pins s σ H _ I h) λ v s1 ⟨x,H1,I1,r1,q1⟩=>?_)
 obtain ⟨c,rfl,q1⟩:=q1
 cases r1
 refine wpAny_truthy_bool ?_
 cases c with
 | true=>exact hb pins s1 σ H1 Q I1 q1
 | false=>exact ⟨.bl false,H1,I1,rfl,q1⟩
theorem pe_not (ha:PE X a ta):PE X (.UnaryOp .Not a pos) (tNotV ta):=by
 intro pins s σ H Q I h
 refine UnaryOp_ (thn (ha pins s σ H _ I h) λ v s1 ⟨x,H1,I1,r1,q1⟩=>?_)
 obtain ⟨c,rfl,q1⟩:=q1
 cases r1
 exact not_of (wpAny_truthy_bool ⟨.bl (!c),H1,I1,rfl,q1⟩)
end
end L2
namespace L2
open PySem PySem.Spec PyProof.Rows
def SqL (K:PySem.W.Frag) (H:Hp) (a:Addr) (xs:List V):Prop :=
 Rd H a (.lst xs)\/
  ∃ (o:Obj) (its:Array Value) (n:Nat),K.lookup a=some o/\o.cls=.type "list" /\ o.dict=none/\o.data=.seq its n/\its.size<=sizeLine/\Vals xs its.toList
def SqT (K:PySem.W.Frag) (H:Hp) (a:Addr) (xs:List V):Prop :=
 Rd H a (.tup xs)\/
  ∃ (o:Obj) (its:Array Value) (n:Nat),K.lookup a=some o/\o.cls=.type "tuple" /\ o.data=.seq its n/\its.size<=sizeLine/\Vals xs its.toList
def absV:Value->Option V
 | .none=>some .non
 | .bool b=>some (.bl b)
 | .int i _=>some (.int i)
 | .str x _=>some (.str x)
 | .bytes b _=>some (.byt b)
 | .float b _=>some (.flt b)
 | .ref a=>some (.ref a)
 | .type n=>some (.ty n)
 | _=>none
theorem RelV.abs {x:V} {u:Value} (r:RelV x u):absV u=some x:=by
 cases x with
 | non=>cases r; rfl
 | bl _=>cases r; rfl
 | int _=>obtain ⟨t,rfl⟩:=r; rfl
 | str _=>obtain ⟨t,rfl⟩:=r; rfl
 | byt _=>obtain ⟨t,rfl⟩:=r; rfl
 | flt _=>obtain ⟨t,rfl⟩:=r; rfl
 | ref _=>cases r; rfl
 | ty _=>cases r; rfl
theorem RelV.inj {x y:V} {u:Value} (r:RelV x u) (q:RelV y u):x=y:=Option.some.inj (r.abs.symm.trans q.abs)
theorem Vals.inj:∀ {xs ys:List V} {us:List Value},Vals xs us->Vals ys us->xs=ys
 | _,_,_,.nil,.nil=>rfl
 | _,_,_,.cons r t,.cons r' t'=>by rw [r.inj r',Vals.inj t t']
section
variable {X:Cx} {pins:List (Addr × Obj)} {σ:St} {H:Hp} {s:Shared} {a:Addr} {xs ys:List V}
theorem SqL.of {K:PySem.W.Frag} (h:H a=some (.lst xs)):SqL K H a xs:=.inl (.inl h)
theorem SqT.of {K:PySem.W.Frag} (h:H a=some (.tup xs)):SqT K H a xs:=.inl (.inl h)
theorem Inv.list (I:Inv X pins σ H s) (h:SqL X.K H a xs):∃ its:List Value,Vals xs its/\PlainL s.heap a its.toArray/\xs.length<=sizeLine:=by
 rcases h with h | ⟨o,its,n,hk,hc,hd,hs,hz,r⟩
 ·obtain ⟨z,its,n,r,e⟩:=h.ok I.hok
  exact ⟨its,r,⟨_,n,e,rfl,rfl,rfl⟩,z⟩
 ·refine ⟨its.toList,r,⟨o,n,I.kIn a o hk,hc,hd,by simpa using hs⟩,?_⟩
  have e:=r.length
  simp only [Array.length_toList] at e
  omega
theorem Inv.tuple (I:Inv X pins σ H s) (h:SqT X.K H a xs):∃ its:List Value,Vals xs its/\IsTup s.heap a its.toArray/\xs.length<=sizeLine:=by
 rcases h with h | ⟨o,its,n,hk,hc,hs,hz,r⟩
 ·obtain ⟨z,its,r,p⟩:=h.ok I.hok
  exact ⟨its,r,p,z⟩
 ·refine ⟨its.toList,r,⟨o,I.kIn a o hk,hc,n,by simpa using hs⟩,?_⟩
  have e:=r.length
  simp only [Array.length_toList] at e
  omega
theorem Inv.list_inj (I:Inv X pins σ H s) (h:SqL X.K H a xs) (h':SqL X.K H a ys):xs=ys:=by
 obtain ⟨its,r,⟨o,n,e,_,_,d⟩,_⟩:=I.list h
 obtain ⟨its',r',⟨o',n',e',_,_,d'⟩,_⟩:=I.list h'
 rw [e] at e'; cases e'
 rw [d] at d'
 injection d' with d1 _
 have:its=its':=by simpa using congrArg Array.toList d1
 subst this
 exact r.inj r'
theorem Inv.tuple_inj (I:Inv X pins σ H s) (h:SqT X.K H a xs) (h':SqT X.K H a ys):xs=ys:=by
 obtain ⟨its,r,⟨o,e,_,n,d⟩,_⟩:=I.tuple h
 obtain ⟨its',r',⟨o',e',_,n',d'⟩,_⟩:=I.tuple h'
 rw [e] at e'; cases e'
 rw [d] at d'
 injection d' with d1 _
 have:its=its':=by simpa using congrArg Array.toList d1
 subst this
 exact r.inj r'
end
abbrev Cx.wish (X:Cx) (E:Value->Shared->Prop):Cx:={ X with xe:=E }
abbrev Cx.nox (X:Cx):Cx:=X.wish λ _ _=>False
theorem Cx.Ok.wish {X:Cx} (ok:X.Ok) (E:Value->Shared->Prop):(X.wish E).Ok :=
 ⟨ok.mod,ok.kind,ok.glob,ok.blt,ok.above,ok.inj,ok.has,ok.cab,ok.hd,ok.frames,ok.stk,ok.exf,ok.bs,ok.bsz,ok.noex,ok.exfs,ok.funs,ok.frf⟩
theorem Cx.Ok.unwish {X:Cx} {E:Value->Shared->Prop} (ok:(X.wish E).Ok):X.Ok :=
 ⟨ok.mod,ok.kind,ok.glob,ok.blt,ok.above,ok.inj,ok.has,ok.cab,ok.hd,ok.frames,ok.stk,ok.exf,ok.bs,ok.bsz,ok.noex,ok.exfs,ok.funs,ok.frf⟩
section
variable {X:Cx} {pins:List (Addr × Obj)} {σ:St} {H:Hp} {s:Shared} {E:Value->Shared->Prop}
theorem Inv.wish (I:Inv X pins σ H s) (E:Value->Shared->Prop):Inv (X.wish E) pins σ H s:=⟨I.ok.wish E,I.os,I.bare,I.base,I.loc,I.cell,I.free,I.freeC,I.pin,I.hok,I.len⟩
theorem Inv.unwish (I:Inv (X.wish E) pins σ H s):Inv X pins σ H s:=⟨I.ok.unwish,I.os,I.bare,I.base,I.loc,I.cell,I.free,I.freeC,I.pin,I.hok,I.len⟩
theorem SP.unwish {D:Ends} {f:Flow} {s':Shared} (h:SP (X.wish E) pins D f s'):SP X pins D f s':=by
 cases f with
 | next=>obtain ⟨σ',H',I,q⟩:=h; exact ⟨σ',H',I.unwish,q⟩
 | brk=>obtain ⟨σ',H',I,q⟩:=h; exact ⟨σ',H',I.unwish,q⟩
 | cont=>obtain ⟨σ',H',I,q⟩:=h; exact ⟨σ',H',I.unwish,q⟩
 | ret u=>obtain ⟨v,σ',H',I,r,q⟩:=h; exact ⟨v,σ',H',I.unwish,r,q⟩
theorem PE.nox {e:Expr} {t:TE} (h:PE X.nox e t):PE X e t:=λ pins s σ H Q I hw =>
 wpAny_mono (h pins s σ H Q (I.wish _) hw) (λ _ _ ⟨v,H',I',r,q⟩=>⟨v,H',I'.unwish,r,q⟩) λ _ _ z=>False.elim z
theorem PT.nox {e:Expr} {t:TT} (h:PT X.nox e t):PT X e t:=λ pins s σ H Q I hw =>
 wpAny_mono (h pins s σ H Q (I.wish _) hw) (λ _ _ ⟨H',I',q⟩=>⟨H',I'.unwish,q⟩) λ _ _ z=>False.elim z
theorem PSs.nox {st:List Stmt} {t:TS} (h:PSs X.nox st t):PSs X st t:=λ pins s σ H D I hw =>
 wpAny_mono (h pins s σ H D (I.wish _) hw) (λ _ _ q=>q.unwish) λ _ _ z=>False.elim z
end
section
variable {X:Cx} {st:Stmt} {rest:List Stmt} {t u:TS} {e:Expr} {te:TE} {pos:Pos}
def tNext:TS:=λ D σ H=>D.nx σ H
def tSeq (t u:TS):TS:=λ D σ H=>t { D with nx:=u D } σ H
theorem pss_nil:PSs X [] tNext:=λ _ _ σ H _ I h=>wpAny_execs_nil ⟨σ,H,I,h⟩
theorem pss_cons (h1:PS X st t) (h2:PSs X rest u):PSs X (st::rest) (tSeq t u):=by
 intro pins s σ H D I h
 refine wpAny_execs_cons (thn (h1 pins s σ H { D with nx:=u D } I h) λ f s1 q=>?_)
 cases f with
 | next =>
   obtain ⟨σ',H',I',q⟩:=q
   exact h2 pins s1 σ' H' D I' q
 | ret v=>exact q
 | brk=>exact q
 | cont=>exact q
theorem pss_one (h1:PS X st t):PSs X [st] t:=by
 intro pins s σ H D I h
 refine wpAny_execs_cons (thn (h1 pins s σ H D I h) λ f s1 q=>?_)
 cases f with
 | next=>exact wpAny_execs_nil q
 | ret v=>exact q
 | brk=>exact q
 | cont=>exact q
theorem Inv.quiet {pins:List (Addr × Obj)} {σ:St} {H:Hp} {s:Shared} (I:Inv X pins σ H s):interactive X.env=false:=by simp [interactive,I.ok.kind]
def tDrop (te:TE):TS:=λ D σ H=>te σ H λ _ H1=>D.nx σ H1
theorem ps_expr (he:PE X e te) (hs:swapsWith e none pos.line X.env=pure false:=by rfl):PS X (.Expr e pos) (tDrop te):=by
 intro pins s σ H D I h
 exact wpAny_Expr_any (thn (he pins s σ H _ I h) λ v s1 ⟨x,H1,I1,r1,q1⟩=>⟨σ,H1,I1,q1⟩) I.quiet hs
def tRet (te:TE):TS:=λ D σ H=>te σ H D.rt
theorem ps_ret (he:PE X e te):PS X (.Return (some e) pos) (tRet te):=by
 intro pins s σ H D I h
 exact wpAny_Return_some (thn (he pins s σ H _ I h) λ v s1 ⟨x,H1,I1,r1,q1⟩=>⟨x,σ,H1,I1,r1,q1⟩)
def tIfS (c:TT) (t u:TS):TS:=λ D σ H=>c σ H λ b H1=>if b=true then t D σ H1 else u D σ H1
theorem ps_if {c:Expr} {a b:List Stmt} {tc:TT} (hc:PT X c tc) (ha:PSs X a t) (hb:PSs X b u):PS X (.If c a b pos) (tIfS tc t u):=by
 intro pins s σ H D I h
 refine wpAny_If (thn (hc pins s σ H _ I h) λ d s1 ⟨H1,I1,q1⟩=>?_)
 cases d with
 | true=>exact ha pins s1 σ H1 D I1 q1
 | false=>exact hb pins s1 σ H1 D I1 q1
end
abbrev TG:=V->St->Hp->(St->Hp->Prop)->Prop
abbrev TGs:=List V->St->Hp->(St->Hp->Prop)->Prop
def PG (X:Cx) (target:Expr) (t:TG):Prop :=
 ∀ (pins:List (Addr × Obj)) (s:Shared) (σ:St) (H:Hp) (v:V) (u:Value) (Q:St->Hp->Prop),Inv X pins σ H s->RelV v u->t v σ H Q->
   wpAny (model X.prog X.w) X.A (assign target X.env u) (λ _ s'=>∃ σ' H',Inv X pins σ' H' s'/\Q σ' H') X.xe s
def PGs (X:Cx) (ts:List Expr) (t:TGs):Prop :=
 ∀ (pins:List (Addr × Obj)) (s:Shared) (σ:St) (H:Hp) (vs:List V) (us:List Value) (Q:St->Hp->Prop),Inv X pins σ H s->Vals vs us->t vs σ H Q->
   wpAny (model X.prog X.w) X.A (assignInOrder ((assignEach ts X.env).map (·.2)) us) (λ _ s'=>∃ σ' H',Inv X pins σ' H' s'/\Q σ' H') X.xe s
abbrev TSet:=V->V->V->Hp->(Hp->Prop)->Prop
def PSet (X:Cx) (t:TSet):Prop :=
 ∀ (pins:List (Addr × Obj)) (s:Shared) (σ:St) (H:Hp) (o i v:V) (ov iv u:Value) (Q:Hp->Prop),Inv X pins σ H s->RelV o ov->RelV i iv->RelV v u->t o i v H Q->
   wpAny (model X.prog X.w) X.A (setItem ov iv u) (λ _ s'=>∃ H',Inv X pins σ H' s'/\Q H') X.xe s
abbrev TIp:=V->V->Hp->VK->Prop
def PIp (X:Cx) (op:Operator) (t:TIp):Prop :=
 ∀ (pins:List (Addr × Obj)) (s:Shared) (σ:St) (H:Hp) (x y:V) (v u:Value) (Q:VK),Inv X pins σ H s->RelV x v->RelV y u->t x y H Q->
   wpAny (model X.prog X.w) X.A (inplaceOp op v u) (EP X pins σ Q) X.xe s
section
variable {X:Cx} {pos:Pos}
def gName (i:Nat):TG:=λ v σ H Q=>Q (σ.set i (some v)) H
theorem pg_name {i:Nat} {x:Str} (hN:X.N.Nodup) (hi:X.N[i]?=some x) (hx:Loc X.env.scope x) (hf:X.fn x=true\/X.env.scope.names.lookup x=some .local:=by first | exact .inl rfl | exact .inr rfl | assumption):PG X (.Name x pos) (gName i):=by
 intro pins s σ H v u Q I r h
 exact wpAny_assign_Name (store_ok I hN hi hx r (λ s' I'=>⟨_,H,I',h⟩) hf)
def gNil:TGs:=λ vs σ H Q=>vs=[]/\Q σ H
def gCons (t:TG) (u:TGs):TGs:=λ vs σ H Q=>∃ v r,vs=v::r/\t v σ H λ σ' H'=>u r σ' H' Q
theorem pgs_nil:PGs X [] gNil:=by
 intro pins s σ H vs us Q I r h
 obtain ⟨e,h⟩:=h
 subst e
 cases r
 exact assignInOrder_nil ⟨σ,H,I,h⟩
theorem pgs_cons {e:Expr} {es:List Expr} {t:TG} {u:TGs} (h1:PG X e t) (h2:PGs X es u)
 (hs:(assignEach (e::es) X.env).map (·.2)=assign e X.env::(assignEach es X.env).map (·.2):=by rfl):PGs X (e::es) (gCons t u):=by
 intro pins s σ H vs us Q I r h
 obtain ⟨v,vr,e1,h⟩:=h
 subst e1
 cases r with
 | cons r rr =>
   rw [hs]
   refine assignInOrder_cons (thn (h1 pins s σ H _ _ _ I r h) λ _ s1 ⟨σ1,H1,I1,q1⟩=>?_)
   exact h2 pins s1 σ1 H1 _ _ Q I1 rr q1
def gTup (K:PySem.W.Frag) (n:Nat) (t:TGs):TG:=λ v σ H Q=>∃ a xs,v=.ref a/\SqT K H a xs/\xs.length=n/\t xs σ H Q
theorem pg_tup {es:List Expr} {k:Nat} {t:TGs} {n:Nat} (hc:X.calm=true) (h:PGs X es t)
 (hn:(assignEach es X.env).length=n:=by rfl) (hst:(assignEach es X.env).findIdx? (·.1)=none:=by rfl):PG X (.Tuple es k pos) (gTup X.K n t):=by
 intro pins s σ H v u Q I r hw
 obtain ⟨a,xs,e1,hq,hl,hw⟩:=hw
 subst e1
 cases r
 obtain ⟨its,rv,ht,hz⟩:=I.tuple hq
 refine assign_Tuple_tuple (I.ok.hd hc) ht (by simp [hn,← hl,rv.length]) hst λ h' hx=>?_
 have I1:Inv X pins σ H { s with heap:=h' }:=I.kept (t':=s.toks) λ b o e=>hx b o (Nat.ne_of_lt (Heap.lt_size e)) e
 exact h pins _ σ H xs _ Q I1 (by simpa using rv) hw
def tAsg (te:TE) (g:TG):TS:=λ D σ H=>te σ H λ x H1=>g x σ H1 D.nx
theorem ps_asg {tg e:Expr} {te:TE} {g:TG} (he:PE X e te) (hg:PG X tg g) (hs:swapsWithSole [tg] e pos.line X.env=pure false:=by rfl) (hw:swappedStores [tg] e X.env=pure none:=by rfl)
 (h1:(assignEach [tg] X.env).map (·.2)=[assign tg X.env]:=by rfl):PS X (.Assign [tg] e pos) (tAsg te g):=by
 intro pins s σ H D I h
 refine wpAny_Assign_stores (thn (he pins s σ H _ I h) λ v s1 ⟨x,H1,I1,r1,q1⟩=>?_) hs hw
 rw [h1]
 exact thn (hg pins s1 σ H1 x v _ I1 r1 q1) λ _ s2 q=>q
theorem ps_set {i:Nat} {x:Str} {e:Expr} {te:TE} {pos':Pos} (hN:X.N.Nodup) (hi:X.N[i]?=some x) (hx:Loc X.env.scope x) (he:PE X e te) (hs:swapsWith e (some (.Name x pos')) pos.line X.env=pure false:=by rfl) (hf:X.fn x=true\/X.env.scope.names.lookup x=some .local:=by first | exact .inl rfl | exact .inr rfl | assumption):
 PS X (.Assign [.Name x pos'] e pos) (tAsg te (gName i)):=by
 intro pins s σ H D I h
 refine wpAny_Assign_Name (thn (he pins s σ H _ I h) λ v s1 ⟨y,H1,I1,r1,q1⟩=>?_) hs
 exact store_ok I1 hN hi hx r1 (λ s2 I2=>⟨_,H1,I2,q1⟩) hf
def tAug (i:Nat) (te:TE) (ti:TIp):TS:=λ D σ H=>∃ x,σ[i]?=some (some x)/\te σ H λ y H1=>ti x y H1 λ z H2=>D.nx (σ.set i (some z)) H2
theorem ps_aug {i:Nat} {x:Str} {e:Expr} {te:TE} {op:Operator} {ti:TIp} {pos':Pos} (hN:X.N.Nodup) (hi:X.N[i]?=some x) (hx:Loc X.env.scope x) (he:PE X e te) (ho:PIp X op ti) (hf:X.fn x=true\/X.env.scope.names.lookup x=some .local:=by first | exact .inl rfl | exact .inr rfl | assumption):
 PS X (.AugAssign (.Name x pos') op e pos) (tAug i te ti):=by
 intro pins s σ H D I h
 obtain ⟨v,e1,h⟩:=h
 obtain ⟨m,hn,hl⟩:=I.loc
 have vis:Vis X.env.scope x:=by rcases hx with k | k; exact .inl k; exact .inr (.inl k)
 obtain ⟨u,r,l⟩:=hl i x v hi e1 vis
 refine wpAny_AugAssign_Name ?_
 have go:wpAny (model X.prog X.w) X.A (eval e X.env) (λ w s₂=>wpAny (model X.prog X.w) X.A (inplaceOp op u w) (λ r s₃=>wpAny (model X.prog X.w) X.A (storeName X.env x r) (λ _=>SP X pins D .next) X.xe s₃) X.xe s₂) X.xe s:=by
  refine thn (he pins s σ H _ I h) λ w s1 ⟨y,H1,I1,r1,q1⟩=>?_
  refine thn (ho pins s1 σ H1 v y u w _ I1 r r1 q1) λ z s2 ⟨zv,H2,I2,r2,q2⟩=>?_
  exact store_ok I2 hN hi hx r2 (λ s3 I3=>⟨_,H2,I3,q2⟩) hf
 rcases l with ⟨hk,hm⟩ | ⟨hk,c,hc,hcell⟩
 ·exact wpAny_loadName_local I.ok.kind hk hn hm go
 ·rcases hk with hk | hk
  ·exact wpAny_loadName_cell I.ok.kind hk hc hcell go
  ·rcases hx with k | k
   ·have:X.env.scope.names.lookup x=some .free:=hk
    rw [k] at this; cases this
   ·have:X.env.scope.names.lookup x=some .free:=hk
    rw [k] at this; cases this
def tAugS (to ti te:TE) (tget:V->V->Hp->VK->Prop) (tip:TIp) (tset:TSet):TS:=λ D σ H=>to σ H λ o H1=>ti σ H1 λ i H2=>tget o i H2 λ x H3=>te σ H3 λ y H4=>tip x y H4 λ z H5=>tset o i z H5 λ H6=>D.nx σ H6
def PGet (X:Cx) (t:V->V->Hp->VK->Prop):Prop :=
 ∀ (pins:List (Addr × Obj)) (s:Shared) (σ:St) (H:Hp) (o i:V) (ov iv:Value) (Q:VK),Inv X pins σ H s->RelV o ov->RelV i iv->t o i H Q->
   wpAny (model X.prog X.w) X.A (getItem ov iv) (EP X pins σ Q) X.xe s
theorem ps_augS {o i e:Expr} {to ti te:TE} {tget:V->V->Hp->VK->Prop} {tip:TIp} {tset:TSet} {op:Operator} {tpos:Pos} (ho:PE X o to) (hi:PE X i ti) (hg:PGet X tget) (he:PE X e te) (hp:PIp X op tip) (hs:PSet X tset)
 (ha:∀ ov iv new,augStore i ov iv new=(do holding [new,ov,iv] (setItem ov iv new); release [new,ov,iv] []; pure .next):=by intros; rfl):PS X (.AugAssign (.Subscript o i tpos) op e pos) (tAugS to ti te tget tip tset):=by
 intro pins s σ H D I h
 refine wpAny_AugAssign_SubscriptAny (thn (ho pins s σ H _ I h) λ ov s1 ⟨x1,H1,I1,r1,q1⟩=>?_) ha
 refine thn (hi pins s1 σ H1 _ I1 q1) λ iv s2 ⟨x2,H2,I2,r2,q2⟩=>?_
 refine thn (hg pins s2 σ H2 x1 x2 ov iv _ I2 r1 r2 q2) λ old s3 ⟨x3,H3,I3,r3,q3⟩=>?_
 refine thn (he pins s3 σ H3 _ I3 q3) λ v s4 ⟨x4,H4,I4,r4,q4⟩=>?_
 refine thn (hp pins s4 σ H4 x3 x4 old v _ I4 r3 r4 q4) λ new s5 ⟨x5,H5,I5,r5,q5⟩=>?_
 exact thn (hs pins s5 σ H5 x1 x2 x5 ov iv new _ I5 r1 r2 r5 q5) λ _ s6 ⟨H6,I6,q6⟩=>⟨σ,H6,I6,q6⟩
end
section
variable {X:Cx} {pos:Pos}
def tWhile (c:TT) (tb:TS):TS:=λ D σ H=>∃ W:Nat->St->Hp->Prop,(∃ m,W m σ H)/\∀ m σ H,W m σ H->
 c σ H λ b H1=>if b=true then ∃ N:St->Hp->Prop,(∀ σ' H',N σ' H'->∃ m',m'<m/\W m' σ' H')/\tb { D with nx:=N,ct:=N,bk:=D.nx } σ H1 else D.nx σ H1
theorem ps_while {c:Expr} {body:List Stmt} {tc:TT} {tb:TS} (hp:PassesOwn (model X.prog X.w) X.A X.env X.xe) (hc:PT X c tc) (hb:PSs X body tb):PS X (.While c body [] pos) (tWhile tc tb):=by
 intro pins s σ H D I h
 obtain ⟨W,⟨m0,w0⟩,turn⟩:=h
 refine wpAny_While (codeAny_whileLoop (λ n s'=>∃ σ' H',Inv X pins σ' H' s'/\W n σ' H') ?_ m0 ⟨σ,H,I,w0⟩)
 rintro n s1 ⟨σ1,H1,I1,w1⟩
 refine wpAny_passesOwn hp (thn (hc pins s1 σ1 H1 _ I1 (turn n σ1 H1 w1)) λ b s2 ⟨H2,I2,q2⟩=>?_)
 cases b with
 | true =>
   obtain ⟨N,hN,q2⟩:=q2
   rw [if_pos rfl]
   refine wpAny_passesOwn hp (thn (hb pins s2 σ1 H2 _ I2 q2) λ f s3 q3=>?_)
   cases f with
   | next =>
     obtain ⟨σ3,H3,I3,n3⟩:=q3
     obtain ⟨m',hm,w3⟩:=hN σ3 H3 n3
     exact ⟨m',hm,σ3,H3,I3,w3⟩
   | cont =>
     obtain ⟨σ3,H3,I3,n3⟩:=q3
     obtain ⟨m',hm,w3⟩:=hN σ3 H3 n3
     exact ⟨m',hm,σ3,H3,I3,w3⟩
   | brk=>exact q3
   | ret v=>exact q3
 | false =>
   rw [if_neg Bool.false_ne_true]
   exact wpAny_execs_nil ⟨σ1,H2,I2,q2⟩
end
structure It where
 go:Nat->Hp->Prop
 yld:Nat->Hp->V->Hp->Prop
 stop:Nat->Hp->Prop
def FpOk (X:Cx) (pins:List (Addr × Obj)) (H:Hp) (b:Addr):Prop :=
 H b=none/\b ≠ X.env.locals/\b ∉ X.fs/\(b ∈ X.ex\/X.s₀.heap.objs.size<=b)/\(∀ x c,X.env.cells.lookup x=some c->c ≠ b)/\∀ p ∈ X.pn++pins,p.1 ≠ b
theorem Inv.fpOk {X:Cx} {pins:List (Addr × Obj)} {σ:St} {H H':Hp} {s:Shared} {b:Addr} (I:Inv X pins σ H s) (hb:s.heap.objs.size<=b) (hn:H' b=none):FpOk X pins H' b:=by
 refine ⟨hn,Nat.ne_of_gt (Nat.lt_of_lt_of_le I.lt hb),I.nofs hb,.inr (Nat.le_trans I.sz hb),λ x c e z=>?_,λ p hp z=>?_⟩
 ·obtain ⟨v,q⟩:=I.cell x c e
  exact absurd (Nat.lt_of_lt_of_le q.lt (by rw [z]; exact hb)) (Nat.lt_irrefl _)
 ·exact absurd (Nat.lt_of_lt_of_le (Heap.lt_size (I.pin p hp).1) (by rw [z]; exact hb)) (Nat.lt_irrefl _)
structure Turn (P:Program) (w:World) (K:PySem.W.Frag) (tg:Expr) (J:It) (fp:List Addr) (it:Addr) (tn:Nat->Heap->Prop):Prop where
 mem:it ∈ fp
 obj:∀ i h,tn i h->∀ b ∈ fp,∃ o,h.get? b=some o/\∀ v,o.data ≠ .cell v
 keep:∀ i h h',tn i h->(∀ b ∈ fp,∀ o,h.get? b=some o->h'.get? b=some o)->tn i h'
 item:∀ (X:Cx),X.prog=P->X.w=w->X.K=K->X.calm=true->∀ (i:Nat) (pins:List (Addr × Obj)) (s:Shared) (σ:St) (H:Hp) (E:Value->Shared->Prop),Inv X pins σ H s->(∀ b ∈ fp,FpOk X pins H b)->tn i s.heap->J.go i H->
  wpAny (model P w) X.A (pyNext (.ref it)) (λ r s1=>∃ u,r=some u/\
   wpAny (model P w) X.A (letOwnedTupleGo tg (.ref it) u) (λ _ s2=>∃ x H',Inv X pins σ H' s2/\RelV x u/\J.yld i H x H'/\tn (i+1) s2.heap/\∀ b ∈ fp,H' b=none) E s1) E s
 done:∀ (X:Cx),X.prog=P->X.w=w->X.K=K->X.calm=true->∀ (i:Nat) (pins:List (Addr × Obj)) (s:Shared) (σ:St) (H:Hp) (E:Value->Shared->Prop),Inv X pins σ H s->(∀ b ∈ fp,FpOk X pins H b)->tn i s.heap->J.stop i H->
  wpAny (model P w) X.A (pyNext (.ref it)) (λ r s1=>r=none/\Inv X pins σ H s1) E s
 self:∀ (A:Around) (i:Nat) (s:Shared) (Q:Value->Shared->Prop) (E:Value->Shared->Prop),tn i s.heap->Q (.ref it) s->wpAny (model P w) A (pyIter (.ref it)) Q E s
abbrev TI:=St->Hp->(It->Hp->Prop)->Prop
def PIE (X:Cx) (pins:List (Addr × Obj)) (σ:St) (tg:Expr) (R:It->Hp->Prop) (itv:Value) (s2:Shared):Prop :=
 ∃ (it:Addr) (fp:List Addr) (tn:Nat->Heap->Prop) (J:It) (H':Hp),itv=.ref it/\Inv X pins σ H' s2/\Turn X.prog X.w X.K tg J fp it tn/\tn 0 s2.heap/\(∀ b ∈ fp,FpOk X pins H' b)/\R J H'
def PI (X:Cx) (tg iter:Expr) (wi:TI):Prop :=
 ∀ (pins:List (Addr × Obj)) (s:Shared) (σ:St) (H:Hp) (R:It->Hp->Prop),Inv X pins σ H s->wi σ H R->
   wpAny (model X.prog X.w) X.A (eval iter X.env) (λ v s1=>wpAny (model X.prog X.w) X.A (pyIter v) (PIE X pins σ tg R) X.xe s1) X.xe s
theorem go_of {M:Model} {A:Around} {E:Value->Shared->Prop} {s:Shared} {tg:Expr} {it:Addr} {u:Value} {o:Obj} {n:String} {vs:Array Value} {Q:Unit->Shared->Prop} (ho:s.heap.get? it=some o) (hc:o.cls=.type n) (hd:o.data=.fields vs)
 (hn:["enumerate", "zip", "dict_itemiterator", "dict_reverseitemiterator", "odict_iterator", "itertools.zip_longest", "itertools.pairwise"].contains n=false) (hQ:Q () s):wpAny M A (letOwnedTupleGo tg (.ref it) u) Q E s:=by
 unfold letOwnedTupleGo
 cases tg<;>first
  | exact wpAny_pure hQ
  | (cases u<;>first
   | exact wpAny_pure hQ
   | (refine wpAny_bind (wpAny_load ho ?_)
      rw [hc,hd]
      show wpAny M A (if (["enumerate", "zip", "dict_itemiterator", "dict_reverseitemiterator", "odict_iterator", "itertools.zip_longest", "itertools.pairwise"].contains n && vs[0]? == some (rawInt _))=true then _ else _) Q E s
      rw [if_neg (by intro h; rw [hn,Bool.false_and] at h; cases h)]
      exact wpAny_pure hQ))
def Itl (K:PySem.W.Frag) (a:Addr):It :=
 ⟨λ i H=>∃ xs x,SqL K H a xs/\xs[i]?=some x,λ i H x H'=>H'=H/\∀ xs,SqL K H a xs->xs[i]?=some x,λ i H=>∃ xs,SqL K H a xs/\xs.length<=i⟩
def Itt (K:PySem.W.Frag) (a:Addr):It :=
 ⟨λ i H=>∃ xs x,SqT K H a xs/\xs[i]?=some x,λ i H x H'=>H'=H/\∀ xs,SqT K H a xs->xs[i]?=some x,λ i H=>∃ xs,SqT K H a xs/\xs.length<=i⟩
def Itr (lo:Int) (n:Nat):It:=⟨λ i _=>i<n,λ i H x H'=>H'=H/\x=.int (lo+i),λ i _=>n<=i⟩
theorem turn_list {P:Program} {w:World} {K:PySem.W.Frag} {tg:Expr} (a it:Addr):Turn P w K tg (Itl K a) [it] it (λ i h=>h.IsListIter it a i) where
 mem:=by simp
 obj:=λ i h st b hb=>by
  have e:b=it:=by simpa using hb
  subst e
  obtain ⟨o,e,c,d⟩:=st
  exact ⟨o,e,λ v z=>by rw [d] at z; cases z⟩
 keep:=λ i h h' st k=>st.at λ o e=>k it (by simp) o e
 item:=by
  intro X hP hw hK hc i pins s σ H E I hf st hg
  subst hP hw hK
  obtain ⟨xs,x,hq,hx⟩:=hg
  obtain ⟨its,rv,p,hz⟩:=I.list hq
  obtain ⟨u,hu,ru⟩:=rv.get hx
  obtain ⟨f0,f1,f2,f3,f4,f5⟩:=hf it (by simp)
  refine wpAny_pyNext_list_item st p.isList (x:=u) (by simpa using hu) λ h' st' sb=>?_
  have I1:Inv X pins σ H { s with heap:=h' }:=I.turned (t':=s.toks) (λ b o hb e=>(sb.2 b hb).trans e) f0 f1 f3 f4 f5
  obtain ⟨o,e,c,d⟩:=id st'
  exact ⟨u,rfl,go_of (s:={ s with heap:=h' }) e c d (by decide) ⟨x,H,I1,ru,⟨rfl,λ ys hy=>by rw [I.list_inj hy hq]; exact hx⟩,st',λ b hb=>(hf b hb).1⟩⟩
 done:=by
  intro X hP hw hK hc i pins s σ H E I hf st hg
  subst hP hw hK
  obtain ⟨xs,hq,hx⟩:=hg
  obtain ⟨its,rv,p,hz⟩:=I.list hq
  obtain ⟨f0,f1,f2,f3,f4,f5⟩:=hf it (by simp)
  have hl:=rv.length
  exact wpAny_pyNext_list_end (I.ok.hd hc) st p.isList (by simp; omega) λ h' eb=>⟨rfl,I.turned (t':=s.toks) (λ b o hb e=>eb b o hb e) f0 f1 f3 f4 f5⟩
 self:=λ _ _ _ _ _ st h=>wpAny_pyIter_listiter st h
theorem turn_tuple {P:Program} {w:World} {K:PySem.W.Frag} {tg:Expr} (a it:Addr):Turn P w K tg (Itt K a) [it] it (λ i h=>h.IsTupleIter it a i) where
 mem:=by simp
 obj:=λ i h st b hb=>by
  have e:b=it:=by simpa using hb
  subst e
  obtain ⟨o,e,c,d⟩:=st
  exact ⟨o,e,λ v z=>by rw [d] at z; cases z⟩
 keep:=λ i h h' st k=>st.at λ o e=>k it (by simp) o e
 item:=by
  intro X hP hw hK hc i pins s σ H E I hf st hg
  subst hP hw hK
  obtain ⟨xs,x,hq,hx⟩:=hg
  obtain ⟨its,rv,p,hz⟩:=I.tuple hq
  obtain ⟨u,hu,ru⟩:=rv.get hx
  obtain ⟨f0,f1,f2,f3,f4,f5⟩:=hf it (by simp)
  refine wpAny_pyNext_tuple_item st (show s.heap.IsTuple a its.toArray from p) (x:=u) (by simpa using hu) λ h' st' sb=>?_
  have I1:Inv X pins σ H { s with heap:=h' }:=I.turned (t':=s.toks) (λ b o hb e=>(sb.2 b hb).trans e) f0 f1 f3 f4 f5
  obtain ⟨o,e,c,d⟩:=id st'
  exact ⟨u,rfl,go_of (s:={ s with heap:=h' }) e c d (by decide) ⟨x,H,I1,ru,⟨rfl,λ ys hy=>by rw [I.tuple_inj hy hq]; exact hx⟩,st',λ b hb=>(hf b hb).1⟩⟩
 done:=by
  intro X hP hw hK hc i pins s σ H E I hf st hg
  subst hP hw hK
  obtain ⟨xs,hq,hx⟩:=hg
  obtain ⟨its,rv,p,hz⟩:=I.tuple hq
  obtain ⟨f0,f1,f2,f3,f4,f5⟩:=hf it (by simp)
  have hl:=rv.length
  exact wpAny_pyNext_tuple_end (I.ok.hd hc) st (show s.heap.IsTuple a its.toArray from p) (by simp; omega) λ h' eb=>⟨rfl,I.turned (t':=s.toks) (λ b o hb e=>eb b o hb e) f0 f1 f3 f4 f5⟩
 self:=λ _ _ _ _ _ st h=>wpAny_pyIter_tupleiter st h
theorem turn_range {P:Program} {w:World} {K:PySem.W.Frag} {tg:Expr} (it:Addr) (lo:Int) (n:Nat):Turn P w K tg (Itr lo n) [it] it (λ i h=>IsRangeIter h it (lo+(i:Nat)*1) ((n:Int)-(i:Nat)) 1) where
 mem:=by simp
 obj:=λ i h st b hb=>by
  have e:b=it:=by simpa using hb
  subst e
  exact ⟨_,st,λ v z=>by
   have z':Data.fields _=Data.cell v:=z
   cases z'⟩
 keep:=λ i h h' st k=>k it (by simp) _ st
 item:=by
  intro X hP hw hK hc i pins s σ H E I hf st hg
  subst hP hw hK
  obtain ⟨f0,f1,f2,f3,f4,f5⟩:=hf it (by simp)
  have W:=Walks.range (prog:=X.prog) (w:=X.w) (I.ok.hd hc) it lo 1 n
  refine W.item i s _ _ hg st λ v h' tk hv st' kk=>?_
  obtain ⟨t,rfl⟩:=hv
  have I1:Inv X pins σ H { s with heap:=h',toks:=tk }:=I.turned (λ b o hb e=>kk b o (by simpa using hb) e) f0 f1 f3 f4 f5
  refine ⟨_,rfl,go_of (s:={ s with heap:=h',toks:=tk }) (n := "range_iterator") st' rfl rfl (by decide) ⟨.int (lo+i),H,I1,⟨t,?_⟩,⟨rfl,rfl⟩,st',λ b hb=>(hf b hb).1⟩⟩
  rw [Int.mul_one]
 done:=by
  intro X hP hw hK hc i pins s σ H E I hf st hg
  subst hP hw hK
  obtain ⟨f0,f1,f2,f3,f4,f5⟩:=hf it (by simp)
  exact wpAny_pyNext_range_end (I.ok.hd hc) st (by have:n<=i:=hg; omega) λ h' eb=>⟨rfl,I.turned (t':=s.toks) (λ b o hb e=>eb b o hb e) f0 f1 f3 f4 f5⟩
 self:=λ _ _ _ _ _ st h=>wpAny_pyIter_rangeiter st h
end L2
namespace L2
open PySem PySem.Spec PyProof.Rows
section
variable {X:Cx} {tg:Expr}
def iList (K:PySem.W.Frag) (tl:TE):TI:=λ σ H R=>tl σ H λ x H1=>∃ a,x=.ref a/\(∃ xs,SqL K H1 a xs)/\R (Itl K a) H1
theorem pi_list {l:Expr} {tl:TE} (hl:PE X l tl):PI X tg l (iList X.K tl):=by
 intro pins s σ H R I h
 refine thn (hl pins s σ H _ I h) λ v s1 ⟨x,H1,I1,r1,q1⟩=>?_
 obtain ⟨a,e,⟨xs,hq⟩,q⟩:=q1
 subst e
 cases r1
 obtain ⟨its,rv,p,hz⟩:=I1.list hq
 refine wpAny_pyIter_list p.isList ?_
 refine ⟨s1.heap.objs.size,[s1.heap.objs.size],_,_,H1,rfl,I1.kept (t':=s1.toks) λ b o e=>Heap.get?_push_of_some _ e,turn_list a _,⟨_,Heap.get?_push_size _ rfl,rfl,rfl⟩,λ b hb=>?_,q⟩
 have e:b=s1.heap.objs.size:=by simpa using hb
 subst e
 exact I1.fpOk (Nat.le_refl _) (I1.hok.fresh (Nat.le_refl _))
theorem range_it {pins:List (Addr × Obj)} {σ:St} {H:Hp} {s:Shared} {R:It->Hp->Prop} {E:Value->Shared->Prop} {lo hi:Int} {t u v:Tok} {tk:Nat} (I:Inv X pins σ H s) (h1:-(2^62)<=lo) (h2:lo<2^62) (h3:-(2^62)<=hi) (h4:hi<2^62)
 (q:R (Itr lo (hi-lo).toNat) H):wpAny (model X.prog X.w) X.A (pyIter (.ref s.heap.objs.size)) (PIE X pins σ tg R) E { s with heap:=s.heap.push { cls:=.type "range",data:=.fields #[.int lo t,.int hi u,.int 1 v] },toks:=tk }:=by
 refine wpAny_pyIter_range (IsRange.new ..) (small_one h1 h2 h3 h4) ?_
 have I1:Inv X pins σ H { s with heap:=s.heap.push { cls:=.type "range",data:=.fields #[.int lo t,.int hi u,.int 1 v] },toks:=tk }:=I.kept λ b o e=>Heap.get?_push_of_some _ e
 refine ⟨(s.heap.push { cls:=.type "range",data:=.fields #[.int lo t,.int hi u,.int 1 v] }).objs.size,[(s.heap.push { cls:=.type "range",data:=.fields #[.int lo t,.int hi u,.int 1 v] }).objs.size],_,_,H,rfl,
  I1.kept (t':=tk) λ b o e=>Heap.get?_push_of_some _ e,turn_range _ lo (hi-lo).toNat,?_,λ b hb=>?_,q⟩
 ·have e1:lo+((0:Nat):Int)*1=lo:=by simp
  have e2:(((hi-lo).toNat:Nat):Int)-((0:Nat):Int)=Builtin.Range.rangeSize lo hi 1:=by rw [rangeSize_one]; split<;>omega
  show IsRangeIter _ _ (lo+((0:Nat):Int)*1) ((((hi-lo).toNat:Nat):Int)-((0:Nat):Int)) 1
  rw [e1,e2]
  exact Heap.get?_push_size _ rfl
 ·have e:b=(s.heap.push { cls:=.type "range",data:=.fields #[.int lo t,.int hi u,.int 1 v] }).objs.size:=by simpa using hb
  subst e
  exact I1.fpOk (Nat.le_refl _) (I1.hok.fresh (Nat.le_refl _))
def iRng1 (ta:TA):TI:=λ σ H R=>ta σ H λ vs H1=>∃ j:Int,vs=[.int j]/\-(2^62)<=j/\j<2^62/\R (Itr 0 j.toNat) H1
theorem pi_range1 {a:Expr} {ta:TA} {p pos:Pos} (hg:Gl X "range") (hm:X.mg "range" = none) (ha:PA X [a] ta) (hs:starEach [a] X.env=[(false,eval a X.env)]:=by rfl):PI X tg (.Call (.Name "range" p) [a] [] pos) (iRng1 ta):=by
 intro pins s σ H R I h
 refine Call_ (ld_blt I hg hm boot_range (PyProof.Rows.callWith_type1 (thn (ha pos pins s σ H _ I h) λ us s1 ⟨vs,H1,I1,r1,q1⟩=>?_) hs rfl))
 obtain ⟨j,e,q1,q2,q⟩:=q1
 subst e
 cases r1 with
 | cons r rr =>
   cases rr
   obtain ⟨t,rfl⟩:=r
   exact call_range_1 (range_it I1 (by omega) (by omega) q1 q2 (by simpa using q))
def tFor (wi:TI) (g:TG) (tb:TS):TS:=λ D σ H=>wi σ H λ J H1=>∃ W:Nat->Nat->St->Hp->Prop,(∃ m,W 0 m σ H1)/\∀ i m σ H,W i m σ H->
 (J.stop i H/\D.nx σ H)\/(J.go i H/\∃ N:St->Hp->Prop,(∀ σ' H',N σ' H'->∃ m',m'<m/\W (i+1) m' σ' H')/\∀ x H',J.yld i H x H'->g x σ H' λ σ2 H2=>tb { D with nx:=N,ct:=N,bk:=D.nx } σ2 H2)
def pinsAt (fp:List Addr) (h:Heap):List (Addr × Obj):=fp.filterMap λ b=>(h.get? b).map λ o=>(b,o)
theorem mem_pinsAt {fp:List Addr} {h:Heap} {b:Addr} {o:Obj} (hb:b ∈ fp) (e:h.get? b=some o):(b,o) ∈ pinsAt fp h:=List.mem_filterMap.mpr ⟨b,hb,by rw [e]; rfl⟩
theorem of_pinsAt {fp:List Addr} {h:Heap} {p:Addr × Obj} (hp:p ∈ pinsAt fp h):p.1 ∈ fp/\h.get? p.1=some p.2:=by
 obtain ⟨b,hb,e⟩:=List.mem_filterMap.mp hp
 cases q:h.get? b with
 | none=>rw [q] at e; cases e
 | some o =>
   rw [q] at e
   have e':(b,o)=p:=Option.some.inj e
   subst e'
   exact ⟨hb,q⟩
theorem Inv.pinned {pins:List (Addr × Obj)} {σ:St} {H:Hp} {s:Shared} {fp:List Addr} (I:Inv X pins σ H s) (hf:∀ b ∈ fp,FpOk X pins H b) (ho:∀ b ∈ fp,∃ o,s.heap.get? b=some o/\∀ v,o.data ≠ .cell v):Inv X (pins++pinsAt fp s.heap) σ H s :=
 I.pins_of λ p hp=>(List.mem_append.mp hp).elim (λ z=>I.pin p (List.mem_append_right _ z)) λ z=>by
  obtain ⟨hb,e⟩:=of_pinsAt z
  obtain ⟨f0,f1,f2,_⟩:=hf p.1 hb
  obtain ⟨o,e',d⟩:=ho p.1 hb
  rw [e] at e'; cases e'
  exact ⟨e,f0,f1,f2,d⟩
theorem Inv.unpinned {pins pl:List (Addr × Obj)} {σ:St} {H:Hp} {s:Shared} (I:Inv X (pins++pl) σ H s):Inv X pins σ H s:=I.pins_of λ p hp=>I.pin p (List.mem_append_right _ (List.mem_append_left _ hp))
theorem ps_for {iter:Expr} {body:List Stmt} {wi:TI} {g:TG} {tb:TS} {pos:Pos} (hp:PassesOwn (model X.prog X.w) X.A X.env X.xe) (hc:X.calm=true) (hi:PI X tg iter wi) (hg:PG X tg g) (hb:PSs X body tb)
 (hs:∀ x,foldedSetIterable iter X.env x=pure x:=by intro _; rfl):PS X (.For tg iter body [] pos) (tFor wi g tb):=by
 intro pins s σ H D I h
 refine wpAny_For (thn (hi pins s σ H _ I h) λ v s1 h1=>thn h1 λ itv s2 h2=>?_) hs
 obtain ⟨it,fp,tn,J,H2,e,I2,T,st2,f2,W,⟨m0,w0⟩,turn⟩:=h2
 subst e
 have stat:∀ {H':Hp},(∀ b ∈ fp,H' b=none)->∀ b ∈ fp,FpOk X pins H' b:=λ hn b hb=>⟨hn b hb,(f2 b hb).2⟩
 refine codeAny_forLoop_any (λ n s'=>∃ i σ' H',Inv X pins σ' H' s'/\tn i s'.heap/\(∀ b ∈ fp,H' b=none)/\W i n σ' H') ?_ m0 ⟨0,σ,H2,I2,st2,λ b hb=>(f2 b hb).1,w0⟩
 rintro n s3 ⟨i,σ3,H3,I3,st3,fr3,w3⟩
 rcases turn i n σ3 H3 w3 with ⟨stop,qn⟩ | ⟨go,N,hN,step⟩
 ·refine wpAny_passesOwn hp (thn (T.done X rfl rfl rfl hc i pins s3 σ3 H3 X.xe I3 (stat fr3) st3 stop) λ r s4 ⟨hr,I4⟩=>?_)
  subst hr
  exact wpAny_execs_nil ⟨σ3,H3,I4,qn⟩
 ·refine wpAny_passesOwn hp (thn (T.item X rfl rfl rfl hc i pins s3 σ3 H3 X.xe I3 (stat fr3) st3 go) λ r s4 ⟨u,hr,h4⟩=>?_)
  subst hr
  refine wpAny_passesOwn hp (thn h4 λ _ s5 ⟨x,H5,I5,r5,y5,st5,fr5⟩=>?_)
  have I5':=I5.pinned (stat fr5) (T.obj _ _ st5)
  refine wpAny_passesOwn hp (thn (hg _ s5 σ3 H5 x u _ I5' r5 (step x H5 y5)) λ _ s6 ⟨σ6,H6,I6,q6⟩=>?_)
  refine wpAny_passesOwn hp (thn (hb _ s6 σ6 H6 _ I6 q6) λ f s7 q7=>?_)
  have again:∀ {σ7:St} {H7:Hp},Inv X (pins++pinsAt fp s5.heap) σ7 H7 s7->N σ7 H7->∃ m,m<n/\∃ i σ' H',Inv X pins σ' H' s7/\tn i s7.heap/\(∀ b ∈ fp,H' b=none)/\W i m σ' H':=λ {σ7 H7} I7 n7=>by
   obtain ⟨m',hm,w7⟩:=hN σ7 H7 n7
   refine ⟨m',hm,i+1,σ7,H7,I7.unpinned,T.keep _ _ _ st5 λ b hb o e=>(I7.pin (b,o) (List.mem_append_right _ (List.mem_append_right _ (mem_pinsAt hb e)))).1,λ b hb=>?_,w7⟩
   obtain ⟨o,e,d⟩:=T.obj _ _ st5 b hb
   exact (I7.pin (b,o) (List.mem_append_right _ (List.mem_append_right _ (mem_pinsAt hb e)))).2.1
  cases f with
  | next=>obtain ⟨σ7,H7,I7,n7⟩:=q7; exact again I7 n7
  | cont=>obtain ⟨σ7,H7,I7,n7⟩:=q7; exact again I7 n7
  | brk=>obtain ⟨σ7,H7,I7,q7⟩:=q7; exact ⟨σ7,H7,I7.unpinned,q7⟩
  | ret v=>obtain ⟨x7,σ7,H7,I7,r7,q7⟩:=q7; exact ⟨x7,σ7,H7,I7.unpinned,r7,q7⟩
end
theorem for_range {lo:Int} {n:Nat} {g:TG} {tb:TS} {D:Ends} {σ:St} {H:Hp} (Pv:Nat->St->Hp->Prop) (h0:Pv 0 σ H)
 (hs:∀ i σ H,i<n->Pv i σ H->g (.int (lo+i)) σ H λ σ2 H2=>tb { D with nx:=Pv (i+1),ct:=Pv (i+1),bk:=D.nx } σ2 H2) (hd:∀ σ H,Pv n σ H->D.nx σ H):
 ∃ W:Nat->Nat->St->Hp->Prop,(∃ m,W 0 m σ H)/\∀ i m σ H,W i m σ H->
   ((Itr lo n).stop i H/\D.nx σ H)\/((Itr lo n).go i H/\∃ N:St->Hp->Prop,(∀ σ' H',N σ' H'->∃ m',m'<m/\W (i+1) m' σ' H')/\∀ x H',(Itr lo n).yld i H x H'->g x σ H' λ σ2 H2=>tb { D with nx:=N,ct:=N,bk:=D.nx } σ2 H2):=by
 refine ⟨λ i m σ H=>m=n-i/\i<=n/\Pv i σ H,⟨n,by simp,Nat.zero_le _,h0⟩,?_⟩
 rintro i m σ H ⟨rfl,hi,p⟩
 by_cases hlt:i<n
 ·refine .inr ⟨hlt,Pv (i+1),λ σ' H' p'=>⟨n-(i+1),by omega,rfl,hlt,p'⟩,λ x H' y=>?_⟩
  obtain ⟨e,y⟩:=y
  subst e y
  exact hs i σ _ hlt p
 ·have e:i=n:=by omega
  subst e
  exact .inl ⟨Nat.le_refl _,hd σ H p⟩
theorem while_by {c:TT} {tb:TS} {D:Ends} {σ:St} {H:Hp} (Pv:St->Hp->Prop) (μ:St->Hp->Nat) (h0:Pv σ H)
 (hs:∀ σ H,Pv σ H->c σ H λ b H1=>if b=true then tb { D with nx:=λ σ' H'=>Pv σ' H'/\μ σ' H'<μ σ H,ct:=λ σ' H'=>Pv σ' H'/\μ σ' H'<μ σ H,bk:=D.nx } σ H1 else D.nx σ H1)
 (mono:∀ σ H Q Q',(∀ b H1,Q b H1->Q' b H1)->c σ H Q->c σ H Q'):tWhile c tb D σ H:=by
 refine ⟨λ m σ H=>m=μ σ H/\Pv σ H,⟨_,rfl,h0⟩,?_⟩
 rintro m σ H ⟨rfl,p⟩
 refine mono σ H _ _ (λ b H1 q=>?_) (hs σ H p)
 cases b with
 | true=>exact ⟨_,λ σ' H' ⟨p',l⟩=>⟨_,l,rfl,p'⟩,q⟩
 | false=>exact q
end L2
namespace L2
open PySem PySem.Spec PyProof.Rows
abbrev R2:=V->V->Hp->VK->Prop
def OpR (X:Cx) (f:Value->Value->Sem Value) (r:R2):Prop :=
 ∀ (pins:List (Addr × Obj)) (s:Shared) (σ:St) (H:Hp) (x y:V) (v u:Value) (Q:VK),Inv X pins σ H s->RelV x v->RelV y u->r x y H Q->
   wpAny (model X.prog X.w) X.A (f v u) (EP X pins σ Q) X.xe s
def UnR (X:Cx) (f:Value->Sem Value) (r:V->Hp->VK->Prop):Prop :=
 ∀ (pins:List (Addr × Obj)) (s:Shared) (σ:St) (H:Hp) (x:V) (v:Value) (Q:VK),Inv X pins σ H s->RelV x v->r x H Q->
   wpAny (model X.prog X.w) X.A (f v) (EP X pins σ Q) X.xe s
def CallR (X:Cx) (f:Value) (r:List V->Hp->VK->Prop):Prop :=
 ∀ (pins:List (Addr × Obj)) (s:Shared) (σ:St) (H:Hp) (xs:List V) (us:List Value) (Q:VK),Inv X pins σ H s->Vals xs us->r xs H Q->
   wpAny (model X.prog X.w) X.A (call f us) (EP X pins σ Q) X.xe s
def tOp (r:R2) (ta tb:TE):TE:=λ σ H Q=>ta σ H λ x H1=>tb σ H1 λ y H2=>r x y H2 Q
def tUn (r:V->Hp->VK->Prop) (ta:TE):TE:=λ σ H Q=>ta σ H λ x H1=>r x H1 Q
def rI (C:Int->Int->Prop) (g:Int->Int->V):R2:=λ x y H Q=>∃ i j,x=.int i/\y=.int j/\C i j/\Q (g i j) H
def rI0 (g:Int->Int->V):R2:=λ x y H Q=>∃ i j,x=.int i/\y=.int j/\Q (g i j) H
def rU (g:Int->V):V->Hp->VK->Prop:=λ x H Q=>∃ i,x=.int i/\Q (g i) H
section
variable {X:Cx} {a b c:Expr} {ta tb tc:TE} {pos:Pos}
theorem binT (ha:PE X a ta) (hb:PE X b tb) {pins:List (Addr × Obj)} {s:Shared} {σ:St} {H:Hp} {R:V->V->Hp->Prop} (I:Inv X pins σ H s)
 (h:ta σ H λ x H1=>tb σ H1 λ y H2=>R x y H2) {Q:Value->Shared->Prop} {f:Value->Value->Sem Value}
 (hf:∀ v u s2 x y H2,Inv X pins σ H2 s2->RelV x v->RelV y u->R x y H2->wpAny (model X.prog X.w) X.A (f v u) Q X.xe s2):
 wpAny (model X.prog X.w) X.A (eval a X.env) (λ v s₁=>wpAny (model X.prog X.w) X.A (eval b X.env) (λ u s₂=>wpAny (model X.prog X.w) X.A (f v u) Q X.xe s₂) X.xe s₁) X.xe s:=by
 refine thn (ha pins s σ H _ I h) λ v s1 ⟨x,H1,I1,r1,q1⟩=>?_
 refine thn (hb pins s1 σ H1 _ I1 q1) λ u s2 ⟨y,H2,I2,r2,q2⟩=>?_
 exact hf v u s2 x y H2 I2 r1 r2 q2
theorem pe_op {op:Operator} {r:R2} (ho:OpR X (binaryOp op) r) (ha:PE X a ta) (hb:PE X b tb):PE X (.BinOp a op b pos) (tOp r ta tb):=by
 intro pins s σ H Q I h
 exact wpAny_BinOp (binT ha hb I h λ v u s2 x y H2 I2 rx ry q=>ho pins s2 σ H2 x y v u Q I2 rx ry q)
theorem pe_un {op:UnaryOp} {r:V->Hp->VK->Prop} (ho:UnR X (unaryOp op) r) (ha:PE X a ta):PE X (.UnaryOp op a pos) (tUn r ta):=by
 intro pins s σ H Q I h
 exact UnaryOp_ (thn (ha pins s σ H _ I h) λ v s1 ⟨x,H1,I1,r1,q1⟩=>ho pins s1 σ H1 x v Q I1 r1 q1)
theorem opI {f:Value->Value->Sem Value} {C:Int->Int->Prop} {g:Int->Int->Int}
 (rule:∀ (i j:Int) (t u:Tok) (s:Shared) (Q:Value->Shared->Prop) (E:Value->Shared->Prop),C i j->Q (.int (g i j) s.toks) { s with toks:=s.toks+1 }->wpAny (model X.prog X.w) X.A (f (.int i t) (.int j u)) Q E s):
 OpR X f (rI C λ i j=>.int (g i j)):=by
 intro pins s σ H x y v u Q I rx ry h
 obtain ⟨i,j,rfl,rfl,hc,q⟩:=h
 obtain ⟨t,rfl⟩:=rx
 obtain ⟨t',rfl⟩:=ry
 exact rule i j t t' s _ _ hc ⟨.int (g i j),H,I.tok _,⟨_,rfl⟩,q⟩
theorem opI0 {f:Value->Value->Sem Value} {g:Int->Int->Int}
 (rule:∀ (i j:Int) (t u:Tok) (s:Shared) (Q:Value->Shared->Prop) (E:Value->Shared->Prop),Q (.int (g i j) s.toks) { s with toks:=s.toks+1 }->wpAny (model X.prog X.w) X.A (f (.int i t) (.int j u)) Q E s):
 OpR X f (rI0 λ i j=>.int (g i j)):=by
 intro pins s σ H x y v u Q I rx ry h
 obtain ⟨i,j,rfl,rfl,q⟩:=h
 obtain ⟨t,rfl⟩:=rx
 obtain ⟨t',rfl⟩:=ry
 exact rule i j t t' s _ _ ⟨.int (g i j),H,I.tok _,⟨_,rfl⟩,q⟩
theorem opB0 {f:Value->Value->Sem Value} {g:Int->Int->Bool}
 (rule:∀ (i j:Int) (t u:Tok) (s:Shared) (Q:Value->Shared->Prop) (E:Value->Shared->Prop),Q (.bool (g i j)) s->wpAny (model X.prog X.w) X.A (f (.int i t) (.int j u)) Q E s):
 OpR X f (rI0 λ i j=>.bl (g i j)):=by
 intro pins s σ H x y v u Q I rx ry h
 obtain ⟨i,j,rfl,rfl,q⟩:=h
 obtain ⟨t,rfl⟩:=rx
 obtain ⟨t',rfl⟩:=ry
 exact rule i j t t' s _ _ ⟨.bl (g i j),H,I,rfl,q⟩
def CPow (i j:Int):Prop:=0<=j/\j<=1000000/\i.natAbs<2^64
def CMul (i j:Int):Prop:=(-(2^64)<i/\i<2^64)\/(-(2^64)<j/\j<2^64)
theorem CMul.ok {i j:Int} (h:CMul i j):IntMulOk i j:=by
 rcases h with ⟨h1,h2⟩ | ⟨h1,h2⟩
 ·exact .of_left (intBits_le_64 h1 h2)
 ·exact .of_right (intBits_le_64 h1 h2)
theorem op_add:OpR X (binaryOp .Add) (rI0 λ i j=>.int (i+j)):=opI0 λ _ _ _ _ _ _ _ q=>add_int q
theorem op_sub:OpR X (binaryOp .Sub) (rI0 λ i j=>.int (i-j)):=opI0 λ _ _ _ _ _ _ _ q=>sub_int q
theorem op_mod:OpR X (binaryOp .Mod) (rI (λ _ j=>0<j) λ i j=>.int (i % j)):=opI λ i j _ _ _ _ _ hc q=>by
 have h1:(0:Int)<j:=hc
 exact mod_int' (by omega) (by rw [Int.fmod_eq_emod_of_nonneg i (by omega)]; exact q)
theorem op_pow:OpR X (binaryOp .Pow) (rI CPow λ i j=>.int (i^j.toNat)):=opI λ _ _ _ _ _ _ _ hc q=>pow_int_small hc.1 hc.2.1 hc.2.2 q
theorem unI {f:Value->Sem Value} {g:Int->Int}
 (rule:∀ (i:Int) (t:Tok) (s:Shared) (Q:Value->Shared->Prop) (E:Value->Shared->Prop),Q (.int (g i) s.toks) { s with toks:=s.toks+1 }->wpAny (model X.prog X.w) X.A (f (.int i t)) Q E s):
 UnR X f (rU λ i=>.int (g i)):=by
 intro pins s σ H x v Q I rx h
 obtain ⟨i,rfl,q⟩:=h
 obtain ⟨t,rfl⟩:=rx
 exact rule i t s _ _ ⟨.int (g i),H,I.tok _,⟨_,rfl⟩,q⟩
theorem un_neg:UnR X (unaryOp .USub) (rU λ i=>.int (-i)):=unI λ _ _ _ _ _ q=>neg_int q
end
def scal:V->V->Bool
 | .non,.non=>true | .non,.int _=>true | .int _,.non=>true | .non,.bl _=>true | .bl _,.non=>true | .non,.str _=>true | .str _,.non=>true
 | .int _,.int _=>true | .bl _,.bl _=>true | .str _,.str _=>true | .byt _,.byt _=>true
 | .int _,.str _=>true | .str _,.int _=>true | .bl _,.str _=>true | .str _,.bl _=>true
 | _,_=>false
def rEq:R2:=λ x y H Q=>scal x y=true/\Q (.bl (decide (x=y))) H
def rNe:R2:=λ x y H Q=>scal x y=true/\Q (.bl (!decide (x=y))) H
theorem dec_int {i j:Int}:decide (V.int i=V.int j)=(i == j):=by
 rw [Bool.eq_iff_iff]
 simp
theorem dec_bl {i j:Bool}:decide (V.bl i=V.bl j)=(i == j):=by
 rw [Bool.eq_iff_iff]
 simp
theorem dec_str {i j:Str}:decide (V.str i=V.str j)=(i == j):=by
 rw [Bool.eq_iff_iff]
 simp
theorem dec_byt {i j:Array UInt8}:decide (V.byt i=V.byt j)=(i.toList == j.toList):=by
 rw [Bool.eq_iff_iff]
 cases i
 cases j
 simp
section
variable {X:Cx} {a b c:Expr} {ta tb tc:TE} {pos:Pos}
theorem fin_bl {pins:List (Addr × Obj)} {σ:St} {H:Hp} {s:Shared} {Q:VK} {k k':Bool} (I:Inv X pins σ H s) (q:Q (.bl k) H) (e:k=k'):EP X pins σ Q (.bool k') s:=by
 subst e
 exact ⟨.bl k,H,I,rfl,q⟩
theorem op_eq:OpR X (compareOp .Eq) rEq:=by
 intro pins s σ H x y v u Q I rx ry h
 obtain ⟨hs,q⟩:=h
 cases x with
 | non =>
   cases rx
   cases y with
   | non=>cases ry; exact PySem.EqNone.eq_none_none (fin_bl I q (by simp))
   | bl j=>cases ry; exact PySem.EqNone.eq_none_bool (fin_bl I q (by simp))
   | int j=>obtain ⟨t',rfl⟩:=ry; exact PySem.EqNone.eq_none_int (fin_bl I q (by simp))
   | str j=>obtain ⟨t',rfl⟩:=ry; exact PySem.EqNone.eq_none_str (fin_bl I q (by simp))
   | _=>exact absurd (show false=true from hs) Bool.false_ne_true
 | bl i =>
   cases rx
   cases y with
   | non=>cases ry; exact PySem.EqNone.eq_bool_none (fin_bl I q (by simp))
   | bl j=>cases ry; exact eq_bool (fin_bl I q dec_bl)
   | str j=>obtain ⟨t',rfl⟩:=ry; exact PySem.EqMixed.eq_bool_str (fin_bl I q (by simp))
   | _=>exact absurd (show false=true from hs) Bool.false_ne_true
 | int i =>
   obtain ⟨t,rfl⟩:=rx
   cases y with
   | non=>cases ry; exact PySem.EqNone.eq_int_none (fin_bl I q (by simp))
   | int j=>obtain ⟨t',rfl⟩:=ry; exact eq_int (fin_bl I q dec_int)
   | str j=>obtain ⟨t',rfl⟩:=ry; exact PySem.EqMixed.eq_int_str (fin_bl I q (by simp))
   | _=>exact absurd (show false=true from hs) Bool.false_ne_true
 | str i =>
   obtain ⟨t,rfl⟩:=rx
   cases y with
   | non=>cases ry; exact PySem.EqNone.eq_str_none (fin_bl I q (by simp))
   | bl j=>cases ry; exact PySem.EqMixed.eq_str_bool (fin_bl I q (by simp))
   | int j=>obtain ⟨t',rfl⟩:=ry; exact PySem.EqMixed.eq_str_int (fin_bl I q (by simp))
   | str j=>obtain ⟨t',rfl⟩:=ry; exact eq_str (fin_bl I q dec_str)
   | _=>exact absurd (show false=true from hs) Bool.false_ne_true
 | byt i =>
   obtain ⟨t,rfl⟩:=rx
   cases y with
   | byt j=>obtain ⟨t',rfl⟩:=ry; exact PySem.W.eq_bytes (fin_bl I q dec_byt)
   | _=>exact absurd (show false=true from hs) Bool.false_ne_true
 | _=>cases y<;>exact absurd (show false=true from hs) Bool.false_ne_true
theorem op_ne:OpR X (compareOp .NotEq) rNe:=by
 intro pins s σ H x y v u Q I rx ry h
 obtain ⟨hs,q⟩:=h
 cases x with
 | non =>
   cases rx
   cases y with
   | non=>cases ry; exact PySem.EqNone.ne_none_none (fin_bl I q (by simp))
   | bl j=>cases ry; exact PySem.EqNone.ne_none_bool (fin_bl I q (by simp))
   | int j=>obtain ⟨t',rfl⟩:=ry; exact PySem.EqNone.ne_none_int (fin_bl I q (by simp))
   | str j=>obtain ⟨t',rfl⟩:=ry; exact PySem.EqNone.ne_none_str (fin_bl I q (by simp))
   | _=>exact absurd (show false=true from hs) Bool.false_ne_true
 | bl i =>
   cases rx
   cases y with
   | non=>cases ry; exact PySem.EqNone.ne_bool_none (fin_bl I q (by simp))
   | bl j=>cases ry; exact ne_bool (fin_bl I q (congrArg not dec_bl))
   | str j=>obtain ⟨t',rfl⟩:=ry; exact PySem.EqMixed.ne_bool_str (fin_bl I q (by simp))
   | _=>exact absurd (show false=true from hs) Bool.false_ne_true
 | int i =>
   obtain ⟨t,rfl⟩:=rx
   cases y with
   | non=>cases ry; exact PySem.EqNone.ne_int_none (fin_bl I q (by simp))
   | int j=>obtain ⟨t',rfl⟩:=ry; exact ne_int (fin_bl I q (congrArg not dec_int))
   | str j=>obtain ⟨t',rfl⟩:=ry; exact PySem.EqMixed.ne_int_str (fin_bl I q (by simp))
   | _=>exact absurd (show false=true from hs) Bool.false_ne_true
 | str i =>
   obtain ⟨t,rfl⟩:=rx
   cases y with
   | non=>cases ry; exact PySem.EqNone.ne_str_none (fin_bl I q (by simp))
   | bl j=>cases ry; exact PySem.EqMixed.ne_str_bool (fin_bl I q (by simp))
   | int j=>obtain ⟨t',rfl⟩:=ry; exact PySem.EqMixed.ne_str_int (fin_bl I q (by simp))
   | str j=>obtain ⟨t',rfl⟩:=ry; exact ne_str (fin_bl I q (congrArg not dec_str))
   | _=>exact absurd (show false=true from hs) Bool.false_ne_true
 | byt i =>
   obtain ⟨t,rfl⟩:=rx
   cases y with
   | byt j=>obtain ⟨t',rfl⟩:=ry; exact PySem.W.ne_bytes (fin_bl I q (congrArg not dec_byt))
   | _=>exact absurd (show false=true from hs) Bool.false_ne_true
 | _=>cases y<;>exact absurd (show false=true from hs) Bool.false_ne_true
theorem op_lt:OpR X (compareOp .Lt) (rI0 λ i j=>.bl (decide (i<j))):=opB0 λ _ _ _ _ _ _ _ q=>lt_int q
theorem op_le:OpR X (compareOp .LtE) (rI0 λ i j=>.bl (decide (i<=j))):=opB0 λ _ _ _ _ _ _ _ q=>le_int q
theorem op_gt:OpR X (compareOp .Gt) (rI0 λ i j=>.bl (decide (j<i))):=opB0 λ _ _ _ _ _ _ _ q=>gt_int q
theorem op_lt_str:OpR X (compareOp .Lt) (λ x y H Q=>∃ i j,x=.str i/\y=.str j/\Q (.bl (decide (i.cps.toList<j.cps.toList))) H):=by
 intro pins s σ H x y v u Q I rx ry h
 obtain ⟨i,j,rfl,rfl,q⟩:=h
 obtain ⟨t,rfl⟩:=rx
 obtain ⟨t',rfl⟩:=ry
 exact lt_str (fin_bl I q rfl)
theorem op_in_str:OpR X (compareOp .In) (λ x y H Q=>∃ i j,x=.str i/\y=.str j/\Q (.bl (!(Builtin.Str.occurrences j i 0 j.length 1).isEmpty)) H):=by
 intro pins s σ H x y v u Q I rx ry h
 obtain ⟨i,j,rfl,rfl,q⟩:=h
 obtain ⟨t,rfl⟩:=rx
 obtain ⟨t',rfl⟩:=ry
 exact in_str (fin_bl I q rfl)
theorem OpR.or {f:Value->Value->Sem Value} {r r':R2} (h:OpR X f r) (h':OpR X f r'):OpR X f (λ x y H Q=>r x y H Q\/r' x y H Q):=by
 intro pins s σ H x y v u Q I rx ry q
 rcases q with q | q
 ·exact h pins s σ H x y v u Q I rx ry q
 ·exact h' pins s σ H x y v u Q I rx ry q
theorem nomark (b:Expr) {op:CmpOp} (h:op ≠ .In:=by decide) (h2:op ≠ .NotIn:=by decide):behindInMarks op b=false:=by
 have e1:(op == CmpOp.In)=false:=by cases op<;>first | rfl | exact absurd rfl h
 have e2:(op == CmpOp.NotIn)=false:=by cases op<;>first | rfl | exact absurd rfl h2
 cases b<;>simp [behindInMarks,e1,e2]
theorem pe_cmpR {op:CmpOp} {r:R2} (ho:OpR X (compareOp op) r) (ha:PE X a ta) (hb:PE X b tb) (hm:behindInMarks op b=false):PE X (.Compare a [op] [b] pos) (tOp r ta tb):=by
 intro pins s σ H Q I h
 exact wpAny_Compare1 (binT ha hb I h λ v u s2 x y H2 I2 rx ry q=>ho pins s2 σ H2 x y v u Q I2 rx ry q) hm
def tTest (t:TE):TT:=λ σ H Q=>t σ H λ x H'=>∃ k,x=.bl k/\Q k H'
theorem pt_cmpR {op:CmpOp} {r:R2} (ho:OpR X (compareOp op) r) (ha:PE X a ta) (hb:PE X b tb) (hm:behindInMarks op b=false):PT X (.Compare a [op] [b] pos) (tTest (tOp r ta tb)):=by
 intro pins s σ H Q I h
 refine wpAny_isTrue_Compare1 (thn (ha pins s σ H _ I h) λ v s1 ⟨x,H1,I1,r1,q1⟩=>thn (hb pins s1 σ H1 _ I1 q1) λ u s2 ⟨y,H2,I2,r2,q2⟩ =>
  thn (ho pins s2 σ H2 x y v u _ I2 r1 r2 q2) λ c s3 ⟨z,H3,I3,r3,k,e,q3⟩=>?_) hm
 subst e
 cases r3
 exact wpAny_truthy_bool ⟨H3,I3,q3⟩
def tChain (r r':R2) (ta tb tc:TE):TE:=λ σ H Q=>ta σ H λ x H1=>tb σ H1 λ y H2=>r x y H2 λ z H3=>∃ k,z=.bl k/\
 (if k=true then tc σ H3 λ w' H4=>r' y w' H4 Q else Q (.bl false) H3)
theorem pe_chain {op op':CmpOp} {r r':R2} (ho:OpR X (compareOp op) r) (ho':OpR X (compareOp op') r') (ha:PE X a ta) (hb:PE X b tb) (hc:PE X c tc)
 (hm:lastMarks [op,op'] [b,c]=false:=by with_unfolding_all rfl):PE X (.Compare a [op,op'] [b,c] pos) (tChain r r' ta tb tc):=by
 intro pins s σ H Q I h
 refine Compare_chain (thn (ha pins s σ H _ I h) λ v s1 ⟨x,H1,I1,r1,q1⟩=>chain_link (thn (hb pins s1 σ H1 _ I1 q1) λ u s2 ⟨y,H2,I2,r2,q2⟩ =>
  thn (ho pins s2 σ H2 x y v u _ I2 r1 r2 q2) λ d s3 ⟨z,H3,I3,r3,k,e,q3⟩=>?_)) hm
 subst e
 cases r3
 refine wpAny_truthy_bool ?_
 cases k with
 | false=>exact ite_ff ⟨.bl false,H3,I3,rfl,q3⟩
 | true=>exact ite_tt (chain_last (thn (hc pins s3 σ H3 _ I3 q3) λ w' s4 ⟨z',H4,I4,r4,q4⟩=>ho' pins s4 σ H4 y z' u w' Q I4 r2 r4 q4))
theorem line63:(sizeLine:Nat)<2^63:=by rw [sizeLine_eq]; decide
theorem op_add_str:OpR X (binaryOp .Add) (λ x y H Q=>∃ i j,x=.str i/\y=.str j/\i.length+j.length<=sizeLine/\Q (.str (i++j)) H):=by
 intro pins s σ H x y v u Q I rx ry h
 obtain ⟨i,j,rfl,rfl,hz,q⟩:=h
 obtain ⟨t,rfl⟩:=rx
 obtain ⟨t',rfl⟩:=ry
 exact add_str (λ t' tk=>⟨.str (i++j),H,I.tok _,⟨_,rfl⟩,q⟩) hz
theorem iop_add_str:OpR X (inplaceOp .Add) (λ x y H Q=>∃ i j,x=.str i/\y=.str j/\i.length+j.length<=sizeLine/\Q (.str (i++j)) H):=by
 intro pins s σ H x y v u Q I rx ry h
 obtain ⟨i,j,rfl,rfl,hz,q⟩:=h
 obtain ⟨t,rfl⟩:=rx
 obtain ⟨t',rfl⟩:=ry
 exact iadd_str (λ t' tk=>⟨.str (i++j),H,I.tok _,⟨_,rfl⟩,q⟩) hz
theorem vals1 {x:V} {us:List Value} (r:Vals [x] us):∃ u,us=[u]/\RelV x u:=by
 cases r with
 | cons r1 r2=>cases r2; exact ⟨_,rfl,r1⟩
theorem vals2 {x y:V} {us:List Value} (r:Vals [x,y] us):∃ u w',us=[u,w']/\RelV x u/\RelV y w':=by
 cases r with
 | cons r1 r2 =>
   cases r2 with
   | cons r3 r4=>cases r4; exact ⟨_,_,rfl,r1,r3⟩
theorem call_abs:CallR X (.builtin "abs") (λ xs H Q=>∃ i,xs=[.int i]/\Q (.int (if i<0 then -i else i)) H):=by
 intro pins s σ H xs us Q I r h
 obtain ⟨i,rfl,q⟩:=h
 obtain ⟨u,rfl,t,rfl⟩:=vals1 r
 exact call_abs_int λ u tk=>⟨.int (if i<0 then -i else i),H,I.tok _,⟨_,rfl⟩,q⟩
theorem call_max2 (hc:X.calm=true):CallR X (.builtin "max") (λ xs H Q=>∃ i j,xs=[.int i,.int j]/\Q (.int (if j>i then j else i)) H):=by
 intro pins s σ H xs us Q I r h
 obtain ⟨i,j,rfl,q⟩:=h
 obtain ⟨u,w',rfl,⟨t,rfl⟩,⟨t',rfl⟩⟩:=vals2 r
 refine max_two_ints (I.ok.hd hc) λ h' tk k=>⟨_,H,I.kept k,?_,q⟩
 by_cases hj:j>i
 ·rw [if_pos hj,if_pos hj]; exact ⟨_,rfl⟩
 ·rw [if_neg hj,if_neg hj]; exact ⟨_,rfl⟩
theorem call_str_int:CallR X (.type "str") (λ xs H Q=>∃ i,xs=[.int i]/\i.natAbs.log2<1920/\Q (.str (toString i)) H):=by
 intro pins s σ H xs us Q I r h
 obtain ⟨i,rfl,hz,q⟩:=h
 obtain ⟨u,rfl,t,rfl⟩:=vals1 r
 exact PySem.P.str_of_int hz ⟨.str _,H,I.tok _,⟨_,rfl⟩,q⟩
theorem call_ord:CallR X (.builtin "ord") (λ xs H Q=>∃ x,xs=[.str x]/\x.length=1/\Q (.int (x.cps.getD 0 0:Nat)) H):=by
 intro pins s σ H xs us Q I r h
 obtain ⟨x,rfl,hz,q⟩:=h
 obtain ⟨u,rfl,t,rfl⟩:=vals1 r
 exact ord_of_one hz ⟨.int _,H,I.tok _,⟨_,rfl⟩,q⟩
def LenV (K:PySem.W.Frag) (x:V) (H:Hp) (n:Nat):Prop :=
 match x with
 | .str y=>y.length<=sizeLine/\n=y.length
 | .byt y=>y.size<=sizeLine/\n=y.size
 | .ref p=>(∃ xs,SqL K H p xs/\n=xs.length)\/∃ xs,SqT K H p xs/\n=xs.length
 | _=>False
theorem call_len:CallR X (.builtin "len") (λ xs H Q=>∃ x n,xs=[x]/\LenV X.K x H n/\Q (.int n) H):=by
 intro pins s σ H xs us Q I r h
 obtain ⟨x,n,rfl,e,q⟩:=h
 obtain ⟨u,rfl,rx⟩:=vals1 r
 have hl:=line63
 have hs:sizeLine=16777216:=sizeLine_eq
 cases x with
 | str y =>
   obtain ⟨t,rfl⟩:=rx
   obtain ⟨hy,e'⟩:y.length<=sizeLine/\n=y.length:=e
   subst e'
   exact len_str (by omega) ⟨.int _,H,I.tok _,⟨_,rfl⟩,q⟩
 | byt y =>
   obtain ⟨t,rfl⟩:=rx
   obtain ⟨hy,e'⟩:y.size<=sizeLine/\n=y.size:=e
   subst e'
   exact PySem.W.len_bytes (by omega) ⟨.int _,H,I.tok _,⟨_,rfl⟩,q⟩
 | ref p =>
   cases rx
   have e':(∃ xs,SqL X.K H p xs/\n=xs.length)\/∃ xs,SqT X.K H p xs/\n=xs.length:=e
   rcases e' with ⟨xs,hx,e'⟩ | ⟨xs,hx,e'⟩
   ·subst e'
    obtain ⟨its,r',pl,hz⟩:=I.list hx
    have hlen:=r'.length
    exact Calls.call_len_list pl.isList (by simp only [List.size_toArray]; omega) ⟨.int xs.length,H,I.tok _,⟨_,by simp only [List.size_toArray]; rw [hlen]⟩,q⟩
   ·subst e'
    obtain ⟨its,r',pl,hz⟩:=I.tuple hx
    have hlen:=r'.length
    exact len_tuple pl (by simp only [List.size_toArray]; omega) ⟨.int xs.length,H,I.tok _,⟨_,by simp only [List.size_toArray]; rw [hlen]⟩,q⟩
 | _=>exact (show False from e).elim
end
end L2
namespace L2
open PySem PySem.Spec PyProof.Rows
structure ObjM (h:Heap) (x dx C:Addr) (mA:Str->Option Value):Prop where
 obj:h.get? x=some (PySem.W.instObj C dx)
 ns:h.Ns1 dx mA
 ne:dx ≠ x
theorem lookIn_ns {h:Heap} {dx:Addr} {mA:Str->Option Value} (n:h.Ns1 dx mA):∃ od,h.get? dx=some od/\∀ name,PySem.W.lookIn name od=some (mA name):=by
 obtain ⟨o,es,ep,ho,hd,hk,_,hm⟩:=n
 refine ⟨o,ho,λ name=>?_⟩
 have e:=hm name
 unfold nsFind findBy at e
 rw [← Array.find?_toList] at e
 unfold PySem.W.lookIn
 rw [hd]
 dsimp only
 split
 ·rename_i y q
  rw [q] at e
  exact congrArg some e
 ·rename_i q
  rw [q] at e
  have a:es.toList.any (·.refKey)=false:=by
   rw [List.any_eq_false]
   intro y hy
   obtain ⟨z,t,hkey⟩:=hk y (Array.mem_toList_iff.mp hy)
   simp [DictEntry.refKey,hkey]
  have a':¬ es.toList.any (·.refKey)=true:=by rw [a]; exact Bool.false_ne_true
  rw [if_neg a']
  exact congrArg some e
theorem ObjM.look {h:Heap} {x dx C:Addr} {mA:Str->Option Value} (I:ObjM h x dx C mA):∃ od,PySem.W.InstAt h x (PySem.W.instObj C dx) C (some od)/\∀ name,PySem.W.lookIn name od=some (mA name) :=
 let ⟨od,ho,hl⟩:=lookIn_ns I.ns
 ⟨od,⟨I.obj,rfl,rfl,ho⟩,hl⟩
section
variable {prog:Program} {w:World} {A:Around} {E:Value->Shared->Prop} {s:Shared} {K:PySem.W.Frag} {x dx C f:Addr} {mA:Str->Option Value} {name:Str} {v:Value}
theorem get_map {expr:Bool} {Q:Value->Shared->Prop} (X:K.In s.heap) (I:ObjM s.heap x dx C mA) (hg:PySem.W.plainGet K C name=true) (hh:PySem.W.hasDictIn K C=true)
 (ha:PySem.W.findIn K (.ref C) name=some none) (hv:mA name=some v) (hv':PySem.W.handedIn v=true) (h:Q v { s with toks:=s.toks+1 }):
 wpAny (model prog w) A (getAttr (.ref x) name expr) Q E s:=by
 obtain ⟨od,J,hl⟩:=I.look
 exact PySem.W.get_value X J (PySem.W.plainGet_of hg).1 (PySem.W.findObj_own hh ha rfl (by rw [hl,hv])) hv' h
theorem get_meth {pl:Sem Bool} {Q:Value × List Value->Shared->Prop} (X:K.In s.heap) (I:ObjM s.heap x dx C mA) (hg:PySem.W.plainGet K C name=true)
 (hf:PySem.W.findIn K (.ref C) name=some (some (.ref f))) (ht:PySem.W.isFn K (.ref f)=true) (hv:mA name=none) (h:Q (.ref f,[.ref x]) s):
 wpAny (model prog w) A (getMethod (.ref x) name pl) Q E s:=by
 obtain ⟨od,J,hl⟩:=I.look
 exact PySem.W.method_fn X J (PySem.W.plainGet_of hg).1 (PySem.W.plainGet_of hg).2 hf (beq_iff_eq.mp ht) (by show (PySem.W.lookIn name od).map (·.isSome)=some false; rw [hl,hv]; rfl) h
theorem set_map {ns:List Str} {Q:Unit->Shared->Prop} (X:K.In s.heap) (I:ObjM s.heap x dx C mA)
 (hs:PySem.W.findIn K (.ref C) "__setattr__" = some (some (.builtin "object.__setattr__"))) (hp:PySem.W.plainOver K C=true) (ht:PySem.W.takerIn K C name=some none) (hh:PySem.W.hasDictIn K C=true)
 (hw:PySem.Within mA ns) (hsz:ns.length<=sizeLine)
 (h:∀ h',ObjM h' x dx C (λ y=>if y=name then some v else mA y)->Heap.SameBut dx s.heap h'->Q () { s with heap:=h',toks:=s.toks+2 }):
 wpAny (model prog w) A (setAttr (.ref x) name v) Q E s:=by
 obtain ⟨od,J,hl⟩:=I.look
 refine PySem.W.set_plain X J hs (PySem.W.osa_open (s:={ s with toks:=s.toks+1 }) (r:=none) X J hp ht λ b=>?_)
 obtain ⟨cd,hc,hd'⟩:=PySem.W.any_some hh
 have hx:s.heap.get? x=some ⟨.ref C,some dx,.plain,#[]⟩:=I.obj
 refine wpAny_bind (wpAny_pure (wpAny_bind (wpAny_bind (wpAny_loadPart hx (wpAny_bind (PySem.W.Looks.here (s:={ s with toks:=s.toks+1 }) (PySem.W.looks_clsIn X hc) ?_))))))
 rw [hd']
 refine wpAny_pure (a:=some dx) (wpAny_bind (wpAny_pure (wpAny_bind ?_)))
 refine wpAny_nsSet1 (s:={ s with toks:=s.toks+1 }) I.ns λ h' hn2 hs2=>?_
 obtain ⟨oD,esD,epD,hoD,hdD,hcD⟩:=hn2.count (PySem.Within.cons name v hw)
 refine wpAny_bind (wpAny_lookBehind hoD (by rw [hdD]; exact pastItsLine_dict (Nat.le_trans hcD (by rw [List.length_cons]; omega))) ?_)
 exact wpAny_pure (h _ ⟨(hs2.2 _ (Ne.symm I.ne)).trans I.obj,hn2,I.ne⟩ hs2)
theorem make_map {R:Result->Shared->Prop} {vs:List Value} {kw:List (Str × Value)} (X:K.In s.heap) (hm:PySem.W.makesIn K C=true)
 (hi:PySem.W.findIn K (.ref C) "__init__" = some (some (.ref f))) (hf:PySem.W.typeIn K (.ref f)=some (.type "function"))
 (h:codeAny (model prog w) (A.under (.builtin "type.__call__" ⟨.ref C::vs,kw⟩)) (.call (.ref f) ⟨.ref (s.heap.objs.size+1)::vs,kw⟩) (PySem.W.InitBack (s.heap.objs.size+1) R)
  { s with heap:=(s.heap.push PySem.W.emptyDict).push (PySem.W.instObj C s.heap.objs.size) }):
 codeAny (model prog w) A (.call (.ref C) ⟨vs,kw⟩) R s:=by
 obtain ⟨hh,g,d,t,os⟩:=s
 exact PySem.W.make_core (PySem.W.makes_of X hm) (PySem.W.looks_findIn X hi) (λ self=>PySem.W.bind_fn X self hf) (.inl rfl) h
end
def putF (f:Str) (v:V):List (Str × V)->List (Str × V)
 | []=>[(f,v)]
 | (g,x)::r=>if g=f then (g,v)::r else (g,x)::putF f v r
theorem lookup_putF (f g:Str) (v:V):∀ fs:List (Str × V),(putF f v fs).lookup g=if g=f then some v else fs.lookup g
 | []=>by
   show List.lookup g [(f,v)]=_
   by_cases h:g=f
   ·have hb:(g == f)=true:=beq_iff_eq.mpr h
    simp only [List.lookup,hb,if_pos h]
   ·have hb:(g == f)=false:=beq_eq_false_iff_ne.mpr h
    simp only [List.lookup,hb,if_neg h]
 | (k,x)::r=>by
   have ih:=lookup_putF f g v r
   rw [show putF f v ((k,x)::r)=(if k=f then (k,v)::r else (k,x)::putF f v r) from rfl]
   by_cases hk:k=f
   ·rw [if_pos hk]
    by_cases h:g=k
    ·have hb:(g == k)=true:=beq_iff_eq.mpr h
     simp only [List.lookup,hb,if_pos (h.trans hk)]
    ·have hb:(g == k)=false:=beq_eq_false_iff_ne.mpr h
     simp only [List.lookup,hb,if_neg (λ e:g=f=>h (e.trans hk.symm))]
   ·rw [if_neg hk]
    by_cases h:g=k
    ·have hb:(g == k)=true:=beq_iff_eq.mpr h
     simp only [List.lookup,hb,if_neg (λ e:g=f=>hk (h.symm.trans e))]
    ·have hb:(g == k)=false:=beq_eq_false_iff_ne.mpr h
     simp only [List.lookup,hb]
     exact ih
theorem keys_putF (f:Str) (v:V):∀ fs:List (Str × V),f ∈ (putF f v fs).map (·.1)/\∀ g,g ∈ fs.map (·.1)->g ∈ (putF f v fs).map (·.1)
 | []=>⟨by simp [putF],λ g h=>by simp at h⟩
 | (k,x)::r=>by
   obtain ⟨i1,i2⟩:=keys_putF f v r
   rw [show putF f v ((k,x)::r)=(if k=f then (k,v)::r else (k,x)::putF f v r) from rfl]
   by_cases hk:k=f
   ·rw [if_pos hk]
    subst hk
    exact ⟨by simp,λ g h=>by simpa using h⟩
   ·rw [if_neg hk]
    refine ⟨?_,λ g h=>?_⟩
    ·rw [List.map_cons]
     exact List.mem_cons_of_mem _ i1
    ·rw [List.map_cons] at h ⊢
     rcases List.mem_cons.mp h with e | e
     ·exact List.mem_cons.mpr (.inl e)
     ·exact List.mem_cons_of_mem _ (i2 g e)
theorem length_putF (f:Str) (v:V):∀ fs:List (Str × V),(putF f v fs).length<=fs.length+1
 | []=>by simp [putF]
 | (k,x)::r=>by
   have ih:=length_putF f v r
   rw [show putF f v ((k,x)::r)=(if k=f then (k,v)::r else (k,x)::putF f v r) from rfl]
   by_cases hk:k=f
   ·rw [if_pos hk,List.length_cons,List.length_cons]; omega
   ·rw [if_neg hk,List.length_cons,List.length_cons]; omega
theorem RelO.some_of {v:V} {o:Option Value} (r:RelO (some v) o):∃ u,o=some u/\RelV v u:=by
 cases o with
 | none=>exact (show False from r).elim
 | some u=>exact ⟨u,rfl,r⟩
theorem RelO.none_of {o:Option Value} (r:RelO none o):o=none:=by
 cases o with
 | none=>rfl
 | some u=>exact (show False from r).elim
theorem handed_of {v:V} {u:Value} (r:RelV v u):PySem.W.handedIn u=true:=by
 cases v with
 | non=>cases (show u=Value.none from r); rfl
 | bl b=>cases (show u=Value.bool b from r); rfl
 | int i=>obtain ⟨t,e⟩:=(show ∃ t,u=Value.int i t from r); cases e; rfl
 | str x=>obtain ⟨t,e⟩:=(show ∃ t,u=Value.str x t from r); cases e; rfl
 | byt b=>obtain ⟨t,e⟩:=(show ∃ t,u=Value.bytes b t from r); cases e; rfl
 | flt b=>obtain ⟨t,e⟩:=(show ∃ t,u=Value.float b t from r); cases e; rfl
 | ref a=>cases (show u=Value.ref a from r); rfl
 | ty n=>cases (show u=Value.type n from r); rfl
section
variable {P:Program} {w:World} {H H':Hp} {h h':Heap} {a C dx:Addr} {fs fs':List (Str × V)}
theorem ins_get (hok:HOk P w H h) (e:H a=some (.ins C dx fs)):∃ mA,ObjM h a dx C mA/\(∀ f,RelO (fs.lookup f) (mA f))/\PySem.Within mA (fs.map (·.1))/\fs.length<=1000/\H dx=some (.own a):=by
 obtain ⟨d,z,ne,ob,mA,n,r,q⟩:=(show ObjOk P w H h a (.ins C dx fs) from hok a _ e)
 exact ⟨mA,⟨ob,n,ne⟩,r,q,z,d⟩
end
structure Cls (K:PySem.W.Frag) (C:Addr):Prop where
 pg:PySem.W.plainGet K C Str.empty=true
 hd:PySem.W.hasDictIn K C=true
 po:PySem.W.plainOver K C=true
 sa:PySem.W.findIn K (.ref C) "__setattr__" = some (some (.builtin "object.__setattr__"))
theorem Cls.get {K:PySem.W.Frag} {C:Addr} (c:Cls K C) (f:Str):PySem.W.plainGet K C f=true:=c.pg
def NoAttr (K:PySem.W.Frag) (C:Addr) (f:Str):Prop:=PySem.W.findIn K (.ref C) f=some none
theorem NoAttr.taker {K:PySem.W.Frag} {C:Addr} {f:Str} (n:NoAttr K C f):PySem.W.takerIn K C f=some none:=by
 unfold PySem.W.takerIn
 rw [show PySem.W.findIn K (.ref C) f=some none from n]
 rfl
structure Con (K:PySem.W.Frag) (C:Addr) (f:Str) (v:V) (u:Value):Prop where
 at_:PySem.W.findIn K (.ref C) f=some (some u)
 rel:RelV v u
 get:PySem.W.specialIn K u "__get__" = some none
 cp:PySem.W.copiedNames.contains f=false
structure Meth (K:PySem.W.Frag) (C:Addr) (m:Str) (f:Addr):Prop where
 at_:PySem.W.findIn K (.ref C) m=some (some (.ref f))
 fn:PySem.W.isFn K (.ref f)=true
 kp:PySem.W.keepIn K (.ref f)=true
section
variable {X:Cx} {pins:List (Addr × Obj)} {σ:St} {H:Hp} {s:Shared} {a C dx:Addr} {fs:List (Str × V)} {f:Str} {v:V} {A:Around} {E:Value->Shared->Prop}
theorem getattr_ok {b:Bool} {Q:Value->Shared->Prop} (I:Inv X pins σ H s) (e:H a=some (.ins C dx fs)) (c:Cls X.K C) (n:NoAttr X.K C f) (l:fs.lookup f=some v)
 (h:∀ u s',Inv X pins σ H s'->RelV v u->Q u s'):wpAny (model X.prog X.w) A (getAttr (.ref a) f b) Q E s:=by
 obtain ⟨mA,O,r,_,_,_⟩:=ins_get I.hok e
 obtain ⟨u,hu,ru⟩:=RelO.some_of (v:=v) (o:=mA f) (by rw [← l]; exact r f)
 exact get_map I.kIn O (c.get f) c.hd n hu (handed_of ru) (h u _ (I.tok _) ru)
theorem getmeth_ok {m:Str} {g:Addr} {pl:Sem Bool} {Q:Value × List Value->Shared->Prop} (I:Inv X pins σ H s) (e:H a=some (.ins C dx fs)) (c:Cls X.K C) (k:Meth X.K C m g) (l:fs.lookup m=none)
 (h:Q (.ref g,[.ref a]) s):wpAny (model X.prog X.w) A (getMethod (.ref a) m pl) Q E s:=by
 obtain ⟨mA,O,r,_,_,_⟩:=ins_get I.hok e
 have hn:mA m=none:=RelO.none_of (by rw [← l]; exact r m)
 exact get_meth I.kIn O (c.get m) k.at_ k.fn hn h
theorem setattr_ok {y:V} {u:Value} {Q:Unit->Shared->Prop} (I:Inv X pins σ H s) (e:H a=some (.ins C dx fs)) (c:Cls X.K C) (n:NoAttr X.K C f) (hl:fs.length<1000) (ry:RelV y u)
 (h:∀ s',Inv X pins σ (upd H a (.ins C dx (putF f y fs))) s'->Q () s'):wpAny (model X.prog X.w) A (setAttr (.ref a) f u) Q E s:=by
 obtain ⟨mA,O,r,wi,_,ho⟩:=ins_get I.hok e
 have hz:(fs.map (·.1)).length<=sizeLine:=by rw [List.length_map,sizeLine_eq]; omega
 refine set_map I.kIn O c.sa c.po n.taker c.hd wi hz λ h' O' sb=>h _ ?_
 have hd:∃ o,h'.get? dx=some o:=let ⟨o,_,_,e',_⟩:=O'.ns; ⟨o,e'⟩
 refine I.write (x:=a) (e:=dx) (by rw [e]; exact True.intro) (.inr ho) (λ b q hb z=>(sb.2 b hb).trans z) hd ?_
 refine ⟨by rw [upd_ne O.ne]; exact ho,?_,O.ne,O'.obj,_,O'.ns,λ g=>?_,λ g hg=>?_⟩
 ·have:=length_putF f y fs; omega
 ·show RelO ((putF f y fs).lookup g) (if g=f then some u else mA g)
  rw [lookup_putF]
  by_cases q:g=f
  ·rw [if_pos q,if_pos q]; exact ry
  ·rw [if_neg q,if_neg q]; exact r g
 ·by_cases q:g=f
  ·rw [q]; exact (keys_putF f y fs).1
  ·refine (keys_putF f y fs).2 g (wi g λ z=>hg ?_)
   show (if g=f then some u else mA g)=none
   rw [if_neg q]; exact z
theorem Inv.made (I:Inv X pins σ H s):Inv X pins σ (upd (upd H s.heap.objs.size (.own (s.heap.objs.size+1))) (s.heap.objs.size+1) (.ins C s.heap.objs.size []))
 { s with heap:=(s.heap.push PySem.W.emptyDict).push (PySem.W.instObj C s.heap.objs.size) }:=by
 have e1:(s.heap.push PySem.W.emptyDict).get? s.heap.objs.size=some PySem.W.emptyDict:=Heap.get?_push_size s.heap rfl
 have e2:((s.heap.push PySem.W.emptyDict).push (PySem.W.instObj C s.heap.objs.size)).get? (s.heap.objs.size+1)=some (PySem.W.instObj C s.heap.objs.size):=by
  have:=Heap.get?_push_size (s.heap.push PySem.W.emptyDict) (o:=PySem.W.instObj C s.heap.objs.size) rfl
  rwa [Heap.size_push] at this
 have e3:(s.heap.push PySem.W.emptyDict).Ns s.heap.objs.size (λ _=>none):=⟨PySem.W.emptyDict,#[],_,e1,rfl,(λ e he=>absurd he (by simp)),λ _=>rfl⟩
 have I1:=I.laid (a:=s.heap.objs.size) (o:=.own (s.heap.objs.size+1)) (h':=s.heap.push PySem.W.emptyDict) (t':=s.toks) (λ b u q=>Heap.get?_push_of_some _ q) (Nat.le_refl _) ⟨_,e1⟩
 refine I1.laid (a:=s.heap.objs.size+1) (o:=.ins C s.heap.objs.size []) (t':=s.toks) (λ b u q=>Heap.get?_push_of_some _ q) (Nat.le_of_eq (Heap.size_push _ _)) ?_
 have ne:s.heap.objs.size ≠ s.heap.objs.size+1:=Nat.ne_of_lt (Nat.lt_succ_self _)
 refine ⟨by rw [upd_ne ne,upd_same],Nat.zero_le _,ne,e2,λ _=>none,(Heap.Ns1.of_empty e3).at λ o q=>Heap.get?_push_of_some _ q,λ _=>True.intro,λ y hy=>absurd rfl hy⟩
theorem attr_of {prog:Program} {w:World} {env:Env} {e:Expr} {f:Str} {pos:Pos} {s:Shared} {Q:Value->Shared->Prop} (hb:attributeBase e f env (eval e env)=eval e env)
 (h:wpAny (model prog w) A (eval e env) (λ o s₁=>wpAny (model prog w) A (getAttr o f true) Q E s₁) E s):wpAny (model prog w) A (eval (.Attribute e f pos) env) Q E s :=
 Attribute_any_ h (by rw [arm_eval_Attribute,hb])
end
def tFld (K:PySem.W.Frag) (ta:TE) (f:Str):TE:=λ σ H Q=>ta σ H λ x H1=>∃ a C dx fs v,x=.ref a/\H1 a=some (.ins C dx fs)/\Cls K C/\NoAttr K C f/\fs.lookup f=some v/\Q v H1
def sFld (K:PySem.W.Frag) (ta tv:TE) (f:Str):TS:=λ D σ H=>tv σ H λ y H1=>ta σ H1 λ x H2=>∃ a C dx fs,x=.ref a/\H2 a=some (.ins C dx fs)/\Cls K C/\NoAttr K C f/\fs.length<1000/\
 D.nx σ (upd H2 a (.ins C dx (putF f y fs)))
def InOp (X:Cx) (op:Operator) (rd:V->V->Hp->VK->Prop):Prop :=
 ∀ (pins:List (Addr × Obj)) (s:Shared) (σ:St) (H:Hp) (x y:V) (u v:Value) (Q:VK),Inv X pins σ H s->RelV x u->RelV y v->rd x y H Q->wpAny (model X.prog X.w) X.A (inplaceOp op u v) (EP X pins σ Q) X.xe s
def sFldAug (K:PySem.W.Frag) (ta tv:TE) (rd:V->V->Hp->VK->Prop) (f:Str):TS:=λ D σ H=>ta σ H λ x H1=>∃ a C dx fs v,x=.ref a/\H1 a=some (.ins C dx fs)/\Cls K C/\NoAttr K C f/\fs.lookup f=some v/\
 tv σ H1 λ y H2=>rd v y H2 λ z H3=>∃ dx' fs',H3 a=some (.ins C dx' fs')/\fs'.length<1000/\D.nx σ (upd H3 a (.ins C dx' (putF f z fs')))
section
variable {X:Cx} {o e value:Expr} {f:Str} {pos pos' tpos:Pos} {ta tv:TE}
theorem pe_fld (he:PE X e ta) (hb:attributeBase e f X.env (eval e X.env)=eval e X.env):PE X (.Attribute e f pos) (tFld X.K ta f):=by
 intro pins s σ H Q I h
 refine attr_of hb (thn (he pins s σ H _ I h) λ u s1 ⟨x,H1,I1,rx,a,C,dx,fs,v,ex,ea,c,n,l,q⟩=>?_)
 subst ex
 obtain rfl:u=Value.ref a:=rx
 exact getattr_ok I1 ea c n l λ u' s2 I2 ru=>⟨v,H1,I2,ru,q⟩
theorem ps_fld (ha:PE X o ta) (hv:PE X value tv) (hs:swapsWith value (some (.Attribute o f pos')) pos.line X.env=pure false):PS X (.Assign [.Attribute o f pos'] value pos) (sFld X.K ta tv f):=by
 intro pins s σ H D I h
 refine plainObj_wpAny_Assign_Attribute (thn (hv pins s σ H _ I h) λ u s1 ⟨y,H1,I1,ry,q⟩=>thn (ha pins s1 σ H1 _ I1 q) λ ov s2 ⟨x,H2,I2,rx,a,C,dx,fs,ex,ea,c,n,l,q2⟩=>?_) hs
 subst ex
 obtain rfl:ov=Value.ref a:=rx
 exact setattr_ok I2 ea c n l ry λ s3 I3=>⟨σ,_,I3,q2⟩
theorem ps_fldaug {op:Operator} {rd:V->V->Hp->VK->Prop} (ha:PE X o ta) (hv:PE X value tv) (hop:InOp X op rd):PS X (.AugAssign (.Attribute o f tpos) op value pos) (sFldAug X.K ta tv rd f):=by
 intro pins s σ H D I h
 refine wpAny_AugAssign_AttributeAny (thn (ha pins s σ H _ I h) λ ov s1 ⟨x,H1,I1,rx,a,C,dx,fs,v,ex,ea,c,n,l,q⟩=>?_)
 subst ex
 obtain rfl:ov=Value.ref a:=rx
 refine getattr_ok I1 ea c n l λ u s2 I2 ru=>thn (hv pins s2 σ H1 _ I2 q) λ w3 s3 ⟨y,H2,I3,ry,q3⟩=>thn (hop pins s3 σ H2 v y u w3 _ I3 ru ry q3) λ w4 s4 ⟨z,H3,I4,rz,dx',fs',ea',l',q4⟩=>?_
 exact setattr_ok I4 ea' c n l' rz λ s5 I5=>⟨σ,_,I5,q4⟩
end
section
variable {X:Cx} {pins:List (Addr × Obj)} {σ:St} {H:Hp} {s:Shared} {A:Around} {E:Value->Shared->Prop} {Q:Value->Shared->Prop} {c:Value} {b:Bool}
inductive TyOf (K:PySem.W.Frag) (H:Hp):V->Value->Prop where
 | non:TyOf K H .non (.type "NoneType")
 | bl (x:Bool):TyOf K H (.bl x) (.type "bool")
 | int (i:Int):TyOf K H (.int i) (.type "int")
 | str (x:Str):TyOf K H (.str x) (.type "str")
 | flt (x:UInt64):TyOf K H (.flt x) (.type "float")
 | lst {a:Addr} {xs:List V} (e:H a=some (.lst xs)):TyOf K H (.ref a) (.type "list")
 | frz {a:Addr} {o:Obj} {xs:List V} (e:H a=some (.frz o (.lst xs))):TyOf K H (.ref a) (.type "list")
 | tup {a:Addr} {xs:List V} (e:H a=some (.tup xs)):TyOf K H (.ref a) (.type "tuple")
 | dK {a:Addr} {kvs:List (Key × V)} (e:H a=some (.dK kvs)):TyOf K H (.ref a) (.type "dict")
 | dT {a:Addr} {kvs:List (List Key × V)} (e:H a=some (.dT kvs)):TyOf K H (.ref a) (.type "dict")
 | ins {a C dx:Addr} {fs:List (Str × V)} (e:H a=some (.ins C dx fs)) (cl:Cls K C) (ha:PySem.W.findIn K (.ref C) "__class__" = some (some (.builtin "object.__class__")))
  (hn:PySem.W.specialIn K (.builtin "object.__class__") "__get__" = some (some (.builtin "getset_descriptor.__get__"))) (htk:PySem.W.takesIn K (.builtin "object.__class__")=some true)
  (hm:PySem.W.mroIn K C (.type "object")=some true):TyOf K H (.ref a) (.ref C)
theorem isinst_ok {x:V} {u t:Value} (I:Inv X pins σ H s) (rx:RelV x u) (ty:TyOf X.K H x t) (e:PySem.W.kitOne X.K t c=some b) (h:∀ tk,Q (.bool b) { s with toks:=tk }):
 wpAny (model X.prog X.w) A (call (.builtin "isinstance") [u,c]) Q E s:=by
 cases ty with
 | non=>cases (show u=Value.none from rx); exact PySem.W.kia_one PySem.W.kitx_none I.kIn True.intro e (λ z=>nomatch z) h
 | bl y=>cases (show u=Value.bool y from rx); exact PySem.W.kia_one PySem.W.kitx_bool I.kIn True.intro e (λ z=>nomatch z) h
 | int i=>obtain ⟨t,q⟩:=(show ∃ t,u=Value.int i t from rx); cases q; exact PySem.W.kia_one PySem.W.kitx_int I.kIn True.intro e (λ z=>nomatch z) h
 | str y=>obtain ⟨t,q⟩:=(show ∃ t,u=Value.str y t from rx); cases q; exact PySem.W.kia_one PySem.W.kitx_str I.kIn True.intro e (λ z=>nomatch z) h
 | flt y=>obtain ⟨t,q⟩:=(show ∃ t,u=Value.float y t from rx); cases q; exact PySem.W.kia_one PySem.W.kitx_float I.kIn True.intro e (λ z=>nomatch z) h
 | @lst a xs ea =>
   cases (show u=Value.ref a from rx)
   obtain ⟨_,_,n,_,h1⟩:=(show ObjOk X.prog X.w H s.heap a (.lst xs) from I.hok a _ ea)
   exact PySem.W.kia_one PySem.W.kitx_list I.kIn ⟨_,h1,rfl⟩ e (λ z=>nomatch z) h
 | @frz a ob xs ea =>
   cases (show u=Value.ref a from rx)
   obtain ⟨_,_,_,n,_,h1⟩:=(show ObjOk X.prog X.w H s.heap a (.frz ob (.lst xs)) from I.hok a _ ea)
   exact PySem.W.kia_one PySem.W.kitx_list I.kIn ⟨_,h1,rfl⟩ e (λ z=>nomatch z) h
 | @tup a xs ea =>
   cases (show u=Value.ref a from rx)
   obtain ⟨_,_,_,p⟩:=(show ObjOk X.prog X.w H s.heap a (.tup xs) from I.hok a _ ea)
   obtain ⟨o,h1,h2,_⟩:=p
   exact PySem.W.kia_one PySem.W.kitx_tuple I.kIn ⟨o,h1,h2⟩ e (λ z=>nomatch z) h
 | @dK a kvs ea =>
   cases (show u=Value.ref a from rx)
   obtain ⟨_,_,vs,_,p⟩:=(show ObjOk X.prog X.w H s.heap a (.dK kvs) from I.hok a _ ea)
   obtain ⟨o,es,ep,h1,h2,_⟩:=p
   exact PySem.W.kia_one PySem.W.kitx_dict I.kIn ⟨o,h1,h2.1⟩ e (λ z=>nomatch z) h
 | @dT a kvs ea =>
   cases (show u=Value.ref a from rx)
   obtain ⟨_,_,xs,_,o,es,ep,h1,h2,_⟩:=(show ObjOk X.prog X.w H s.heap a (.dT kvs) from I.hok a _ ea)
   exact PySem.W.kia_one PySem.W.kitx_dict I.kIn ⟨o,h1,h2.1⟩ e (λ z=>nomatch z) h
 | @ins a C dx fs ea cl ha hn htk hm =>
   cases (show u=Value.ref a from rx)
   obtain ⟨mA,O,_⟩:=ins_get I.hok ea
   obtain ⟨od,J,_⟩:=O.look
   exact PySem.W.kia_one (PySem.W.kitx_own (cl.get _) cl.hd ha hn htk hm) I.kIn J e (λ z=>nomatch z) h
end
end L2
namespace L2
open PySem PySem.Spec PyProof.Rows
structure Room (k:Nat) (A:Around):Prop where
 hd:A.handled=none
 dp:A.depth+3*k+5<recursionLimit
 un:A.units+16*k+200<cLine
theorem Room.mono {j k:Nat} {A:Around} (r:Room k A) (h:j<=k):Room j A:=⟨r.hd,by have:=r.dp; omega,by have:=r.un; omega⟩
theorem Room.deeper {k:Nat} {A:Around} (r:Room (k+1) A) (env:Env):Room k (A.deeper env) :=
 ⟨r.hd,by have:=r.dp; show A.depth+1+3*k+5<_; omega,by have:=r.un; show A.units+3+16*k+200<_; omega⟩
theorem Room.in1 {k:Nat} {A:Around} (r:Room (k+1) A):Room k A.in1 :=
 ⟨r.hd,by have:=r.dp; show A.depth+3*k+5<_; omega,by have:=r.un; show A.units+1+16*k+200<_; omega⟩
theorem make_depth {A:Around} {C:Addr} {us:List Value} {kw:List (Str × Value)}:(A.under (.builtin "type.__call__" ⟨.ref C::us,kw⟩)).depth=A.depth+1:=by
 first | rfl | simp [Around.under,Code.weight,Code.isCreation,Code.isGuard,Code.isCaller,Code.frames,Code.isFrame,guardIds]
theorem make_units {A:Around} {C:Addr} {us:List Value} {kw:List (Str × Value)}:(A.under (.builtin "type.__call__" ⟨.ref C::us,kw⟩)).units=A.units+1:=by
 first | rfl | simp [Around.under,Code.cUnits,Code.frames,Code.isFrame]
theorem Room.make {k:Nat} {A:Around} (r:Room (k+1) A) (C:Addr) (us:List Value) (kw:List (Str × Value)):Room k (A.under (.builtin "type.__call__" ⟨.ref C::us,kw⟩)) :=
 ⟨r.hd,by have:=r.dp; rw [make_depth]; omega,by have:=r.un; rw [make_units]; omega⟩
theorem Room.depth {k:Nat} {A:Around} (r:Room k A):A.depth<recursionLimit:=by have:=r.dp; omega
theorem Room.units {k:Nat} {A:Around} (r:Room k A):A.units+64<cLine:=by have:=r.un; omega
theorem Room.units0 {k:Nat} {A:Around} (r:Room k A):A.units<cLine:=by have:=r.un; omega
def tNil:TA:=λ _ H Q=>Q [] H
def tCons (ta:TE) (tr:TA):TA:=λ σ H Q=>ta σ H λ x H1=>tr σ H1 λ xs H2=>Q (x::xs) H2
section
variable {X:Cx} {e:Expr} {es:List Expr} {te:TE} {t:TA} {pos:Pos}
theorem pa_nil:PA X [] tNil:=λ _ _ _ _ H Q I h=>Calls.spliced_nil ⟨[],H,I,.nil,h⟩
theorem pa_cons (ha:PE X e te) (hr:PA X es t) (hs:starEach (e::es) X.env=(false,eval e X.env)::starEach es X.env:=by rfl):PA X (e::es) (tCons te t):=by
 intro pos pins s σ H Q I h
 rw [hs]
 show wpAny _ _ (spliced ((false,eval e X.env)::backTo pos (starEach es X.env))) _ _ s
 refine Calls.spliced_cons (thn (ha pins s σ H _ I h) λ u s1 ⟨x,H1,I1,r1,q1⟩=>?_)
 exact thn (hr pos pins s1 σ H1 _ I1 q1) λ us s2 ⟨xs,H2,I2,r2,q2⟩=>⟨x::xs,H2,I2,.cons r1 r2,q2⟩
def tTup (t:TA):TE:=λ σ H Q=>t σ H λ xs H1=>xs.length<=sizeLine/\∀ p,H1 p=none->Q (.ref p) (upd H1 p (.tup xs))
def tLst (t:TA):TE:=λ σ H Q=>t σ H λ xs H1=>xs.length<=sizeLine/\∀ p,H1 p=none->Q (.ref p) (upd H1 p (.lst xs))
theorem pe_tup {x1} (h:PA X es t):PE X (.Tuple es x1 pos) (tTup t):=by
 intro pins s σ H Q I hq
 refine wpAny_Tuple_spliced (thn (h pos pins s σ H _ I hq) λ us s1 ⟨xs,H1,I1,r,z,q⟩=>⟨by rw [← r.length]; exact z,?_⟩)
 have hf:H1 s1.heap.objs.size=none:=I1.hok.fresh (Nat.le_refl _)
 refine ⟨.ref s1.heap.objs.size,upd H1 s1.heap.objs.size (.tup xs),I1.laid (t':=s1.toks) (λ b u e=>Heap.get?_push_of_some _ e) (Nat.le_refl _) ?_,rfl,q _ hf⟩
 exact ⟨z,us,r,⟨_,Heap.get?_push_size _ rfl,rfl,_,rfl⟩⟩
theorem pe_lst (h:PA X es t):PE X (.List es pos) (tLst t):=by
 intro pins s σ H Q I hq
 refine wpAny_List_spliced (thn (h pos pins s σ H _ I hq) λ us s1 ⟨xs,H1,I1,r,z,q⟩=>⟨by rw [← r.length]; exact z,?_⟩)
 have hf:H1 s1.heap.objs.size=none:=I1.hok.fresh (Nat.le_refl _)
 refine ⟨.ref s1.heap.objs.size,upd H1 s1.heap.objs.size (.lst xs),I1.laid (t':=s1.toks) (λ b u e=>Heap.get?_push_of_some _ e) (Nat.le_refl _) ?_,rfl,q _ hf⟩
 exact ⟨z,us,0,r,Heap.get?_push_size _ rfl⟩
end
abbrev Sp:=List V->Hp->VK->XK->Prop
abbrev CXT:=List Env->Hp->Shared->XK->Value->Shared->Prop
structure Env0 (P:Program) (w:World) (K:PySem.W.Frag) (mg:Str->Option Value) (base:Heap) (A:Around) (outer:List Env) (s:Shared) (H:Hp):Prop where
 frames:A.frames=some outer
 mod:Mod K mg base
 bs:∀ b o,base.get? b=some o->s.heap.get? b=some o/\H b=none
 bsz:base.objs.size<=s.heap.objs.size
 funs:s.heap.FunFrames base outer
 frf:∀ b ∈ frs outer,H b=none
 hok:HOk P w H s.heap
 bare:AllBare s.gens
def CE (outer:List Env) (P:Program) (w:World) (H:Hp) (s:Shared) (Q:VK) (u:Value) (s':Shared):Prop :=
 ∃ v H',s'.os=s.os/\AllBare s'.gens/\Un (frs outer) [] H H' s.heap s'.heap/\HOk P w H' s'.heap/\RelV v u/\Q v H'
def CR (CX:CXT) (outer:List Env) (P:Program) (w:World) (H:Hp) (s:Shared) (Q:VK) (E:XK) (r:Result) (s':Shared):Prop :=
 match r with
 | .ok (.ret u)=>CE outer P w H s Q u s'
 | .ok _=>False
 | .error e=>CX outer H s E e s'
structure FnOk (P:Program) (w:World) (K:PySem.W.Frag) (mg:Str->Option Value) (base:Heap) (CX:CXT) (k:Nat) (f:Addr) (fd:FuncData) (ps:List Str) (sp:Sp):Prop where
 len:∀ vs H Q E,sp vs H Q E->vs.length=ps.length
 run:∀ (A:Around) (outer:List Env) (s:Shared) (H:Hp) (args:Args) (us:List Value) (vs:List V) (Q:VK) (E:XK),Room k A->Env0 P w K mg base A outer s H->BindsTo s fd args (ps.zip us)->Vals vs us->sp vs H Q E->
  codeAny (model P w) A (.call (.ref f) args) (CR CX outer P w H s Q E) s
theorem FnOk.mono {P:Program} {w:World} {K:PySem.W.Frag} {mg:Str->Option Value} {base:Heap} {CX:CXT} {j k:Nat} {f:Addr} {fd:FuncData} {ps:List Str} {sp:Sp} (F:FnOk P w K mg base CX j f fd ps sp) (h:j<=k):
 FnOk P w K mg base CX k f fd ps sp:=⟨F.len,λ A outer s H args us vs Q E hr=>F.run A outer s H args us vs Q E (hr.mono h)⟩
theorem FnOk.imp {P:Program} {w:World} {K:PySem.W.Frag} {mg:Str->Option Value} {base:Heap} {CX:CXT} {k:Nat} {f:Addr} {fd:FuncData} {ps:List Str} {sp sp':Sp} (F:FnOk P w K mg base CX k f fd ps sp)
 (h:∀ vs H Q E,sp' vs H Q E->sp vs H Q E):FnOk P w K mg base CX k f fd ps sp' :=
 ⟨λ vs H Q E q=>F.len vs H Q E (h _ _ _ _ q),λ A outer s H args us vs Q E hr he hb hv hs=>F.run A outer s H args us vs Q E hr he hb hv (h _ _ _ _ hs)⟩
theorem Env0.make {P:Program} {w:World} {K:PySem.W.Frag} {mg:Str->Option Value} {base:Heap} {A:Around} {outer:List Env} {s:Shared} {H:Hp} (e:Env0 P w K mg base A outer s H) (C:Addr) (us:List Value) (kw:List (Str × Value)):
 Env0 P w K mg base (A.under (.builtin "type.__call__" ⟨.ref C::us,kw⟩)) outer s H:=⟨by first | exact e.frames | (simpa [Around.under,Code.envs,Code.isFrame,pushEnvs] using e.frames),e.mod,e.bs,e.bsz,e.funs,e.frf,e.hok,e.bare⟩
theorem Env0.in1 {P:Program} {w:World} {K:PySem.W.Frag} {mg:Str->Option Value} {base:Heap} {A:Around} {outer:List Env} {s:Shared} {H:Hp} (e:Env0 P w K mg base A outer s H):
 Env0 P w K mg base A.in1 outer s H:=⟨e.frames,e.mod,e.bs,e.bsz,e.funs,e.frf,e.hok,e.bare⟩
section
variable {X:Cx} {pins:List (Addr × Obj)} {σ:St} {H:Hp} {s s':Shared}
theorem Inv.env0 (I:Inv X pins σ H s):Env0 X.prog X.w X.K X.mg X.base X.A X.stack s H :=
 ⟨I.ok.frames,I.ok.mod,I.bs,Nat.le_trans I.ok.bsz I.sz,I.stack,I.stkFree,I.hok,I.bare⟩
theorem Inv.after {Q:VK} {u:Value} (I:Inv X pins σ H s) (h:CE X.stack X.prog X.w H s Q u s'):EP X pins σ Q u s':=by
 obtain ⟨v,H',os,bare,un,hok,r,q⟩:=h
 obtain ⟨hh,g,d,t,os'⟩:=s'
 obtain rfl:os'=s.os:=os
 exact ⟨v,H',I.call (h':=hh) (g':=g) (d':=d) (t':=t) (ch:=[]) un hok bare (λ b z=>absurd z (by simp)),r,q⟩
end
def tCall (sp:Sp) (dvs:List V) (E:XK) (t:TA):TE:=λ σ H Q=>t σ H λ vs H1=>sp (vs++dvs) H1 Q E
def tMeth (C:Addr) (m:Str) (sp:Sp) (dvs:List V) (E:XK) (ta:TE) (t:TA):TE:=λ σ H Q=>ta σ H λ x H1=>∃ a dx fs,x=.ref a/\H1 a=some (.ins C dx fs)/\fs.lookup m=none/\
 t σ H1 λ vs H2=>sp (x::(vs++dvs)) H2 Q E
def tMake (C:Addr) (sp:Sp) (dvs:List V) (E:XK) (t:TA):TE:=λ σ H Q=>t σ H λ vs H1=>∀ x dx,H1 x=none->H1 dx=none->dx ≠ x->
 sp (.ref x::(vs++dvs)) (upd (upd H1 dx (.own x)) x (.ins C dx [])) (λ v H2=>v=.non/\Q (.ref x) H2) E
def Binds (K:PySem.W.Frag) (fd:FuncData) (ps:List Str) (ds:List Value):Prop :=
 ∀ (s:Shared) (us:List Value),K.In s.heap->(us++ds).length=ps.length->BindsTo s fd ⟨us,[]⟩ (ps.zip (us++ds))
theorem Binds.all {K:PySem.W.Frag} {fd:FuncData} {ps:List Str} (h:∀ us:List Value,us.length=ps.length->bindArgs fd ⟨us,[]⟩=pure (ps.zip us)):Binds K fd ps []:=λ s us _ hl=>by
 rw [List.append_nil] at hl ⊢
 exact .of_eq (h us hl)
def Passes (CX:CXT) (X:Cx) (E:XK):Prop:=∀ (pins:List (Addr × Obj)) (σ:St) (H:Hp) (s:Shared) (e:Value) (s':Shared),Inv X pins σ H s->CX X.stack H s E e s'->X.xe e s'
section
variable {X:Cx} {CX:CXT} {k:Nat} {f C:Addr} {fd:FuncData} {ps:List Str} {sp:Sp} {dvs:List V} {ds:List Value} {E:XK} {x m:Str} {p pos apos:Pos} {e o:Expr} {es:List Expr} {ta:TE} {t:TA}
theorem run_fn {pins:List (Addr × Obj)} {σ:St} {H:Hp} {s:Shared} {Q:VK} {us:List Value} {vs:List V} (F:FnOk X.prog X.w X.K X.mg X.base CX k f fd ps sp) (hr:Room k X.A) (hb:Binds X.K fd ps ds) (hd:Vals dvs ds) (hx:Passes CX X E)
 (I:Inv X pins σ H s) (r:Vals vs us) (h:sp (vs++dvs) H Q E):wpAny (model X.prog X.w) X.A (call (.ref f) us) (EP X pins σ Q) X.xe s:=by
 have r2:Vals (vs++dvs) (us++ds):=r.append hd
 have hl:(us++ds).length=ps.length:=by rw [← r2.length]; exact F.len _ _ _ _ h
 refine wpAny_call (codeAny_mono (F.run X.A X.stack s H ⟨us,[]⟩ (us++ds) (vs++dvs) Q E hr I.env0 (hb s us I.kIn hl) r2 h) λ r s' hq=>?_)
 cases r with
 | error e=>exact hx pins σ H s e s' I hq
 | ok fl =>
   cases fl with
   | ret u=>exact I.after hq
   | next=>exact False.elim hq
   | brk=>exact False.elim hq
   | cont=>exact False.elim hq
theorem pe_call (F:FnOk X.prog X.w X.K X.mg X.base CX k f fd ps sp) (hr:Room k X.A) (hg:Gl X x) (hm:X.mg x=some (.ref f)) (hk:PySem.W.keepIn X.K (.ref f)=true) (hb:Binds X.K fd ps ds) (hd:Vals dvs ds) (hx:Passes CX X E)
 (ha:PA X (e::es) t) (hdb:(x == ("__debug__" : Str))=false:=by decide) (he:starEach (e::es) X.env=(false,eval e X.env)::starEach es X.env:=by rfl) (hpl:(backTo pos (starEach es X.env)).any (·.1)=false:=by rfl):
 PE X (.Call (.Name x p) (e::es) [] pos) (tCall sp dvs E t):=by
 intro pins s σ H Q I h
 refine wpAny_Call_Name_kw (ld_glob I hg hm ?_ hdb)
 refine PySem.W.callWith_K (h₀:=X.base) I.ok.mod.kin hk (thn (ha pos pins s σ H _ I h) λ us s1 ⟨vs,H1,I1,r,q⟩=>⟨I1.kIn,?_⟩) he hpl
 exact run_fn F hr hb hd hx I1 r q
theorem pe_call0 (F:FnOk X.prog X.w X.K X.mg X.base CX k f fd ps sp) (hr:Room k X.A) (hg:Gl X x) (hm:X.mg x=some (.ref f)) (hk:PySem.W.keepIn X.K (.ref f)=true) (hb:Binds X.K fd ps ds) (hd:Vals dvs ds) (hx:Passes CX X E)
 (hdb:(x == ("__debug__" : Str))=false:=by decide):PE X (.Call (.Name x p) [] [] pos) (tCall sp dvs E tNil):=by
 intro pins s σ H Q I h
 refine wpAny_Call_Name_kw (ld_glob I hg hm ?_ hdb)
 exact PySem.W.callWith_K0 I.kIn hk (run_fn (us:=[]) F hr hb hd hx I .nil h)
theorem pe_meth {pl:Sem Bool} (he:PE X o ta) (c:Cls X.K C) (hm:Meth X.K C m f) (F:FnOk X.prog X.w X.K X.mg X.base CX k f fd ps sp) (hr:Room k X.A) (hb:Binds X.K fd ps ds) (hd:Vals dvs ds) (hx:Passes CX X E) (ha:PA X (e::es) t)
 (hst:starEach (e::es) X.env=(false,eval e X.env)::starEach es X.env:=by rfl) (hpl:(backTo pos (starEach es X.env)).any (·.1)=false:=by rfl)
 (ht:eval (.Call (.Attribute o m apos) (e::es) [] pos) X.env=(do
  let ov ← eval o X.env
  standAt apos.atName
  let (f,first) ← holding [ov] (getMethod ov m pl)
  callWith pos f first (backTo pos (starEach (e::es) X.env)) (backToKw pos (keywordEach [] X.env))):=by rfl):
 PE X (.Call (.Attribute o m apos) (e::es) [] pos) (tMeth C m sp dvs E ta t):=by
 intro pins s σ H Q I h
 refine PySem.W.methodCall_KW (pl:=pl) (thn (he pins s σ H _ I h) λ u s1 ⟨x,H1,I1,rx,a,dx,fs,ex,ea,l,q⟩=>?_) ht
 subst ex
 obtain rfl:u=Value.ref a:=rx
 refine getmeth_ok I1 ea c hm l ?_
 refine PySem.W.callWith_K (first:=[.ref a]) (h₀:=X.base) I.ok.mod.kin hm.kp (thn (ha pos pins s1 σ H1 _ I1 q) λ us s2 ⟨vs,H2,I2,r,q2⟩=>⟨I2.kIn,?_⟩) hst hpl
 exact run_fn (us:=.ref a::us) (vs:=.ref a::vs) F hr hb hd hx I2 (.cons rfl r) q2
theorem pe_meth0 {pl:Sem Bool} (he:PE X o ta) (c:Cls X.K C) (hm:Meth X.K C m f) (F:FnOk X.prog X.w X.K X.mg X.base CX k f fd ps sp) (hr:Room k X.A) (hb:Binds X.K fd ps ds) (hd:Vals dvs ds) (hx:Passes CX X E)
 (ht:eval (.Call (.Attribute o m apos) [] [] pos) X.env=(do
  let ov ← eval o X.env
  standAt apos.atName
  let (f,first) ← holding [ov] (getMethod ov m pl)
  callWith pos f first (backTo pos (starEach [] X.env)) (backToKw pos (keywordEach [] X.env))):=by rfl):
 PE X (.Call (.Attribute o m apos) [] [] pos) (tMeth C m sp dvs E ta tNil):=by
 intro pins s σ H Q I h
 refine PySem.W.methodCall_KW (pl:=pl) (thn (he pins s σ H _ I h) λ u s1 ⟨x,H1,I1,rx,a,dx,fs,ex,ea,l,q⟩=>?_) ht
 subst ex
 obtain rfl:u=Value.ref a:=rx
 refine getmeth_ok I1 ea c hm l ?_
 exact PySem.W.callWith_K0 (first:=[.ref a]) I1.kIn hm.kp (run_fn (us:=[.ref a]) (vs:=[.ref a]) F hr hb hd hx I1 (.cons rfl .nil) q)
structure Mk (K:PySem.W.Frag) (C f:Addr):Prop where
 makes:PySem.W.makesIn K C=true
 init:PySem.W.findIn K (.ref C) "__init__" = some (some (.ref f))
 fn:PySem.W.isFn K (.ref f)=true
 kp:PySem.W.keepIn K (.ref C)=true
theorem run_make {pins:List (Addr × Obj)} {σ:St} {H:Hp} {s:Shared} {Q:VK} {us:List Value} {vs:List V} (M:Mk X.K C f) (F:FnOk X.prog X.w X.K X.mg X.base CX k f fd ps sp) (hr:Room (k+1) X.A) (hb:Binds X.K fd ps ds) (hd:Vals dvs ds)
 (hx:Passes CX X E) (I:Inv X pins σ H s) (r:Vals vs us)
 (h:∀ x dx,H x=none->H dx=none->dx ≠ x->sp (.ref x::(vs++dvs)) (upd (upd H dx (.own x)) x (.ins C dx [])) (λ v H2=>v=.non/\Q (.ref x) H2) E):
 wpAny (model X.prog X.w) X.A (call (.ref C) us) (EP X pins σ Q) X.xe s:=by
 have hq:=h (s.heap.objs.size+1) s.heap.objs.size (I.hok.fresh (Nat.le_succ _)) (I.hok.fresh (Nat.le_refl _)) (Nat.ne_of_lt (Nat.lt_succ_self _))
 have I2:=Inv.made (C:=C) I
 have r2:Vals (V.ref (s.heap.objs.size+1)::(vs++dvs)) (Value.ref (s.heap.objs.size+1)::(us++ds)):=.cons rfl (r.append hd)
 have hl:(Value.ref (s.heap.objs.size+1)::us++ds).length=ps.length:=by
  have e:=r2.length
  rw [F.len _ _ _ _ hq] at e
  exact e.symm
 refine wpAny_call (make_map (f:=f) I.kIn M.makes M.init (beq_iff_eq.mp M.fn) (codeAny_mono (F.run _ X.stack _ _ ⟨Value.ref (s.heap.objs.size+1)::us,[]⟩ (Value.ref (s.heap.objs.size+1)::(us++ds)) _ _ E (hr.make C us [])
  (I2.env0.make C us []) (hb _ (Value.ref (s.heap.objs.size+1)::us) I2.kIn hl) r2 hq) λ r s' hq'=>?_))
 cases r with
 | error e=>exact hx pins σ _ _ e s' I2 hq'
 | ok fl =>
   cases fl with
   | ret u =>
     obtain ⟨v,H',I3,rv,ev,q3⟩:=I2.after hq'
     subst ev
     exact ⟨rv,⟨V.ref (s.heap.objs.size+1),H',I3,rfl,q3⟩⟩
   | next=>exact False.elim hq'
   | brk=>exact False.elim hq'
   | cont=>exact False.elim hq'
theorem pe_make (M:Mk X.K C f) (F:FnOk X.prog X.w X.K X.mg X.base CX k f fd ps sp) (hr:Room (k+1) X.A) (hg:Gl X x) (hm:X.mg x=some (.ref C)) (hb:Binds X.K fd ps ds) (hd:Vals dvs ds) (hx:Passes CX X E)
 (ha:PA X (e::es) t) (hdb:(x == ("__debug__" : Str))=false:=by decide) (he:starEach (e::es) X.env=(false,eval e X.env)::starEach es X.env:=by rfl) (hpl:(backTo pos (starEach es X.env)).any (·.1)=false:=by rfl):
 PE X (.Call (.Name x p) (e::es) [] pos) (tMake C sp dvs E t):=by
 intro pins s σ H Q I h
 refine wpAny_Call_Name_kw (ld_glob I hg hm ?_ hdb)
 refine PySem.W.callWith_K (h₀:=X.base) I.ok.mod.kin M.kp (thn (ha pos pins s σ H _ I h) λ us s1 ⟨vs,H1,I1,r,q⟩=>⟨I1.kIn,?_⟩) he hpl
 exact run_make M F hr hb hd hx I1 r q
end
section
variable {X:Cx} {CX:CXT} {k:Nat} {f C:Addr} {fd:FuncData} {ps ks:List Str} {sp:Sp} {E:XK} {x m:Str} {p pos apos kpos:Pos} {e o:Expr} {es:List Expr} {kws:List Keyword} {te ta:TE} {t tk:TA} {nm:Option Str}
structure KBinds (K:PySem.W.Frag) (fd:FuncData) (ps ks:List Str) (g:List Value->List Value->List Value) (gV:List V->List V->List V):Prop where
 to:∀ (s:Shared) (us ws:List Value),K.In s.heap->(g us ws).length=ps.length->BindsTo s fd ⟨us,ks.zip ws⟩ (ps.zip (g us ws))
 rel:∀ {vs:List V} {us:List Value} {zs:List V} {ws:List Value},Vals vs us->Vals zs ws->Vals (gV vs zs) (g us ws)
variable {g:List Value->List Value->List Value} {gV:List V->List V->List V}
end
structure FnScope (N P:List Str) (sc:Scope):Prop where
 kind:sc.kind=.function
 co:sc.isCoroutine=false
 gen:sc.isGenerator=false
 nd:N.Nodup
 pre:N.take P.length=P
 par:∀ x ∈ P,sc.names.lookup x=some .local\/sc.names.lookup x=some .cell
 nofree:∀ y ∈ sc.names,y.2 ≠ .free
theorem bindL_out {kindOf:Str->Option NameKind} {x:Str}:∀ {binds:List (Str × Value)} {m:Str->Option Value},(∀ v,(x,v) ∉ binds)->bindL kindOf binds m x=m x
 | [],_,_=>rfl
 | (n,v)::r,m,h=>by
   unfold bindL
   rw [bindL_out λ w hw=>h w (List.mem_cons_of_mem _ hw)]
   split
   ·have:x ≠ n:=by rintro rfl; exact h v List.mem_cons_self
    simp [this]
   ·rfl
theorem bindC_out {kindOf:Str->Option NameKind} {x:Str}:∀ {binds:List (Str × Value)} {m:Str->Option Value},(∀ v,(x,v) ∉ binds)->bindC kindOf binds m x=m x
 | [],_,_=>rfl
 | (n,v)::r,m,h=>by
   unfold bindC
   rw [bindC_out λ w hw=>h w (List.mem_cons_of_mem _ hw)]
   split
   ·rfl
   ·have:x ≠ n:=by rintro rfl; exact h v List.mem_cons_self
    simp [this]
theorem bindL_get {kindOf:Str->Option NameKind} {x:Str} {v:Value}:∀ {P:List Str} {vs:List Value} {i:Nat} {m:Str->Option Value},P.Nodup->P[i]?=some x->vs[i]?=some v->kindOf x=some .local->
 bindL kindOf (P.zip vs) m x=some v
 | [],_,_,_,_,h,_,_=>by simp at h
 | _::_,[],_,_,_,_,h,_=>by simp at h
 | p::P,w::vs,0,m,nd,h1,h2,hk=>by
   simp at h1 h2; subst h1; subst h2
   show bindL kindOf ((p,w)::P.zip vs) m p=_
   unfold bindL
   rw [bindL_out λ v hv=>(List.nodup_cons.mp nd).1 (List.of_mem_zip hv).1,if_pos hk]
   simp
 | p::P,w::vs,i+1,m,nd,h1,h2,hk=>by
   show bindL kindOf ((p,w)::P.zip vs) m x=_
   unfold bindL
   exact bindL_get (i:=i) (List.nodup_cons.mp nd).2 (by simpa using h1) (by simpa using h2) hk
theorem bindC_get {kindOf:Str->Option NameKind} {x:Str} {v:Value}:∀ {P:List Str} {vs:List Value} {i:Nat} {m:Str->Option Value},P.Nodup->P[i]?=some x->vs[i]?=some v->kindOf x ≠ some .local->
 bindC kindOf (P.zip vs) m x=some v
 | [],_,_,_,_,h,_,_=>by simp at h
 | _::_,[],_,_,_,_,h,_=>by simp at h
 | p::P,w::vs,0,m,nd,h1,h2,hk=>by
   simp at h1 h2; subst h1; subst h2
   show bindC kindOf ((p,w)::P.zip vs) m p=_
   unfold bindC
   rw [bindC_out λ v hv=>(List.nodup_cons.mp nd).1 (List.of_mem_zip hv).1,if_neg hk]
   simp
 | p::P,w::vs,i+1,m,nd,h1,h2,hk=>by
   show bindC kindOf ((p,w)::P.zip vs) m x=_
   unfold bindC
   exact bindC_get (i:=i) (List.nodup_cons.mp nd).2 (by simpa using h1) (by simpa using h2) hk
def start (N:List Str) (vs:List V):St:=vs.map some++List.replicate (N.length-vs.length) none
def cxOf (CX:CXT) (P:Program) (w:World) (K:PySem.W.Frag) (mg:Str->Option Value) (base:Heap) (N:List Str) (qual:Str) (scope:Scope) (f:Addr) (cd:Value) (A:Around) (outer:List Env) (s:Shared) (H:Hp) (E:XK):Cx where
 prog:=P
 w:=w
 K:=K
 mg:=mg
 base:=base
 A:=A.deeper (envOfC qual scope s.heap.objs.size f cd)
 N:=N
 s₀:=s
 H₀:=H
 env:=envOfC qual scope s.heap.objs.size f cd
 outer:=outer
 stack:=envOfC qual scope s.heap.objs.size f cd::outer
 ex:=[]
 calm:=true
 fn:=λ _=>true
 pn:=[]
 xe:=λ e s'=>wpAny (model P w) (A.deeper (envOfC qual scope s.heap.objs.size f cd)) (leaving (envOfC qual scope s.heap.objs.size f cd) e) (λ _ s''=>CX outer H s E e s'') (λ e' s''=>CX outer H s E e' s'') s'
theorem cell_has {sc:Scope} {n:Nat} {x:Str} (h:sc.names.lookup x=some .cell):∃ c,(cellsFrom n sc.names []).lookup x=some c:=by
 have q:=PySem.W.cellsFrom_some sc.names n [] (.inl h)
 exact Option.isSome_iff_exists.mp q
theorem inv_start {CX:CXT} {P:Program} {w:World} {K:PySem.W.Frag} {mg:Str->Option Value} {base:Heap} {N ps:List Str} {qual:Str} {scope:Scope} {f:Addr} {cd:Value} {A:Around} {outer:List Env} {s s1:Shared} {H:Hp} {E:XK} {us:List Value} {vs:List V}
 (S:FnScope N ps scope) (hd:A.handled=none) (e0:Env0 P w K mg base A outer s H) (hl:vs.length=ps.length) (r:Vals vs us)
 (x:InCallC s s.heap.objs.size (bindL (envOfC qual scope s.heap.objs.size f cd).kindOf (ps.zip us) λ _=>none) (cellsFrom (s.heap.objs.size+1) scope.names []) (bindC (envOfC qual scope s.heap.objs.size f cd).kindOf (ps.zip us) λ _=>none) s1):
 Inv (cxOf CX P w K mg base N qual scope f cd A outer s H E) [] (start N vs) H s1:=by
 have hpl:ps.length<=N.length:=by have:=congrArg List.length S.pre; rw [List.length_take] at this; omega
 obtain ⟨h1,tk,rfl,hk⟩:=x.done
 have noA:∀ b:Addr,b ∉ (cxOf CX P w K mg base N qual scope f cd A outer s H E).ex:=λ b z=>absurd (show b ∈ ([]:List Addr) from z) (by simp)
 refine ⟨⟨e0.mod,S.kind,rfl,rfl,Nat.le_refl _,λ y z c h1 h2=>?_,λ y hy=>?_,λ y c _ h=>?_,λ _=>hd,Around.frames_deeper e0.frames,.inr ⟨rfl,rfl⟩,λ b z=>absurd z (noA b),e0.bs,e0.bsz,λ b _ _=>noA b,λ b z=>absurd z (noA b),e0.funs,e0.frf⟩,
  rfl,e0.bare,Un.kept hk,⟨_,x.toInCall.ns,λ i y v h1 h2 h3=>?_⟩,λ y c h=>⟨_,x.cell y c h⟩,e0.hok.fresh (Nat.le_refl _),λ y c h=>?_,λ p hp=>absurd (show p ∈ ([]:List (Addr × Obj)) from hp) (by simp),e0.hok.kept hk,?_⟩
 ·exact name_of_addr x.apart (PySem.mem_of_lookup h1) (PySem.mem_of_lookup h2)
 ·have hy:scope.names.lookup y=some .cell\/scope.names.lookup y=some .free:=hy
  rcases hy with hy | hy
  ·exact cell_has hy
  ·exact absurd rfl (S.nofree _ (PySem.mem_of_lookup hy))
 ·exact Nat.le_of_lt (x.above y c (PySem.mem_of_lookup h))
 ·have hi:i<vs.length:=by
   unfold start at h2
   by_cases hi:i<vs.length
   ·exact hi
   ·rw [List.getElem?_append_right (by simpa using hi)] at h2
    rw [List.getElem?_replicate] at h2
    split at h2<;>cases h2
  have ha:vs[i]?=some v:=by
   unfold start at h2
   rw [List.getElem?_append_left (by simpa using hi),List.getElem?_map] at h2
   cases e:vs[i]? with
   | none=>rw [e] at h2; cases h2
   | some a=>rw [e] at h2; cases h2; rfl
  obtain ⟨u,hu,rv⟩:=r.get ha
  have hp:ps[i]?=some y:=by
   rw [← S.pre,List.getElem?_take_of_lt (by omega)]; exact h1
  have ndP:ps.Nodup:=by rw [← S.pre]; exact S.nd.sublist (List.take_sublist _ _)
  refine ⟨u,rv,?_⟩
  rcases S.par y (List.mem_of_getElem? hp) with k | k
  ·exact .inl ⟨k,bindL_get ndP hp hu k⟩
  ·obtain ⟨c,e⟩:=cell_has (n:=s.heap.objs.size+1) k
   refine .inr ⟨.inl k,c,e,?_⟩
   have q:=x.cell y c e
   rw [bindC_get ndP hp hu (by show scope.names.lookup y ≠ _; rw [k]; decide)] at q
   exact q
 ·exact e0.hok.fresh (Nat.le_of_lt (x.above y c (PySem.mem_of_lookup h)))
 ·unfold start
  show _=N.length
  rw [List.length_append,List.length_map,List.length_replicate]
  omega
theorem fn_of {CX:CXT} {P:Program} {w:World} {K:PySem.W.Frag} {mg:Str->Option Value} {base:Heap} {k:Nat} {f:Addr} {name qual:Str} {params:Arguments} {body:List Stmt} {scope:Scope} {dV kV doc pm cdv ct oc:Value} {an od:Option Addr}
 {osl:Array (Option Value)} {N ps:List Str} {sp:Sp} (lk:K.lookup f=some ⟨oc,od,.func (PySem.W.fnOf name qual params body scope dV kV doc pm an cdv ct),osl⟩) (hcd:PySem.W.codeIn K cdv qual=true) (S:FnScope N ps scope)
 (len:∀ vs H Q E,sp vs H Q E->vs.length=ps.length)
 (hbody:∀ (A:Around) (outer:List Env) (s:Shared) (H:Hp) (vs:List V) (Q:VK) (E:XK),Room k (A.deeper (envOfC qual scope s.heap.objs.size f cdv))->sp vs H Q E->
  ∃ t,PSs (cxOf CX P w K mg base N qual scope f cdv A outer s H E) body t/\t { nx:=λ _ H'=>Q .non H',rt:=Q } (start N vs) H):
 FnOk P w K mg base CX (k+1) f (PySem.W.fnOf name qual params body scope dV kV doc pm an cdv ct) ps sp:=by
 refine ⟨len,λ A outer s H args us vs Q E hr e0 hb r hsp=>?_⟩
 have hl:=len _ _ _ _ hsp
 have KX:K.In s.heap:=e0.mod.kin.keeps λ b o e=>(e0.bs b o e).1
 have lim:s.heap.NoLimit:=e0.mod.nolimit.keeps λ b o e=>(e0.bs b o e).1
 have hkind:∀ y ∈ ps.zip us,scope.names.lookup y.1=some .local\/(scope.names.lookup y.1=some .cell/\((cellsFrom (s.heap.objs.size+1) scope.names []).lookup y.1).isSome=true):=λ ⟨n,v⟩ hy=>by
  rcases S.par n (List.of_mem_zip hy).1 with q | q
  ·exact .inl q
  ·exact .inr ⟨q,PySem.W.cellsFrom_some _ _ _ (.inl q)⟩
 refine codeAny_call_function hr.depth (KX _ _ lk) rfl S.co S.gen rfl (PySem.W.codeRec_of KX hcd) (hb _ _ _ _ ?_)
 refine wpAny_newFunctionEnv_cells S.kind hkind λ env he s1 x=>?_
 subst he
 refine ⟨lim.keeps x.toInCall.keep,codeAny_func ?_⟩
 obtain ⟨t,ht,hq⟩:=hbody A outer s H vs Q E (hr.deeper _) hsp
 have I:Inv (cxOf CX P w K mg base N qual scope f cdv A outer s H E) [] (start N vs) H s1:=inv_start S hr.hd e0 hl r x
 refine wpAny_mono (ht [] s1 (start N vs) H _ I hq) (λ fl s' hs=>?_) λ e s' hs=>hs
 have fin:∀ {σ':St} {H':Hp} {v:V} {u:Value},Inv (cxOf CX P w K mg base N qual scope f cdv A outer s H E) [] σ' H' s'->RelV v u->Q v H'->CE outer P w H s Q u s' :=
  λ {σ' H' v u} J rv q=>⟨v,H',J.os,J.bare,J.base,J.hok,rv,q⟩
 cases fl with
 | ret u =>
   obtain ⟨v,σ',H',J,rv,q⟩:=hs
   exact fin J rv q
 | next =>
   obtain ⟨σ',H',J,q⟩:=hs
   exact fin (v:=V.non) (u:=Value.none) J rfl q
 | brk =>
   obtain ⟨_,_,_,q⟩:=hs
   exact False.elim q
 | cont =>
   obtain ⟨_,_,_,q⟩:=hs
   exact False.elim q
end L2
namespace L2
open PySem PySem.Spec PyProof.Rows
section
variable {X:Cx} {x:Str} {p pos:Pos} {e:Expr} {es:List Expr} {t:TA} {id T:String} {r:List V->Hp->VK->Prop}
def tCB (r:List V->Hp->VK->Prop) (t:TA):TE:=λ σ H Q=>t σ H λ vs H1=>r vs H1 Q
theorem pe_callB (hc:CallR X (.builtin id) r) (hg:Gl X x) (hm:X.mg x=none) (hv:bootBuiltins x=some (.builtin id)) (ha:PA X (e::es) t) (hn:x ≠ "__name__":=by decide) (hdb:(x == ("__debug__" : Str))=false:=by decide)
 (he:starEach (e::es) X.env=(false,eval e X.env)::starEach es X.env:=by rfl) (hpl:(backTo pos (starEach es X.env)).any (·.1)=false:=by rfl):PE X (.Call (.Name x p) (e::es) [] pos) (tCB r t):=by
 intro pins s σ H Q I h
 refine wpAny_Call_Name_kw (ld_blt I hg hm hv ?_ hn hdb)
 exact PyProof.Rows.callWith_builtin1 (thn (ha pos pins s σ H _ I h) λ us s1 ⟨vs,H1,I1,r1,q1⟩=>hc pins s1 σ H1 vs us Q I1 r1 q1) he hpl
theorem pe_callTy (hc:CallR X (.type T) r) (hg:Gl X x) (hm:X.mg x=none) (hv:bootBuiltins x=some (.type T)) (ha:PA X (e::es) t) (hn:x ≠ "__name__":=by decide) (hdb:(x == ("__debug__" : Str))=false:=by decide)
 (he:starEach (e::es) X.env=(false,eval e X.env)::starEach es X.env:=by rfl) (hpl:(backTo pos (starEach es X.env)).any (·.1)=false:=by rfl):PE X (.Call (.Name x p) (e::es) [] pos) (tCB r t):=by
 intro pins s σ H Q I h
 refine wpAny_Call_Name_kw (ld_blt I hg hm hv ?_ hn hdb)
 exact PyProof.Rows.callWith_type1 (thn (ha pos pins s σ H _ I h) λ us s1 ⟨vs,H1,I1,r1,q1⟩=>hc pins s1 σ H1 vs us Q I1 r1 q1) he hpl
end
end L2
namespace HT
open PySem PyProof.Rows
section
open PySem.SeqAt
open PySem.AutoSeq1 (wpAny_loadPart')
open PySem.MeetsSeq PySem.MeetsSeq2 PySem.MeetsSeq3
end
section
variable {prog:Program} {w:World} {A:Around} {E:Value->Shared->Prop} {s:Shared}
theorem cat_tup {t b:Addr} {vs ws:List Value} {Q:Value->Shared->Prop} (ht:IsTup s.heap t vs.toArray) (hb:IsTup s.heap b ws.toArray) (hv:vs ≠ [])
 (h1:ws=[]->Q (.ref t) s) (h2:ws ≠ []->Q (.ref s.heap.objs.size) { s with heap:=s.heap.push { cls:=.type "tuple",data:=.seq (vs++ws).toArray } })
 (hsz:vs.length+ws.length<=sizeLine):wpAny (model prog w) A (binaryOp .Add (.ref t) (.ref b)) Q E s:=by
 obtain ⟨⟨cls,dd,data,sl⟩,ho,hc,n,hd⟩:=id ht
 obtain ⟨⟨cls2,dd2,data2,sl2⟩,ho2,hc2,n2,hd2⟩:=id hb
 simp only at hc hd hc2 hd2
 subst hc hd hc2 hd2
 have e:vs.toArray++ws.toArray=(vs++ws).toArray:=by simp
 by_cases hw:ws=[]
 ·exact concat_meets ⟨_,ho,rfl⟩ ⟨_,ho2,rfl⟩ noFill_tuple_add seq_tuple_add PySem.F.slot_tuple_add PySem.F.entry_tuple_add (PySem.F.args_tuple_add_2 _ _)
   (tuple_addW1 t b vs.toArray ws.toArray n n2 dd dd2 sl sl2 (by simpa using hv) (by simp [hw])) ⟨ho,ho2,h1 hw⟩
 ·refine concat_meets ⟨_,ho,rfl⟩ ⟨_,ho2,rfl⟩ noFill_tuple_add seq_tuple_add PySem.F.slot_tuple_add PySem.F.entry_tuple_add (PySem.F.args_tuple_add_2 _ _)
   (tuple_addW2 t b vs.toArray ws.toArray n n2 dd dd2 sl sl2 (by simpa using hv) (by simpa using hw) (by rw [List.size_toArray,List.size_toArray]; exact hsz)) ⟨ho,ho2,?_⟩
  rw [e]
  exact h2 hw
def sIx (n d:Nat):Option Int->Nat
 | none=>d
 | some v=>if v<0 then (v+(n:Int)).toNat else min v.toNat n
theorem sIx_none (n d:Nat):sIx n d none=d:=rfl
theorem sIx_nat (n d k:Nat):sIx n d (some (k:Int))=min k n:=by
 show (if (k:Int)<0 then ((k:Int)+(n:Int)).toNat else min (k:Int).toNat n)=min k n
 rw [if_neg (by omega),Int.toNat_natCast]
theorem sIx_le (n d:Nat) (hd:d<=n) (o:Option Int):sIx n d o<=n:=by
 cases o with
 | none=>exact hd
 | some v =>
   show (if v<0 then (v+(n:Int)).toNat else min v.toNat n)<=n
   by_cases hv:v<0
   ·rw [if_pos hv]; omega
   ·rw [if_neg hv]; exact Nat.min_le_right _ _
end
end HT
namespace L2
open PySem PySem.Spec PyProof.Rows
abbrev TO:=St->Hp->(Option Int->Hp->Prop)->Prop
def PO (X:Cx) (e:Option Expr) (t:TO):Prop :=
 ∀ (pins:List (Addr × Obj)) (s:Shared) (σ:St) (H:Hp) (Q:Option Int->Hp->Prop),Inv X pins σ H s->t σ H Q->
   wpAny (model X.prog X.w) X.A (evalPart e X.env) (λ u s'=>∃ o H',Inv X pins σ H' s'/\IsPart u o/\Q o H') X.xe s
def tNoPart:TO:=λ _ H Q=>Q none H
def tPart (t:TE):TO:=λ σ H Q=>t σ H λ x H1=>∃ i,x=.int i/\Q (some i) H1
section
variable {X:Cx} {e:Expr} {te:TE} {lo hi:Option Expr} {tl th:TO} {pos p2:Pos}
theorem po_none:PO X none tNoPart:=by
 intro pins s σ H Q I h
 rw [evalPart_none]
 exact wpAny_pure ⟨none,H,I,.none,h⟩
theorem po_some (h:PE X e te):PO X (some e) (tPart te):=by
 intro pins s σ H Q I hw
 rw [evalPart_some]
 refine thn (h pins s σ H _ I hw) λ u s1 ⟨x,H1,I1,r1,q1⟩=>?_
 obtain ⟨i,rfl,q⟩:=q1
 obtain ⟨t,rfl⟩:=r1
 exact ⟨some i,H1,I1,.int i t,q⟩
def SlR (X:Cx) (r:V->Option Int->Option Int->Hp->VK->Prop):Prop :=
 ∀ (pins:List (Addr × Obj)) (s:Shared) (σ:St) (H:Hp) (x:V) (v vl vu:Value) (lo hi:Option Int) (sl:Addr) (Q:VK),Inv X pins σ H s->RelV x v->s.heap.IsSliceOf sl vl vu .none->IsPart vl lo->IsPart vu hi->r x lo hi H Q->
   ∃ T id,typeLookup (.type T) "__getitem__" = pure (some (.builtin id))/\s.TypeIs v T/\wpAny (model X.prog X.w) X.A (getItem v (.ref sl)) (EP X pins σ Q) X.xe s
theorem SlR.or {r r':V->Option Int->Option Int->Hp->VK->Prop} (h:SlR X r) (h':SlR X r'):SlR X (λ x lo hi H Q=>r x lo hi H Q\/r' x lo hi H Q):=by
 intro pins s σ H x v vl vu lo hi sl Q I rx hs pl pu q
 rcases q with q | q
 ·exact h pins s σ H x v vl vu lo hi sl Q I rx hs pl pu q
 ·exact h' pins s σ H x v vl vu lo hi sl Q I rx hs pl pu q
def tSl (r:V->Option Int->Option Int->Hp->VK->Prop) (te:TE) (tl th:TO):TE:=λ σ H Q=>te σ H λ x H1=>tl σ H1 λ l H2=>th σ H2 λ u H3=>r x l u H3 Q
theorem pe_slice {r:V->Option Int->Option Int->Hp->VK->Prop} (hr:SlR X r) (he:PE X e te) (hl:PO X lo tl) (hu:PO X hi th):PE X (.Subscript e (.Slice lo hi none p2) pos) (tSl r te tl th):=by
 intro pins s σ H Q I h
 refine Subscript_ (thn (he pins s σ H _ I h) λ v s1 ⟨x,H1,I1,r1,q1⟩=>?_)
 refine wpAny_Slice (thn (hl pins s1 σ H1 _ I1 q1) λ vl s2 ⟨l,H2,I2,pl,q2⟩=>thn (hu pins s2 σ H2 _ I2 q2) λ vu s3 ⟨u,H3,I3,pu,q3⟩=>?_)
 rw [evalPart_none]
 refine wpAny_pure ?_
 have I4:Inv X pins σ H3 { s3 with heap:=s3.heap.push { cls:=.type "slice",data:=.fields #[vl,vu,.none] } }:=I3.kept (t':=s3.toks) λ b ob q=>Heap.get?_push_of_some _ q
 obtain ⟨T,id,hT,ht,hg⟩:=hr pins { s3 with heap:=s3.heap.push { cls:=.type "slice",data:=.fields #[vl,vu,.none] } } σ H3 x v vl vu l u s3.heap.objs.size Q I4 r1 (Heap.IsSliceOf.new ..) pl pu q3
 show wpAny (model X.prog X.w) X.A (subscriptTail e (.Slice lo hi none p2) v (.ref s3.heap.objs.size)) (EP X pins σ Q) X.xe { s3 with heap:=s3.heap.push { cls:=.type "slice",data:=.fields #[vl,vu,.none] } }
 exact tail_any (ops:=[.ref s3.heap.objs.size,v]) ht hT hg (by with_unfolding_all rfl)
def cutV (xs:List V) (lo hi:Option Int):List V:=(xs.drop (HT.sIx xs.length 0 lo)).take (HT.sIx xs.length xs.length hi-HT.sIx xs.length 0 lo)
theorem cutV_length (xs:List V) (lo hi:Option Int):(cutV xs lo hi).length<=xs.length:=by
 unfold cutV
 rw [List.length_take,List.length_drop]
 omega
def rCatT (K:PySem.W.Frag):R2:=λ x y H Q=>∃ a b xs ys,x=.ref a/\y=.ref b/\SqT K H a xs/\SqT K H b ys/\xs ≠ []/\xs.length+ys.length<=sizeLine/\
 (ys=[]->Q (.ref a) H)/\(ys ≠ []->∀ p,H p=none->Q (.ref p) (upd H p (.tup (xs++ys))))
theorem Vals.nil_iff {xs:List V} {us:List Value} (r:Vals xs us):us=[] ↔ xs=[]:=by
 cases r with
 | nil=>simp
 | cons _ _=>simp
theorem op_catT:OpR X (binaryOp .Add) (rCatT X.K):=by
 intro pins s σ H x y v u Q I rx ry h
 obtain ⟨a,b,xs,ys,rfl,rfl,ha,hb,hx,hz,q1,q2⟩:=h
 cases rx
 cases ry
 obtain ⟨its,r1,p1,_⟩:=I.tuple ha
 obtain ⟨its2,r2,p2,_⟩:=I.tuple hb
 refine HT.cat_tup p1 p2 (λ z=>hx (r1.nil_iff.mp z)) (λ z=>⟨.ref a,H,I,rfl,q1 (r2.nil_iff.mp z)⟩) (λ z=>?_) (by rw [← r1.length,← r2.length]; exact hz)
 refine ⟨.ref s.heap.objs.size,_,I.laid (t':=s.toks) (o:=.tup (xs++ys)) (λ b ob q=>Heap.get?_push_of_some _ q) (Nat.le_refl _) ?_,rfl,q2 (λ w=>z (r2.nil_iff.mpr w)) _ (I.hok.fresh (Nat.le_refl _))⟩
 exact ⟨by rw [List.length_append]; exact hz,_,r1.append r2,IsTup.new _ _⟩
end
end L2
namespace L2
open PySem PySem.Spec PyProof.Rows
def ixN (n:Nat) (i:Int):Option Nat:=if 0<=i then (if i<n then some i.toNat else none) else if -(n:Int)<=i then some (i+n).toNat else none
def atI {α:Type} (xs:List α) (i:Int):Option α:=(ixN xs.length i).bind λ j=>xs[j]?
theorem ixN_seq {n:Nat} {i:Int} {j:Nat} (h:ixN n i=some j):seqIndex? i n=some j/\j<n/\-(n:Int)<=i/\i<n:=by
 unfold ixN at h
 by_cases h0:0<=i
 ·rw [if_pos h0] at h
  by_cases h1:i<n
  ·rw [if_pos h1] at h
   have e:i.toNat=j:=Option.some.inj h
   exact ⟨by rw [seqIndex_of h0 h1,e],by omega,by omega,h1⟩
  ·rw [if_neg h1] at h; cases h
 ·rw [if_neg h0] at h
  by_cases h1:-(n:Int)<=i
  ·rw [if_pos h1] at h
   have e:(i+n).toNat=j:=Option.some.inj h
   exact ⟨by rw [seqIndex_neg (by omega) h1,e],by omega,h1,by omega⟩
  ·rw [if_neg h1] at h; cases h
theorem atI_get {α:Type} {xs:List α} {i:Int} {v:α} (h:atI xs i=some v):∃ j,seqIndex? i xs.length=some j/\xs[j]?=some v/\j<xs.length/\-(xs.length:Int)<=i/\i<xs.length:=by
 unfold atI at h
 cases e:ixN xs.length i with
 | none=>rw [e] at h; cases h
 | some j =>
   rw [e] at h
   obtain ⟨h1,h2,h3,h4⟩:=ixN_seq e
   exact ⟨j,h1,h,h2,h3,h4⟩
theorem atI_nat {α:Type} {xs:List α} {j:Nat} {v:α} (h:xs[j]?=some v):atI xs (j:Int)=some v:=by
 have hj:j<xs.length:=(List.getElem?_eq_some_iff.mp h).1
 have e:ixN xs.length (j:Int)=some j:=by
  unfold ixN
  rw [if_pos (by omega),if_pos (by omega)]; simp
 unfold atI; rw [e]; exact h
def PlainIx (b:Expr):Prop:=∀ o i,subscripted b false o i=operate [o,i] (getItem o i)
def IxR (X:Cx) (r:R2):Prop :=
 ∀ (value slice:Expr) (pins:List (Addr × Obj)) (s:Shared) (σ:St) (H:Hp) (x y:V) (v u:Value) (Q:VK),Inv X pins σ H s->RelV x v->RelV y u->r x y H Q->
   subscripted slice false v u=operate [v,u] (getItem v u)->wpAny (model X.prog X.w) X.A (subscriptTail value slice v u) (EP X pins σ Q) X.xe s
def MtR (X:Cx) (id:String) (r:V->List V->Hp->VK->Prop):Prop :=
 ∀ (pins:List (Addr × Obj)) (s:Shared) (σ:St) (H:Hp) (x:V) (xs:List V) (v:Value) (us:List Value) (Q:VK),Inv X pins σ H s->RelV x v->Vals xs us->r x xs H Q->
   wpAny (model X.prog X.w) X.A (call (.builtin id) (v::us)) (EP X pins σ Q) X.xe s
section
variable {X:Cx} {a b:Expr} {ta tb:TE} {pos:Pos}
theorem IxR.or {r r':R2} (h:IxR X r) (h':IxR X r'):IxR X (λ x y H Q=>r x y H Q\/r' x y H Q):=by
 intro value slice pins s σ H x y v u Q I rx ry q hs
 rcases q with q | q
 ·exact h value slice pins s σ H x y v u Q I rx ry q hs
 ·exact h' value slice pins s σ H x y v u Q I rx ry q hs
theorem MtR.or {id:String} {r r':V->List V->Hp->VK->Prop} (h:MtR X id r) (h':MtR X id r'):MtR X id (λ x xs H Q=>r x xs H Q\/r' x xs H Q):=by
 intro pins s σ H x xs v us Q I rx rs q
 rcases q with q | q
 ·exact h pins s σ H x xs v us Q I rx rs q
 ·exact h' pins s σ H x xs v us Q I rx rs q
theorem pe_ix {r:R2} (hr:IxR X r) (ha:PE X a ta) (hb:PE X b tb) (hs:PlainIx b):PE X (.Subscript a b pos) (tOp r ta tb):=by
 intro pins s σ H Q I h
 exact Subscript_ (binT ha hb I h λ v u s2 x y H2 I2 rx ry q=>hr a b pins s2 σ H2 x y v u Q I2 rx ry q (hs _ _))
def rIxL (K:PySem.W.Frag):R2:=λ x y H Q=>∃ p xs i v,x=.ref p/\y=.int i/\SqL K H p xs/\atI xs i=some v/\Q v H
def rIxT (K:PySem.W.Frag):R2:=λ x y H Q=>∃ p xs i v,x=.ref p/\y=.int i/\SqT K H p xs/\atI xs i=some v/\Q v H
def rIxS:R2:=λ x y H Q=>∃ z i c,x=.str z/\y=.int i/\z.length<=sizeLine/\atI z.cps.toList i=some c/\Q (.str ⟨#[c]⟩) H
theorem ix_list:IxR X (rIxL X.K):=by
 intro value slice pins s σ H x y v u Q I rx ry h hs
 obtain ⟨p,xs,i,z,rfl,rfl,hq,he,q⟩:=h
 cases rx
 obtain ⟨t,rfl⟩:=ry
 obtain ⟨its,r,pl,hz⟩:=I.list hq
 obtain ⟨j,h1,h2,h3,h4,h5⟩:=atI_get he
 obtain ⟨w,ew,rw'⟩:=r.get h2
 have hl:=r.length
 have hn:=line63
 have fin:EP X pins σ Q w s:=⟨z,H,I,rw',q⟩
 by_cases h0:0<=i
 ·have hj:i.toNat=j:=by
   rw [seqIndex_of h0 h5] at h1
   exact Option.some.inj h1
  exact item_listR pl.isList h0 (by omega) (by rw [hj]; simpa using ew) fin hs
 ·have hj:(i+(its.toArray.size:Int)).toNat=j:=by
   rw [seqIndex_neg (by omega) h4] at h1
   rw [List.size_toArray,← hl]
   exact Option.some.inj h1
  exact subscriptTail_builtinR (x:=w) pl.isList.typeIs slot_list_getitem.lookup
   (wpAny_getItem_list_neg (Q:=λ r s'=>r=w/\EP X pins σ Q r s') pl.isList (by omega) (by rw [List.size_toArray]<;>omega) (by omega) (by rw [hj]; simpa using ew) ⟨rfl,fin⟩) hs
theorem ix_tup:IxR X (rIxT X.K):=by
 intro value slice pins s σ H x y v u Q I rx ry h hs
 obtain ⟨p,xs,i,z,rfl,rfl,hq,he,q⟩:=h
 cases rx
 obtain ⟨t,rfl⟩:=ry
 obtain ⟨its,r,pl,hz⟩:=I.tuple hq
 obtain ⟨j,h1,h2,h3,h4,h5⟩:=atI_get he
 obtain ⟨w,ew,rw'⟩:=r.get h2
 have hl:=r.length
 have hn:=line63
 have fin:EP X pins σ Q w s:=⟨z,H,I,rw',q⟩
 exact subscriptTail_builtinR (x:=w) pl.typeIs slot_tuple_getitem.lookup
  (getItem_tuple (j:=j) (Q:=λ r s'=>r=w/\EP X pins σ Q r s') pl (by omega) (by omega) (by rw [List.size_toArray,← hl]; exact h1) (by simpa using ew) ⟨rfl,fin⟩) hs
theorem ix_str:IxR X rIxS:=by
 intro value slice pins s σ H x y v u Q I rx ry h hs
 obtain ⟨z,i,c,rfl,rfl,hz,he,q⟩:=h
 obtain ⟨t,rfl⟩:=rx
 obtain ⟨t',rfl⟩:=ry
 obtain ⟨j,h1,h2,h3,h4,h5⟩:=atI_get he
 have hl:z.cps.toList.length=z.length:=by simp [Str.length]
 rw [hl] at h1 h4 h5
 have hn:=line63
 exact tail_any (typeIs_str s z t) slot_str_getitem.lookup (getItem_str (c:=c) (by
  have e1:decide (i< -(2^63:Int))=false:=decide_eq_false (by omega)
  have e2:decide (i>=2^63)=false:=decide_eq_false (by omega)
  rw [e1,e2,Bool.or_false]) (by rw [h1]; simpa using h2) ⟨.str ⟨#[c]⟩,H,I.tok _,⟨_,rfl⟩,q⟩) hs
def rIx (K:PySem.W.Frag):R2:=λ x y H Q=>rIxL K x y H Q\/rIxT K x y H Q\/rIxS x y H Q
theorem ix_seq:IxR X (rIx X.K):=ix_list.or (ix_tup.or ix_str)
theorem mapSeq_set (its:List Value) (n j:Nat) (u:Value):Obj.mapSeq (·.setIfInBounds j u) { cls:=.type "list",data:=.seq its.toArray n }={ cls:=.type "list",data:=.seq (its.set j u).toArray n }:=by
 simp [Obj.mapSeq]
theorem Inv.lst {pins:List (Addr × Obj)} {σ:St} {H:Hp} {s:Shared} {p:Addr} {xs:List V} (I:Inv X pins σ H s) (h:H p=some (.lst xs)):
 ∃ (its:List Value) (n:Nat),Vals xs its/\s.heap.get? p=some { cls:=.type "list",data:=.seq its.toArray n }/\xs.length<=sizeLine:=by
 obtain ⟨z,its,n,r,e⟩:=I.hok p _ h
 exact ⟨its,n,r,e,z⟩
theorem Inv.lstUpd {pins:List (Addr × Obj)} {σ:St} {H:Hp} {s:Shared} {p:Addr} {xs ys:List V} {its its':List Value} {n n':Nat} {f:Obj->Obj} (I:Inv X pins σ H s) (h:H p=some (.lst xs))
 (ho:s.heap.get? p=some { cls:=.type "list",data:=.seq its.toArray n }) (hf:f { cls:=.type "list",data:=.seq its.toArray n }={ cls:=.type "list",data:=.seq its'.toArray n' }) (r:Vals ys its') (hz:ys.length<=sizeLine) (t:Nat):
 Inv X pins σ (upd H p (.lst ys)) { s with heap:=s.heap.update p f,toks:=t }:=by
 have e:(s.heap.update p f).get? p=some { cls:=.type "list",data:=.seq its'.toArray n' }:=by
  rw [Heap.get?_update_self f ho (by rw [hf]<;>rfl),hf]
 refine I.write (x:=p) (e:=p) (by rw [h]; trivial) (.inl rfl) (λ b u hb q=>(Heap.get?_update_other _ _ (Ne.symm hb)).trans q) ⟨_,e⟩ ?_
 exact ⟨hz,its',n',r,e⟩
def rSetL:V->V->V->Hp->(Hp->Prop)->Prop:=λ o i v H Q=>∃ p xs k j,o=.ref p/\i=.int k/\H p=some (.lst xs)/\ixN xs.length k=some j/\Q (upd H p (.lst (xs.set j v)))
theorem set_list:PSet X rSetL:=by
 intro pins s σ H o i v ov iv u Q I ro ri rv h
 obtain ⟨p,xs,k,j,rfl,rfl,hp,hj,q⟩:=h
 cases ro
 obtain ⟨t,rfl⟩:=ri
 obtain ⟨its,n,r,ho,hz⟩:=I.lst hp
 obtain ⟨h1,h2,h3,h4⟩:=ixN_seq hj
 have hl:=r.length
 have hn:=line63
 have I':Inv X pins σ (upd H p (.lst (xs.set j v))) { s with heap:=s.heap.update p (Obj.mapSeq (·.setIfInBounds j u)) } :=
  I.lstUpd hp ho (mapSeq_set its n j u) (r.set rv j) (by rw [List.length_set]; exact hz) s.toks
 by_cases h0:0<=k
 ·have hk:k.toNat=j:=by
   rw [seqIndex_of h0 h4] at h1
   exact Option.some.inj h1
  exact PySem.W.ki_setAt ho h0 (by omega) (by rw [List.size_toArray,← hl]; exact h4) (by rw [hk]; exact ⟨_,I',q⟩)
 ·have hk:(k+(its.toArray.size:Int)).toNat=j:=by
   rw [seqIndex_neg (by omega) h3] at h1
   rw [List.size_toArray,← hl]
   exact Option.some.inj h1
  exact PySem.W.ki_setBack ho (by omega) (by rw [List.size_toArray,← hl]; exact h3) (by omega) (by rw [hk]; exact ⟨_,I',q⟩)
theorem slice_bounds (lo hi:Option Int) (n:Nat):(sliceBounds lo hi none n).1=((HT.sIx n 0 lo:Nat):Int)/\(sliceBounds lo hi none n).2.1=((HT.sIx n n hi:Nat):Int)/\(sliceBounds lo hi none n).2.2=1:=by
 refine ⟨?_,?_,rfl⟩
 ·cases lo with
  | none=>simp [sliceBounds,HT.sIx]
  | some i =>
    simp only [sliceBounds,HT.sIx,Option.getD_none,show (1:Int)>0 by decide,if_true]
    by_cases h:i<0
    ·simp only [h,if_true]<;>omega
    ·simp only [h,if_false]<;>omega
 ·cases hi with
  | none=>simp [sliceBounds,HT.sIx]
  | some i =>
    simp only [sliceBounds,HT.sIx,Option.getD_none,show (1:Int)>0 by decide,if_true]
    by_cases h:i<0
    ·simp only [h,if_true]<;>omega
    ·simp only [h,if_false]<;>omega
theorem slicePick_cut (its:List Value) (lo hi:Option Int):slicePick its.toArray lo hi none=((its.drop (HT.sIx its.length 0 lo)).take (HT.sIx its.length its.length hi-HT.sIx its.length 0 lo)).toArray:=by
 obtain ⟨h1,h2,h3⟩:=slice_bounds lo hi its.toArray.size
 unfold slicePick
 rw [h1,h2,h3]
 simp only [sliceRange_one,pick_run,List.size_toArray]<;>rfl
def rSlL (K:PySem.W.Frag):V->Option Int->Option Int->Hp->VK->Prop:=λ x lo hi H Q=>∃ a xs,x=.ref a/\SqL K H a xs/\∀ p,H p=none->Q (.ref p) (upd H p (.lst (cutV xs lo hi)))
theorem sl_list:SlR X (rSlL X.K):=by
 intro pins s σ H x v vl vu lo hi sl Q I rx hs pl pu h
 obtain ⟨a,xs,rfl,hx,q⟩:=h
 cases rx
 obtain ⟨its,r,ht,hz⟩:=I.list hx
 have hlen:=r.length
 refine ⟨"list",_,slot_list_getitem.lookup,ht.isList.typeIs,?_⟩
 refine wpAny_getItem_list_slice ht.isList hs pl pu .none (by simp) ?_ (by rw [List.size_toArray]<;>omega)
 rw [slicePick_cut,← hlen]
 refine ⟨.ref s.heap.objs.size,_,I.laid (t':=s.toks) (o:=.lst (cutV xs lo hi)) (λ b ob q=>Heap.get?_push_of_some _ q) (Nat.le_refl _) ?_,rfl,q _ (I.hok.fresh (Nat.le_refl _))⟩
 exact ⟨Nat.le_trans (cutV_length xs lo hi) hz,_,0,(r.drop (HT.sIx xs.length 0 lo)).take (HT.sIx xs.length xs.length hi-HT.sIx xs.length 0 lo),Heap.get?_push_size _ rfl⟩
def flatV:V->Bool
 | .non=>true
 | .bl _=>true
 | .int _=>true
 | .str _=>true
 | _=>false
def eqV:V->V->Bool
 | .non,.non=>true
 | .bl a,.bl b=>a == b
 | .bl a,.int b=>(if a then 1 else 0) == b
 | .int a,.bl b=>a == (if b then 1 else 0)
 | .int a,.int b=>a == b
 | .str a,.str b=>a == b
 | _,_=>false
theorem eqAt_V {A:Around} {s:Shared} {y x:V} {u v:Value} (ry:RelV y u) (rx:RelV x v) (fy:flatV y=true) (fx:flatV x=true):SeqAt.EqAt A s u v (eqV y x):=by
 cases y with
 | non =>
   cases ry
   cases x with
   | non=>cases rx; exact SeqAt.EqAt.same _
   | bl b=>cases rx; exact SeqAt.EqAt.none_bool b
   | int b=>obtain ⟨t,rfl⟩:=rx; exact SeqAt.EqAt.none_int b t
   | str b=>obtain ⟨t,rfl⟩:=rx; exact SeqAt.EqAt.none_str b t
   | _=>exact absurd (show false=true from fx) Bool.false_ne_true
 | bl a =>
   cases ry
   cases x with
   | non=>cases rx; exact SeqAt.EqAt.bool_none a
   | bl b=>cases rx; exact SeqAt.EqAt.bool_bool a b
   | int b=>obtain ⟨t,rfl⟩:=rx; exact SeqAt.EqAt.bool_int a b t
   | str b=>obtain ⟨t,rfl⟩:=rx; exact SeqAt.EqAt.bool_str a b t
   | _=>exact absurd (show false=true from fx) Bool.false_ne_true
 | int a =>
   obtain ⟨t',rfl⟩:=ry
   cases x with
   | non=>cases rx; exact SeqAt.EqAt.int_none a t'
   | bl b=>cases rx; exact SeqAt.EqAt.int_bool a t' b
   | int b=>obtain ⟨t,rfl⟩:=rx; exact SeqAt.EqAt.int_int a t' b t
   | str b=>obtain ⟨t,rfl⟩:=rx; exact SeqAt.EqAt.int_str a t' b t
   | _=>exact absurd (show false=true from fx) Bool.false_ne_true
 | str a =>
   obtain ⟨t',rfl⟩:=ry
   cases x with
   | non=>cases rx; exact SeqAt.EqAt.str_none a t'
   | bl b=>cases rx; exact SeqAt.EqAt.str_bool a t' b
   | int b=>obtain ⟨t,rfl⟩:=rx; exact SeqAt.EqAt.str_int a t' b t
   | str b=>obtain ⟨t,rfl⟩:=rx; exact SeqAt.EqAt.str_str a t' b t
   | _=>exact absurd (show false=true from fx) Bool.false_ne_true
 | _=>exact absurd (show false=true from fy) Bool.false_ne_true
def eqU (x:V) (u:Value):Bool:=match u with
 | .none=>eqV .non x
 | .bool b=>eqV (.bl b) x
 | .int i _=>eqV (.int i) x
 | .str z _=>eqV (.str z) x
 | _=>false
theorem eqU_of {x y:V} {u:Value} (r:RelV y u) (f:flatV y=true):eqU x u=eqV y x:=by
 cases y with
 | non=>cases r; rfl
 | bl b=>cases r; rfl
 | int i=>obtain ⟨t,rfl⟩:=r; rfl
 | str z=>obtain ⟨t,rfl⟩:=r; rfl
 | _=>exact absurd (show false=true from f) Bool.false_ne_true
theorem any_eqU {x:V}:∀ {xs:List V} {us:List Value},Vals xs us->xs.all flatV=true->us.any (eqU x)=xs.any λ y=>eqV y x
 | _,_,.nil,_=>rfl
 | y::xs,u::us,.cons r t,f=>by
   rw [List.all_cons,Bool.and_eq_true] at f
   rw [List.any_cons,List.any_cons,eqU_of r f.1,any_eqU t f.2]
theorem mem_eqAt {A:Around} {s:Shared} {x:V} {v:Value} (rx:RelV x v) (fx:flatV x=true):∀ {xs:List V} {us:List Value},Vals xs us->xs.all flatV=true->∀ u ∈ us,SeqAt.EqAt A s u v (eqU x u)
 | _,_,.nil,_=>λ u hu=>by cases hu
 | y::xs,u::us,.cons r t,f=>λ u' hu=>by
   rw [List.all_cons,Bool.and_eq_true] at f
   rcases List.mem_cons.mp hu with rfl | hu
   ·rw [eqU_of r f.1]; exact eqAt_V r rx f.1 fx
   ·exact mem_eqAt rx fx t f.2 u' hu
def inV (x:V) (xs:List V):Bool:=xs.any λ y=>eqV y x
def rIn (K:PySem.W.Frag) (neg:Bool):R2:=λ x y H Q=>∃ p xs,y=.ref p/\(SqL K H p xs\/SqT K H p xs)/\flatV x=true/\xs.all flatV=true/\Q (.bl (if neg then !inV x xs else inV x xs)) H
theorem op_in_seq:OpR X (compareOp .In) (rIn X.K false):=by
 intro pins s σ H x y v u Q I rx ry h
 obtain ⟨p,xs,rfl,hq,fx,fs,q⟩:=h
 cases ry
 rcases hq with hq | hq
 ·obtain ⟨its,r,pl,hz⟩:=I.list hq
  refine SeqAt.in_listAt (eqU x) pl.isList (λ w hw=>mem_eqAt rx fx r fs w (by simpa using hw)) ⟨.bl _,H,I,rfl,?_⟩
  rw [show its.toArray.any (eqU x)=its.any (eqU x) by simp,any_eqU r fs]
  exact q
 ·obtain ⟨its,r,pl,hz⟩:=I.tuple hq
  refine SeqAt.in_tupleAt (eqU x) pl (λ w hw=>mem_eqAt rx fx r fs w (by simpa using hw)) ⟨.bl _,H,I,rfl,?_⟩
  rw [show its.toArray.any (eqU x)=its.any (eqU x) by simp,any_eqU r fs]
  exact q
theorem op_notIn_seq:OpR X (compareOp .NotIn) (rIn X.K true):=by
 intro pins s σ H x y v u Q I rx ry h
 obtain ⟨p,xs,rfl,hq,fx,fs,q⟩:=h
 cases ry
 rcases hq with hq | hq
 ·obtain ⟨its,r,pl,hz⟩:=I.list hq
  refine SeqAt.notIn_listAt (eqU x) pl.isList (λ w hw=>mem_eqAt rx fx r fs w (by simpa using hw)) ⟨.bl _,H,I,rfl,?_⟩
  rw [show its.toArray.any (eqU x)=its.any (eqU x) by simp,any_eqU r fs]
  exact q
 ·obtain ⟨its,r,pl,hz⟩:=I.tuple hq
  refine SeqAt.notIn_tupleAt (eqU x) pl (λ w hw=>mem_eqAt rx fx r fs w (by simpa using hw)) ⟨.bl _,H,I,rfl,?_⟩
  rw [show its.toArray.any (eqU x)=its.any (eqU x) by simp,any_eqU r fs]
  exact q
theorem op_notIn_str:OpR X (compareOp .NotIn) (λ x y H Q=>∃ i j,x=.str i/\y=.str j/\Q (.bl (!(!(Builtin.Str.occurrences j i 0 j.length 1).isEmpty))) H):=by
 intro pins s σ H x y v u Q I rx ry h
 obtain ⟨i,j,rfl,rfl,q⟩:=h
 obtain ⟨t,rfl⟩:=rx
 obtain ⟨t',rfl⟩:=ry
 exact notIn_str ⟨.bl _,H,I,rfl,q⟩
theorem CallR.or {f:Value} {r r':List V->Hp->VK->Prop} (h:CallR X f r) (h':CallR X f r'):CallR X f (λ xs H Q=>r xs H Q\/r' xs H Q):=by
 intro pins s σ H xs us Q I rs q
 rcases q with q | q
 ·exact h pins s σ H xs us Q I rs q
 ·exact h' pins s σ H xs us Q I rs q
theorem call_list_of:CallR X (.type "list") (λ xs H Q=>∃ p ys,xs=[.ref p]/\(SqL X.K H p ys\/SqT X.K H p ys)/\∀ l,H l=none->Q (.ref l) (upd H l (.lst ys))):=by
 intro pins s σ H xs us Q I r h
 obtain ⟨p,ys,rfl,hq,q⟩:=h
 obtain ⟨u,rfl,rx⟩:=vals1 r
 cases rx
 have fin:∀ (its:List Value),Vals ys its->ys.length<=sizeLine->∀ (h':Heap) (c':Nat),(∀ b o',s.heap.get? b=some o'->h'.get? b=some o')->
  h'.get? s.heap.objs.size=some { cls:=.type "list",dict:=none,data:=.seq its.toArray c',slots:=#[] }->EP X pins σ Q (.ref s.heap.objs.size) { s with heap:=h' }:=λ its r' hz h' c' kp e =>
  ⟨.ref s.heap.objs.size,_,I.laid (t':=s.toks) kp (Nat.le_refl _) (show ObjOk X.prog X.w _ h' _ (.lst ys) from ⟨hz,its,c',r',e⟩),rfl,q _ (I.hok.fresh (Nat.le_refl _))⟩
 rcases hq with hq | hq
 ·obtain ⟨its,r',pl,hz⟩:=I.list hq
  have hlen:=r'.length
  obtain ⟨o,ho,hc,n,hd⟩:=pl.isList
  exact call_list_seq p (.inl rfl) ho hc hd (λ h' c' kp e=>fin its r' hz h' c' kp e) (by simp only [List.size_toArray]<;>omega)
 ·obtain ⟨its,r',pl,hz⟩:=I.tuple hq
  have hlen:=r'.length
  obtain ⟨o,ho,hc,n,hd⟩:=pl
  exact call_list_seq p (.inr rfl) ho hc hd (λ h' c' kp e=>fin its r' hz h' c' kp e) (by simp only [List.size_toArray]<;>omega)
def tyV (K:PySem.W.Frag) (T:String) (x:V) (H:Hp):Prop:=match x with
 | .str _=>T = "str"
 | .int _=>T = "int"
 | .ref p=>(T = "list" /\ ∃ xs,SqL K H p xs)\/(T = "tuple" /\ ∃ o,K.lookup p=some o/\o.cls=.type "tuple" /\ o.dict=none)\/
  (T = "dict" /\ ((∃ kvs,H p=some (.dK kvs))\/∃ kvs,H p=some (.dT kvs)))\/(T = "set" /\ ∃ S n,H p=some (.set S n))
 | _=>False
theorem tyV_is {pins:List (Addr × Obj)} {σ:St} {H:Hp} {s:Shared} {T:String} {x:V} {v:Value} (I:Inv X pins σ H s) (r:RelV x v) (ty:tyV X.K T x H):
 s.TypeIs v T/\∀ a,v=.ref a->∃ ob,s.heap.get? a=some ob/\ob.dict=none:=by
 cases x with
 | str z =>
   obtain ⟨t,rfl⟩:=r
   cases (show T = "str" from ty)
   exact ⟨typeIs_str s z t,λ _ e=>nomatch e⟩
 | int i =>
   obtain ⟨t,rfl⟩:=r
   cases (show T = "int" from ty)
   exact ⟨typeIs_int s i t,λ _ e=>nomatch e⟩
 | ref p =>
   cases r
   rcases ty with ⟨rfl,xs,hq⟩ | ⟨rfl,o,hk,hc,hd⟩ | ⟨rfl,hk⟩ | ⟨rfl,S,n,hk⟩
   ·obtain ⟨its,_,pl,_⟩:=I.list hq
    refine ⟨pl.isList.typeIs,λ a e=>?_⟩
    cases e
    obtain ⟨o,n,e,c,hd,_⟩:=pl
    exact ⟨o,e,hd⟩
   ·refine ⟨⟨o,I.kIn p o hk,hc⟩,λ a e=>?_⟩
    cases e
    exact ⟨o,I.kIn _ o hk,hd⟩
   ·have z:∃ o,s.heap.get? p=some o/\o.ExactDict:=by
     rcases hk with ⟨kvs,hk⟩ | ⟨kvs,hk⟩
     ·obtain ⟨_,_,_,_,o,_,_,e,ex,_⟩:=I.hok p _ hk
      exact ⟨o,e,ex⟩
     ·obtain ⟨_,_,_,_,o,_,_,e,ex,_⟩:=I.hok p _ hk
      exact ⟨o,e,ex⟩
    obtain ⟨o,e,ex⟩:=z
    refine ⟨⟨o,e,ex.1⟩,λ a e2=>?_⟩
    cases e2
    exact ⟨o,e,ex.2.1⟩
   ·obtain ⟨o,_,_,_,e,ex,_⟩:=I.hok p _ hk
    refine ⟨⟨o,e,ex.1⟩,λ a e2=>?_⟩
    cases e2
    exact ⟨o,e,ex.2.1⟩
 | _=>exact False.elim ty
def tBM (K:PySem.W.Frag) (T:String) (r:V->List V->Hp->VK->Prop) (to:TE) (t:TA):TE:=λ σ H Q=>to σ H λ x H1=>tyV K T x H1/\t σ H1 λ xs H2=>r x xs H2 Q
variable {o e:Expr} {es:List Expr} {to:TE} {t:TA} {name:Str} {apos cpos:Pos} {T id:String} {r:V->List V->Hp->VK->Prop}
theorem pe_bm (pa:PlainAttrs T) (slot:Slot T name id) (hty:typeOf (.builtin id)=pure (.type "method_descriptor")) (hm:MtR X id r) (ho:PE X o to) (ha:PA X (e::es) t)
 (hbase:attributeBase o name X.env (eval o X.env)=eval o X.env:=by rfl)
 (hfew:((backTo cpos (starEach (e::es) X.env)).all (λ x=>!x.1) && (backToKw cpos (keywordEach [] X.env)).all (λ x=>x.1.isSome)
  && decide ((e::es).length+([]:List Keyword).length+(if ([]:List Keyword).isEmpty then 0 else 1)<30))=true:=by rfl)
 (hline:(apos.endLine == cpos.line)=true:=by rfl) (hs:starEach (e::es) X.env=(false,eval e X.env)::starEach es X.env:=by rfl) (hplain:(backTo cpos (starEach es X.env)).any (·.1)=false:=by rfl):
 PE X (.Call (.Attribute o name apos) (e::es) [] cpos) (tBM X.K T r to t):=by
 intro pins s σ H Q I h
 refine wpAny_Call_method_late hbase hfew hline rfl (thn (ho pins s σ H _ I h) λ v s1 ⟨x,H1,I1,r1,ty,q1⟩=>?_)
 obtain ⟨h1,h2⟩:=tyV_is I1 r1 ty
 refine ⟨T,id,pa,slot,hty,h1,h2,?_⟩
 have hA:=ha cpos pins s1 σ H1 _ I1 q1
 rw [hs] at hA ⊢
 refine Calls.callWith_builtin (by show (false || (backTo cpos (starEach es X.env)).any (·.1))=false; rw [hplain]<;>rfl) (Calls.evalArgs_plain ?_)
 exact thn hA λ us s2 ⟨vs,H2,I2,r2,q2⟩=>hm pins s2 σ H2 x vs v us Q I2 r1 r2 q2
end
end L2
namespace L2
open PySem PySem.Spec PyProof.Rows
def MtM (X:Cx) (id:String) (r:V->List V->Hp->VK->Prop):Prop :=
 ∀ (pins:List (Addr × Obj)) (s:Shared) (σ:St) (H:Hp) (x:V) (xs:List V) (v:Value) (us:List Value) (Q:VK),Inv X pins σ H s->RelV x v->Vals xs us->r x xs H Q->
   wpAny (model X.prog X.w) X.A (call (.builtin id) (v::us)) (EP X pins σ Q) X.xe s
theorem Vals.one:∀ {x:V} {us:List Value},Vals [x] us->∃ u,us=[u]/\RelV x u
 | _,_,.cons r .nil=>⟨_,rfl,r⟩
theorem Vals.two:∀ {x y:V} {us:List Value},Vals [x,y] us->∃ u v,us=[u,v]/\RelV x u/\RelV y v
 | _,_,_,.cons r (.cons q .nil)=>⟨_,_,rfl,r,q⟩
theorem Vals.zero:∀ {us:List Value},Vals [] us->us=[]
 | _,.nil=>rfl
theorem Vals.dropLast {xs:List V} {us:List Value} (h:Vals xs us):Vals xs.dropLast us.dropLast:=by
 induction h with
 | nil=>exact .nil
 | cons r t ih =>
   cases t with
   | nil=>exact .nil
   | cons q t'=>exact .cons r ih
theorem Vals.reverse {xs:List V} {us:List Value} (h:Vals xs us):Vals xs.reverse us.reverse:=by
 induction h with
 | nil=>exact .nil
 | cons r t ih=>rw [List.reverse_cons,List.reverse_cons]; exact Vals.append ih (.cons r .nil)
theorem Vals.rep {xs:List V} {us:List Value} (h:Vals xs us):∀ k:Nat,Vals (List.replicate k xs).flatten (List.replicate k us).flatten
 | 0=>.nil
 | k+1=>by
   rw [List.replicate_succ,List.replicate_succ,List.flatten_cons,List.flatten_cons]
   exact Vals.append h (Vals.rep h k)
theorem foldl_rep (its:List Value):∀ (k:Nat) (acc:List Value),
 List.foldl (λ x1 x2=>x1++x2) acc.toArray (List.replicate k its.toArray)=(acc++(List.replicate k its).flatten).toArray
 | 0,acc=>by simp
 | k+1,acc=>by
   have e:acc.toArray++its.toArray=(acc++its).toArray:=by simp
   have e2:(acc++its)++(List.replicate k its).flatten=acc++(List.replicate (k+1) its).flatten:=by
    rw [List.replicate_succ,List.flatten_cons,List.append_assoc]
   rw [← e2,← foldl_rep its k (acc++its),← e,List.replicate_succ,List.foldl_cons]
section
variable {X:Cx} {pins:List (Addr × Obj)} {σ:St} {H:Hp} {s:Shared} {l b:Addr} {xs ys zs:List V}
theorem Inv.lset {its its':List Value} {n:Nat} {f:Array Value->Array Value} {t':Nat} (I:Inv X pins σ H s) (hH:H l=some (.lst xs))
 (e:s.heap.get? l=some { cls:=.type "list",data:=.seq its.toArray n }) (hf:f its.toArray=its'.toArray) (hv:Vals ys its') (hz:ys.length<=sizeLine):
 Inv X pins σ (upd H l (.lst ys)) { s with heap:=s.heap.update l (Obj.mapSeq f),toks:=t' }:=by
 have q:=PySem.IsL.update e f
 rw [hf] at q
 refine I.write (x:=l) (e:=l) (by rw [hH]; exact trivial) (.inl rfl) (λ b' u hb hu=>(Heap.get?_update_other s.heap (Obj.mapSeq f) (Ne.symm hb)).trans hu) ⟨_,q⟩ ?_
 exact ⟨hz,its',_,hv,q⟩
theorem Inv.lnew {its:List Value} {t':Nat} (I:Inv X pins σ H s) (hv:Vals ys its) (hz:ys.length<=sizeLine):
 Inv X pins σ (upd H s.heap.objs.size (.lst ys)) { s with heap:=s.heap.push { cls:=.type "list",data:=.seq its.toArray },toks:=t' } :=
 I.laid (λ _ _ q=>Heap.get?_push_of_some _ q) (Nat.le_refl _) ⟨hz,its,0,hv,Heap.get?_push_size _ rfl⟩
theorem Inv.fresh (I:Inv X pins σ H s):H s.heap.objs.size=none:=I.hok.fresh (Nat.le_refl _)
theorem Inv.lstM (I:Inv X pins σ H s) (hH:H l=some (.lst xs)):xs.length<=sizeLine/\∃ (its:List Value) (n:Nat),Vals xs its/\xs.length=its.length/\s.heap.get? l=some { cls:=.type "list",data:=.seq its.toArray n }:=by
 obtain ⟨z,its,n,r,e⟩:=I.hok l _ hH
 exact ⟨z,its,n,r,r.length,e⟩
theorem notLongL {n:Nat} (h:n<=sizeLine):Builtin.List.listTooLong n=false:=by
 unfold Builtin.List.listTooLong
 exact decide_eq_false (by omega)
end
section
variable {X:Cx}
def rAppend:V->List V->Hp->VK->Prop:=λ x vs H Q=>∃ l xs y,x=.ref l/\vs=[y]/\H l=some (.lst xs)/\xs.length<sizeLine/\Q .non (upd H l (.lst (xs++[y])))
theorem mt_append:MtM X "list.append" rAppend:=by
 intro pins s σ H x vs v us Q I rx rv h
 obtain ⟨l,xs,y,rfl,rfl,hH,hz,q⟩:=h
 cases rx
 obtain ⟨u,rfl,ru⟩:=rv.one
 obtain ⟨z,its,n,r,hl,e⟩:=I.lstM hH
 refine call_meets F.slot_list_append ⟨_,e,rfl⟩ F.entry_list_append (F.args_list_append_2 _ _) (PySem.list_append l its.toArray n u (by rw [List.size_toArray]; omega)) ⟨e,?_⟩
 refine ⟨.non,_,I.lset (its':=its++[u]) hH e (by simp) (r.append (.cons ru .nil)) ?_,rfl,q⟩
 rw [List.length_append,List.length_singleton]
 omega
def rCat:R2:=λ x y H Q=>∃ l b xs zs,x=.ref l/\y=.ref b/\H l=some (.lst xs)/\H b=some (.lst zs)/\xs.length+zs.length<=sizeLine/\∀ p,H p=none->Q (.ref p) (upd H p (.lst (xs++zs)))
theorem op_cat:OpR X (binaryOp .Add) rCat:=by
 intro pins s σ H x y v u Q I rx ry h
 obtain ⟨l,b,xs,zs,rfl,rfl,hH,hB,hz,q⟩:=h
 cases rx
 cases ry
 obtain ⟨z,its,n,r,hl,e⟩:=I.lstM hH
 obtain ⟨z2,its2,n2,r2,hl2,e2⟩:=I.lstM hB
 refine PySem.P.add_list e e2 ?_ (by rw [List.size_toArray,List.size_toArray]; omega)
 have ea:its.toArray++its2.toArray=(its++its2).toArray:=by simp
 rw [ea]
 exact ⟨.ref _,_,I.lnew (t':=s.toks) (r.append r2) (by rw [List.length_append]; omega),rfl,q _ I.fresh⟩
def rRep:R2:=λ x y H Q=>∃ l k xs,x=.ref l/\y=.int k/\H l=some (.lst xs)/\-(2^63)<=k/\k<2^63/\xs.length*k.toNat<=sizeLine/\
 ∀ p,H p=none->Q (.ref p) (upd H p (.lst (List.replicate k.toNat xs).flatten))
theorem len_rep {α:Type} (xs:List α) (k:Nat):(List.replicate k xs).flatten.length=k*xs.length:=by
 induction k with
 | zero=>simp
 | succ k ih=>rw [List.replicate_succ,List.flatten_cons,List.length_append,ih,Nat.succ_mul,Nat.add_comm]
theorem op_rep:OpR X (binaryOp .Mult) rRep:=by
 intro pins s σ H x y v u Q I rx ry h
 obtain ⟨l,k,xs,rfl,rfl,hH,h1,h2,hz,q⟩:=h
 cases rx
 obtain ⟨t,rfl⟩:=ry
 obtain ⟨z,its,n,r,hl,e⟩:=I.lstM hH
 have hlen:its.toArray.size*k.toNat<=sizeLine:=by rw [List.size_toArray,← hl]; exact hz
 have hcap:¬ its.toArray.size*k.toNat>(2^63-1) / 8:=by
  have:(sizeLine:Nat)<=(2^63-1) / 8:=by decide
  omega
 have hfit:¬ (!Builtin.List.listFitsIndex k)=true:=by
  rw [fitsIndex_both h1 h2]
  exact Bool.false_ne_true
 have hlong:¬ Builtin.List.listTooLong (its.toArray.size*k.toNat)=true:=by
  rw [notLongL hlen]
  exact Bool.false_ne_true
 have hnew:List.foldl (λ x1 x2=>x1++x2) #[] (List.replicate (if its.toArray.isEmpty=true then 0 else k.toNat) its.toArray)=(List.replicate k.toNat its).flatten.toArray:=by
  have f0:∀ m:Nat,List.foldl (λ x1 x2=>x1++x2) #[] (List.replicate m its.toArray)=(List.replicate m its).flatten.toArray:=λ m=>by
   have:=foldl_rep its m []
   rw [List.nil_append] at this
   exact this
  rw [f0]
  cases its with
  | nil=>simp
  | cons a r'=>rw [if_neg (by simp)]
 refine wpAny_binaryOp_repeat_ref (T := "list") (U := "int") (by decide) ⟨_,e,rfl⟩ (λ s'=>typeIs_int s' k t) noFill_list_mul F.fills_int_mul F.slot_int_rmul repeat_list F.slot_int_index.lookup
  (call_meets F.slot_int_rmul (typeIs_int s k t) F.entry_int_rmul (F.args_int_rmul_2 _ _) (int___rmul___int_list k t l its.toArray n)
   ⟨e,rfl,⟨_,e,rfl⟩,call_meets F.slot_list_mul ⟨_,e,rfl⟩ F.entry_list_mul (F.args_list_mul_2 _ _) (AutoListH.list___mul___list_int_3 l its.toArray n k t hfit hcap hlong) ⟨e,?_⟩⟩)
 rw [hnew]
 exact ⟨.ref _,_,I.lnew (t':=s.toks) (r.rep k.toNat) (by rw [len_rep,Nat.mul_comm]; exact hz),rfl,q _ I.fresh⟩
end
section
variable {prog:Program} {w:World} {A:Around} {E:Value->Shared->Prop} {s:Shared}
end
section
variable {X:Cx}
end
end L2
namespace Att
open PySem PySem.W PySem.Calls PyProof.Rows
theorem ints_of_wellAll {P:Params} {h:Heap}:∀ (ns:List Int) (vs:List Value),WellAll P h vs (ns.map WData.int)->IntsAre vs ns:=by
 intro ns
 induction ns with
 | nil =>
   intro vs w
   rw [List.map_nil] at w
   cases w
   exact .nil
 | cons n ns ih =>
   intro vs w
   rw [List.map_cons] at w
   cases w with
   | cons a b =>
     cases a
     exact .cons _ _ (ih _ b)
theorem script_of {l:OpenLaw} {n:Nat} (hn:l.most=some n) {P:Params} {h:Heap} {args:List WData} {vals:List Value}
 (hpre:l.row.toRowW.claim.pre args=true) (hwl:WellAll P h vals args):
 ∃ a vs ns,vals=[Value.ref a]/\args=[WData.list (ns.map WData.int)]/\h.get? a=some { cls:=.type "list",data:=.seq vs.toArray }/\IntsAre vs ns/\ns.length<=n:=by
 have hsh:WShape.hasAll [] args [.list .int]=true:=(pre_splitW hpre).1
 have hc:l.pre.holds [] { args:=args }=true:=(pre_splitW hpre).2
 obtain ⟨d,r,rfl,h1,h2⟩:=hasAllW_cons hsh
 obtain rfl:=hasAllW_nil h2
 obtain ⟨xs,rfl,h3⟩:=hasW_list h1
 obtain ⟨ns,rfl⟩:=items_int h3
 have hlen:ns.length<=n:=by
  unfold OpenLaw.pre at hc
  have h4:(WTm.not (.lt (.lit (.int (n:Int))) (.len (.arg 0)))).holds [] { args:=[.list (ns.map .int)] }=true:=by
   have h4:=(holds_andW hc).1
   rw [hn] at h4
   exact h4
  have h5:=condW_of h4 (w_not (w_lt w_lit (w_len_list (w_arg rfl))))
  rw [List.length_map] at h5
  refine Nat.le_of_not_lt λ q=>?_
  have q':(n:Int)<((ns.length:Nat):Int):=by omega
  first
   | (rw [decide_eq_true q'] at h5; exact absurd h5 (by decide))
   | (simp at h5; omega)
 cases hwl with
 | cons w1 w2 =>
   cases w2
   cases w1 with
   | list ho hall=>exact ⟨_,_,ns,rfl,rfl,ho,ints_of_wellAll ns _ hall,hlen⟩
theorem post_true (l:OpenLaw) (args:List WData):l.row.toRowW.claim.post args (.bool true) args=true :=
 postW_of (r:=l.row.toRowW) (X:=(true == true))
  (show WShape.has [] (.bool true) .bool=true by first | rfl | decide | simp [WShape.has,WShape.arms,WShape.armsAll])
  (show (WTm.eq .res (.lit (.bool true))).value [] { args:=args,res:=some (.bool true),after:=args }=some (.bool (true == true)) from w_eq_bool (w_res rfl) w_lit) rfl
theorem attach_call {l:OpenLaw} {n:Nat} {q:Program} {loose:List Str} {XP:(Str->Option Value)->Heap->Prop} {YP:World->Heap->Prop} {d:DefRec}
 (hn:l.most=some n) (hdf:d.params.defaults=[])
 (call:∀ (w:World) (s₀ s₁:Shared) (mg mb:Str->Option Value) (fa:Addr) (o:Obj) (pm cd doc:Value) (a:Addr) (vs:List Value) (ns:List Int),
  Ground q loose [] XP w s₀ mg mb s₁.heap->YP w s₁.heap->
  s₁.heap.get? fa=some o->o.data=.func (docDef d.name d.params d.body d.scope pm cd doc)->s₁.heap.CodeRec cd d.name->mg d.name=some (.ref fa)->
  s₁.heap.get? a=some { cls:=.type "list",data:=.seq vs.toArray }->IntsAre vs ns->ns.length<=n->s₁.gens=#[]->
  codeAny (model l.prog w) callerA (.call (.ref fa) ⟨[.ref a],[]⟩) (λ r s'=>r=.ok (.ret (.bool true))/\OldK s₁.heap s'.heap/\s'.os=s₁.os/\AllBare s'.gens) s₁):
 WalkO q loose XP YP l.row.toRowW d [] (λ f vs=>PySem.call f vs):=by
 intro w s₀ s₁ mg mb G Y fa o pm cd doc dV kV ho hd hcd hD hmg hg args vals as hpre hlay hrd hwl hlo
 obtain rfl:dV=.none:=Dflts.none hD hdf
 obtain rfl:kV=.none:=Dflts.noKw hD
 obtain ⟨a,vs,ns,rfl,rfl,hobj,hints,hlen⟩:=script_of hn hpre hwl
 refine enter_call (codeAny_mono (call w s₀ s₁ mg mb fa o pm cd doc a vs ns G Y ho (fd_plain hd) hcd hmg hobj hints hlen hg) λ r s' hq=>?_)
 obtain ⟨rfl,h2,h3,h4⟩:=hq
 exact ⟨.inl ⟨.bool true,.bool true,[],rfl,λ _=>rfl,.bool true,post_true l _,λ _=>⟨List.Pairwise.nil,λ _ hm=>(nomatch hm)⟩⟩,h2,h3,h4⟩
section
variable {prog:Program} {w:World} {A:Around} {E:Value->Shared->Prop} {s:Shared} {K:Frag}
def ledger (h:Heap) (L d:Addr):List (Addr × Obj):=(List.range h.objs.size).filterMap λ a=>if a=L\/a=d then none else (h.get? a).map λ o=>(a,o)
end
end Att
namespace L2
open PySem PySem.Spec PyProof.Rows
theorem vals_ints:∀ {vs:List Value} {ns:List Int},IntsAre vs ns->Vals (ns.map V.int) vs
 | _,_,.nil=>.nil
 | _,_,.cons n t h=>.cons ⟨t,rfl⟩ (vals_ints h)
def Only (H:Hp):Prop:=∀ b,H b=none\/∃ o xs,H b=some (.frz o (.lst xs))
theorem law_call {P:Program} {w:World} {K:PySem.W.Frag} {mg mb:Str->Option Value} {CX:CXT} {k:Nat} {fa a:Addr} {fd:FuncData} {x:Str} {sp:Sp} {s₁:Shared} {vs:List Value} {ns:List Int}
 (KX:K.In s₁.heap) (hns:s₁.heap.Ns mainGlobals mg) (hb:s₁.heap.Ns builtinsNs mb) (hbb:∀ x:Str,x ≠ "__name__" -> mb x=bootBuiltins x) (hlim:s₁.heap.NoLimit) (hg:s₁.gens=#[])
 (ha:s₁.heap.get? a=some { cls:=.type "list",data:=.seq vs.toArray }) (hi:IntsAre vs ns) (hl:ns.length<=sizeLine) (hr:Room k callerA)
 (F:∀ base:Heap,K.In base->base.Ns mainGlobals mg->FnOk P w K mg base CX k fa fd [x] sp) (hbind:∀ (s:Shared) (u:Value),BindsTo s fd ⟨[u],[]⟩ [(x,u)])
 (hsp:∀ H:Hp,Only H->SqL K H a (ns.map V.int)->sp [.ref a] H (λ v _=>v=.bl true) λ _ _ _=>False)
 (hCX:∀ H e s',CX [] H s₁ (λ _ _ _=>False) e s'->False):
 codeAny (model P w) callerA (.call (.ref fa) ⟨[.ref a],[]⟩) (λ r s'=>r=.ok (.ret (.bool true))/\OldK s₁.heap s'.heap/\s'.os=s₁.os/\AllBare s'.gens) s₁:=by
 have rv:=vals_ints hi
 have lenV:=hi.length
 have core:∀ H:Hp,Only H->SqL K H a (ns.map V.int)->HOk P w H s₁.heap->(∀ b,H b ≠ none->b=a)->(H a ≠ none->K.lookup a=none)->
  codeAny (model P w) callerA (.call (.ref fa) ⟨[.ref a],[]⟩) (λ r s'=>r=.ok (.ret (.bool true))/\OldK s₁.heap s'.heap/\s'.os=s₁.os/\AllBare s'.gens) s₁:=by
  intro H hO hS hok hA hK
  have base_of:∀ {b:Addr} {o:Obj},s₁.heap.get? b=some o->H b=none->(hidT s₁.heap H).get? b=some o:=λ e n=>hidT_get e n
  have noA:∀ {b:Addr} {o:Obj} {es:Array DictEntry} {ep:Nat},s₁.heap.get? b=some o->o.data=.dict es ep->H b=none:=λ {b o es ep} e d=>by
   cases q:H b with
   | none=>rfl
   | some u =>
     have e':b=a:=hA b (by rw [q]; simp)
     subst e'
     rw [ha] at e; cases e
     have d':Data.seq vs.toArray _=Data.dict es ep:=d
     cases d'
  have nsK:∀ {b:Addr} {m:Str->Option Value},s₁.heap.Ns b m->(hidT s₁.heap H).Ns b m:=λ {b m} ⟨o,es,ep,e,d,r⟩=>⟨o,es,ep,base_of e (noA e d),d,r⟩
  have hKb:K.In (hidT s₁.heap H):=λ b o e=>base_of (KX b o e) (by
   cases q:H b with
   | none=>rfl
   | some u =>
     have e':b=a:=hA b (by rw [q]; simp)
     subst e'
     rw [hK (by rw [q]; simp)] at e; cases e)
  have hM:Mod K mg (hidT s₁.heap H):=⟨hKb,nsK hns,⟨mb,nsK hb,hbb⟩,let ⟨mc,h1,h2⟩:=hlim; ⟨mc,nsK h1,h2⟩⟩
  have e0:Env0 P w K mg (hidT s₁.heap H) callerA [] s₁ H:=⟨rfl,hM,λ b o e=>of_hidT e,Nat.le_of_eq (hidT_size _ _),trivial,λ b hb=>absurd (show b ∈ ([]:List Addr) from hb) (by simp),hok,.of_eq hg⟩
  refine codeAny_mono ((F _ hKb (nsK hns)).run callerA [] s₁ H ⟨[.ref a],[]⟩ [.ref a] [.ref a] _ _ hr e0 (hbind s₁ (.ref a)) (.cons rfl .nil) (hsp H hO hS)) λ r s' h=>?_
  cases r with
  | error e=>exact (hCX H e s' h).elim
  | ok fl =>
    cases fl with
    | next=>exact False.elim h
    | brk=>exact False.elim h
    | cont=>exact False.elim h
    | ret u =>
      obtain ⟨v,H',os,bare,un,hok',r',q⟩:=h
      have q':v=.bl true:=q
      subst q'
      obtain rfl:u=Value.bool true:=r'
      refine ⟨rfl,OldK.of_keep λ b o e=>?_,os,bare⟩
      cases q:H b with
      | none=>exact un.keep b o e q (by intro z; exact absurd (show b ∈ ([]:List Addr) from z) (by simp)) (by simp)
      | some u =>
        rcases hO b with z | ⟨ob,xs,z⟩
        ·rw [q] at z; cases z
        ·have z2:=un.frzs b ob _ z
         obtain ⟨e1,_⟩:=hok b _ z
         obtain ⟨e2,_⟩:=hok' b _ z2
         rw [e] at e1; cases e1
         exact e2
 cases hk:K.lookup a with
 | some o =>
   have e:=KX a o hk
   rw [ha] at e
   cases e
   refine core (λ _=>none) (λ _=>.inl rfl) (.inr ⟨_,vs.toArray,_,hk,rfl,rfl,rfl,by rw [List.size_toArray,lenV]; exact hl,by simpa using rv⟩) (λ b u z=>by have z':(none:Option HO)=some u:=z; cases z') (λ b z=>absurd rfl z) λ z=>absurd rfl z
 | none =>
   refine core (λ b=>if b=a then some (.frz { cls:=.type "list",data:=.seq vs.toArray } (.lst (ns.map V.int))) else none) (λ b=>?_) (.inl (.inr ⟨{ cls:=.type "list",data:=.seq vs.toArray },if_pos rfl⟩)) (λ b u z=>?_) (λ b z=>?_) λ _=>hk
   ·by_cases hb:b=a
    ·exact .inr ⟨_,_,if_pos hb⟩
    ·exact .inl (if_neg hb)
   ·by_cases hb:b=a
    ·have z':=(if_pos hb).symm.trans z
     cases z'
     subst hb
     exact ⟨ha,by rw [List.length_map]; exact hl,vs,_,rv,ha⟩
    ·have z':=(if_neg hb).symm.trans z
     cases z'
   ·by_cases hb:b=a
    ·exact hb
    ·exact absurd (if_neg hb) z
end L2
namespace L2
open PySem PySem.Spec PyProof.Rows
abbrev KOf {K:PySem.W.Frag} {h:Heap} (_:K.In h):PySem.W.Frag:=K
theorem walk_of {l:PySem.W.OpenLaw} {n k:Nat} {q:Program} {loose:List Str} {XP:(Str->Option Value)->Heap->Prop} {YP:World->Heap->Prop} {d:DefRec} {K:Params->PySem.W.Frag} {CX:World->CXT} {sp:World->Sp} {x:Str}
 (hn:l.most=some n) (hn2:n<=sizeLine) (hdf:d.params.defaults=[]) (hr:Room k callerA)
 (hY:∀ (w:World) (h:Heap),YP w h->(K w.params).In h)
 (F:∀ (w:World) (mg:Str->Option Value) (fa:Addr) (h:Heap),(K w.params).In h->h.Ns mainGlobals mg->mg d.name=some (.ref fa)->
  ∃ fd:FuncData,(∀ (s:Shared) (u:Value),BindsTo s fd ⟨[u],[]⟩ [(x,u)])/\
    ∀ base:Heap,(K w.params).In base->base.Ns mainGlobals mg->FnOk l.prog w (K w.params) mg base (CX w) k fa fd [x] (sp w))
 (hsp:∀ (w:World) (H:Hp) (a:Addr) (ns:List Int),ns.length<=n->Only H->SqL (K w.params) H a (ns.map V.int)->sp w [.ref a] H (λ v _=>v=.bl true) λ _ _ _=>False)
 (hCX:∀ (w:World) (H:Hp) (s:Shared) (e:Value) (s':Shared),CX w [] H s (λ _ _ _=>False) e s'->False):
 PySem.W.WalkO q loose XP YP l.row.toRowW d [] (λ f vs=>PySem.call f vs):=by
 refine Att.attach_call hn hdf λ w s₀ s₁ mg mb fa o pm cd doc a vs ns G Y ho hd hcd hmg hobj hints hlen hg=>?_
 have KX:=hY w _ Y
 obtain ⟨fd,hb,hF⟩:=F w mg fa _ KX G.T.g hmg
 exact law_call KX G.T.g G.T.b G.T.builtins G.T.nolimit hg hobj hints (Nat.le_trans hlen hn2) hr hF hb (λ H hO hS=>hsp w H a ns hlen hO hS) λ H e s'=>hCX w H s₁ e s'
end L2
namespace L2
open PySem PySem.Spec PyProof.Rows
def inClass (s:Stmt) (j:Nat):Stmt:=match s with
 | .ClassDef _ _ _ body _ _ _ _ _ _ _=>body.getD j (.Pass ⟨0,0,0,0⟩)
 | _=>.Pass ⟨0,0,0,0⟩
def defArgs (s:Stmt):Arguments:=match s with
 | .FunctionDef _ a _ _ _ _ _ _ _ _=>a
 | _=>{ posonlyargs:=[],args:=[],vararg:=none,kwonlyargs:=[],kw_defaults:=[],kwarg:=none,defaults:=[] }
def defBody (s:Stmt):List Stmt:=match s with
 | .FunctionDef _ _ b _ _ _ _ _ _ _=>b
 | _=>[]
def defScope (s:Stmt):Scope:=match s with
 | .FunctionDef _ _ _ _ _ _ sc _ _ _=>sc
 | _=>{ kind:=.function,names:=[],isGenerator:=false,isCoroutine:=false }
abbrev CX0:CXT:=λ _ _ _ _ _ _=>False
abbrev E0:XK:=λ _ _ _=>False
structure Fun (K:PySem.W.Frag) (x qual:Str) (st:Stmt) (f:Addr) (fd:FuncData):Prop where
 ex:∃ (oc:Value) (od:Option Addr) (kV doc pm:Value) (an:Option Addr) (cdv ct:Value) (osl:Array (Option Value)),
  fd=PySem.W.fnOf x qual (defArgs st) (defBody st) (defScope st) .none kV doc pm an cdv ct/\K.lookup f=some ⟨oc,od,.func fd,osl⟩/\PySem.W.codeIn K cdv qual=true
 kp:PySem.W.keepIn K (.ref f)=true
section
variable {P:Program} {w:World} {K:PySem.W.Frag} {mg:Str->Option Value} {base:Heap}
theorem Fun.ok {x qual:Str} {st:Stmt} {f:Addr} {fd:FuncData} {N ps:List Str} {k:Nat} {sp:Sp} (F:Fun K x qual st f fd) (S:FnScope N ps (defScope st)) (len:∀ vs H Q E,sp vs H Q E->vs.length=ps.length)
 (hbody:∀ (cdv:Value) (A:Around) (outer:List Env) (s:Shared) (H:Hp) (vs:List V) (Q:VK) (E:XK),Room k (A.deeper (envOfC qual (defScope st) s.heap.objs.size f cdv))->sp vs H Q E->
  ∃ t,PSs (cxOf CX0 P w K mg base N qual (defScope st) f cdv A outer s H E).nox (defBody st) t/\t { nx:=λ _ H'=>Q .non H',rt:=Q } (start N vs) H):FnOk P w K mg base CX0 (k+1) f fd ps sp:=by
 obtain ⟨oc,od,kV,doc,pm,an,cdv,ct,osl,rfl,lk,hcd⟩:=F.ex
 refine fn_of lk hcd S len λ A outer s H vs Q E hr hsp=>?_
 obtain ⟨t,h,q⟩:=hbody cdv A outer s H vs Q E hr hsp
 exact ⟨t,h.nox,q⟩
theorem Fun.binds {x qual:Str} {st:Stmt} {f:Addr} {fd:FuncData} {ps:List Str} (F:Fun K x qual st f fd)
 (h:∀ (kV doc pm:Value) (an:Option Addr) (cdv ct:Value) (us:List Value),us.length=ps.length->bindArgs (PySem.W.fnOf x qual (defArgs st) (defBody st) (defScope st) .none kV doc pm an cdv ct) ⟨us,[]⟩=pure (ps.zip us)):Binds K fd ps []:=by
 obtain ⟨oc,od,kV,doc,pm,an,cdv,ct,osl,rfl,lk,hcd⟩:=F.ex
 exact .all (h kV doc pm an cdv ct)
theorem fun_mk {x qual:Str} {st:Stmt} {f:Addr} {oc:Value} {od an:Option Addr} {osl:Array (Option Value)} {kV doc pm cdv ct:Value} (l:K.lookup f=some ⟨oc,od,.func (PySem.W.fnOf x qual (defArgs st) (defBody st) (defScope st) .none kV doc pm an cdv ct),osl⟩)
 (c:PySem.W.codeIn K cdv qual=true) (k:PySem.W.keepIn K (.ref f)=true):Fun K x qual st f (PySem.W.fnOf x qual (defArgs st) (defBody st) (defScope st) .none kV doc pm an cdv ct):=⟨⟨oc,od,kV,doc,pm,an,cdv,ct,osl,rfl,l,c⟩,k⟩
end
theorem hu_of {A:Around} {k:Nat} (hr:Room k A):A.units+1<cLine:=Nat.lt_of_le_of_lt (Nat.add_le_add_left (by decide:1<=64) _) hr.units
section
variable {X:Cx}
theorem pv (i:Nat) {x:Str} {pos:Pos} (hN:X.N[i]?=some x:=by rfl) (hv:Vis X.env.scope x:=by first | exact Or.inl rfl | exact Or.inr (Or.inl rfl) | exact Or.inr (Or.inr rfl)) (hd:(x == ("__debug__" : Str))=false:=by decide)
 (hcd:(x == ("__classdict__" : Str))=false:=by decide):PE X (.Name x pos) (tVar i):=pe_var hN hv hd hcd
end
theorem iteF {A B:Prop} (h:B):if false=true then A else B:=by
 rw [if_neg Bool.false_ne_true]
 exact h
theorem iteT {A B:Prop} (h:A):if true=true then A else B:=by
 rw [if_pos rfl]
 exact h
theorem ite2 {c A B:Prop} [Decidable c] (h1:c->A) (h2:¬ c->B):if c then A else B:=by
 by_cases h:c
 ·rw [if_pos h]
  exact h1 h
 ·rw [if_neg h]
  exact h2 h
theorem iteNS {c A B:Prop} [Decidable c] (hc:c) (h:B):if (!decide c)=true then A else B:=by
 rw [decide_eq_true hc]
 exact iteF h
def Same (H H':Hp):Prop:=∀ b o,H b=some o->H' b=some o
theorem Same.refl (H:Hp):Same H H:=λ _ _ h=>h
theorem Same.trans {H H1 H2:Hp} (a:Same H H1) (b:Same H1 H2):Same H H2:=λ c o h=>b c o (a c o h)
theorem Same.free {H H':Hp} (e:Same H H') {l:Addr} (h:H' l=Option.none):H l=Option.none:=by
 cases q:H l with
 | none=>rfl
 | some o =>
   rw [e l o q] at h
   cases h
theorem Same.seq {K:PySem.W.Frag} {H H':Hp} {a:Addr} {xs:List V} (e:Same H H') (h:SqL K H a xs):SqL K H' a xs:=by
 rcases h with (h | ⟨o,h⟩) | h
 ·exact .inl (.inl (e _ _ h))
 ·exact .inl (.inr ⟨o,e _ _ h⟩)
 ·exact .inr h
end L2
namespace XT
open PySem PySem.W PyProof.Rows PySem.Calls
section
variable {prog:Program} {w:World} {A:Around} {E:Value->Shared->Prop} {h:Heap} {g:Array GenState} {d:Drawn} {t:Nat} {os:OsState} {a:Addr} {o:Obj} {K:Frag} {C:Addr}
theorem lookup_K {M:Model} {n:Str} {y:Option Value} {Q:Option Value->Shared->Prop} (X:K.In h) (e:findIn K (.ref C) n=some y) (hq:Q y ⟨h,g,d,t,os⟩):wpAny M A (typeLookup (.ref C) n) Q E ⟨h,g,d,t,os⟩ :=
 (looks_findIn (M:=M) X e).here hq
theorem sub_K {M:Model} {b:Value} {y:Bool} {Q:Bool->Shared->Prop} (X:K.In h) (e:mroIn K C b=some y) (hq:Q y ⟨h,g,d,t,os⟩):wpAny M A (isSubtype (.ref C) b) Q E ⟨h,g,d,t,os⟩ :=
 (looks_mroIn (M:=M) X e).here hq
structure ExcK (K:Frag) (C:Addr):Prop where
 ga:findIn K (.ref C) "__getattribute__" = some (some (.builtin "BaseException.__getattribute__"))
 gt:findIn K (.ref C) "__getattr__" = some none
 cl:findIn K (.ref C) "__class__" = some (some (.builtin "object.__class__"))
 ob:mroIn K C (.type "object")=some true
 be:mroIn K C (.type "BaseException")=some true
 cs:(clsIn K C).isSome=true
theorem cls_get (X:K.In h) (Z:ExcK K C) (hx:h.get? a=some o) (hc:o.cls=.ref C) {R:Result->Shared->Prop} (hq:R (.ok (.ret (.ref C))) ⟨h,g,d,t,os⟩):
 codeAny (model prog w) A (.call (.builtin "getset_descriptor.__get__") ⟨[.builtin "object.__class__",.ref a,.ref C],[]⟩) R ⟨h,g,d,t,os⟩:=by
 have hT5:(⟨h,g,d,t,os⟩:Shared).TypeIs (.builtin "object.__class__") "getset_descriptor":=F.typeOf_object_class
 refine codeAny_call_builtin F.slot_gs_get.plain F.entry_gs_get (F.slot_gs_get.check _ _ _ _ _ _ _ _ hT5 (F.args_gs_get _ _ _) ?_)
 have hob:mroIn K C (.type (".".intercalate ("object.__class__".cutAt '.').dropLast))=some true:=by rw [F.owner_object_class]; exact Z.ob
 repeat (any_goals (first | assumption | (with_reducible refine wpAny_loadPart_at hx ?_; rw [hc]) | with_reducible refine sub_K X hob ?_ | wp_step))
 refine ⟨Code.quiet_builtin _ (by decide +kernel),codeAny_builtin F.entry_object_class ?_⟩
 unfold Builtin.«object.__class__» shownTypeOf
 repeat (any_goals (first | assumption | (with_reducible refine wpAny_loadPart_at hx ?_; rw [hc]) | wp_step))
theorem cls_entry {tk:Tok} {Q:Fin->Shared->Prop} (X:K.In h) (Z:ExcK K C) (hx:h.get? a=some o) (hc:o.cls=.ref C) (hq:Q (.done (.ret (.ref C))) ⟨h,g,d,t,os⟩):
 wpAny (model prog w) A (Builtin.«object.__getattribute__» ⟨[.ref a,.str "__class__" tk],[]⟩) Q E ⟨h,g,d,t,os⟩:=by
 have hT5:(⟨h,g,d,t,os⟩:Shared).TypeIs (.builtin "object.__class__") "getset_descriptor":=F.typeOf_object_class
 have f5:=F.typeOf_object_class
 have f6:=F.slot_gs_get.lookup
 have f7:=F.slot_gs_set.lookup
 repeat (any_goals (first | assumption | (with_reducible refine wpAny_loadPart_at hx ?_; rw [hc]) | with_reducible refine lookup_K X Z.cl ?_ | wp_step))
 refine cls_get X Z hx hc ?_
 repeat (any_goals (first | assumption | wp_step))
theorem cls_check {M:Model} {nameV:Value} {Q:Unit->Shared->Prop} (X:K.In h) (Z:ExcK K C) (hx:h.get? a=some o) (hc:o.cls=.ref C) (hq:Q () ⟨h,g,d,t,os⟩):
 wpAny M A (checkBuiltinCall "BaseException.__getattribute__" ⟨[.ref a,nameV],[]⟩) Q E ⟨h,g,d,t,os⟩:=by
 have hk:builtinKind "BaseException.__getattribute__" = some .slot:=by decide +kernel
 have hsplit:splitId "BaseException.__getattribute__" = some ("BaseException", "__getattribute__"):=by decide +kernel
 have ha:=F.args_bexc_ga (.ref a) nameV
 have hbe:=Z.be
 simp only [checkBuiltinCall,hk,hsplit]
 refine wpAny_bind ?_
 ·unfold isInstance
  repeat (first | (with_reducible refine wpAny_loadPart_at hx ?_; rw [hc]) | with_reducible refine sub_K X hbe ?_ | wp_step)
  exact hq
theorem cls_call {tk:Tok} {R:Result->Shared->Prop} (X:K.In h) (Z:ExcK K C) (hx:h.get? a=some o) (hc:o.cls=.ref C) (hq:R (.ok (.ret (.ref C))) ⟨h,g,d,t,os⟩):
 codeAny (model prog w) A (.call (.builtin "BaseException.__getattribute__") ⟨[.ref a,.str "__class__" tk],[]⟩) R ⟨h,g,d,t,os⟩ :=
 codeAny_call_builtin PySem.F.attr_ValueError.ga.plain F.entry_bexc_ga (cls_check X Z hx hc (cls_entry X Z hx hc hq))
theorem cls_by {tk:Tok} {fill expr:Bool} {Q:Value->Shared->Prop} (X:K.In h) (Z:ExcK K C) (hx:h.get? a=some o) (hc:o.cls=.ref C) (hq:Q (.ref C) ⟨h,g,d,t,os⟩):
 wpAny (model prog w) A (getAttrBy (.ref a) (.str "__class__" tk) fill expr) Q E ⟨h,g,d,t,os⟩:=by
 have f3:=PySem.F.attr_ValueError.ga.bind (.ref a)
 have hx0:(expr && onTheHeap (Value.builtin "BaseException.__getattribute__"))=false:=by cases expr<;>rfl
 have hx2:(Value.builtin "BaseException.__getattribute__" == Value.builtin "object.__getattribute__")=false:=by decide +kernel
 have hx1:(onTheHeap (Value.ref C) && Value.builtin "BaseException.__getattribute__" == Value.builtin "object.__getattribute__")=false:=by rw [hx2]; rfl
 repeat (any_goals (first | assumption | (with_reducible refine wpAny_loadPart_at hx ?_; rw [hc]) | with_reducible refine lookup_K X Z.ga ?_ | with_reducible refine lookup_K X Z.gt ?_ | wp_step))
 refine cls_call X Z hx hc ?_
 repeat (any_goals (first | assumption | wp_step))
theorem cls_attr {Q:Option Value->Shared->Prop} (X:K.In h) (Z:ExcK K C) (hx:h.get? a=some o) (hc:o.cls=.ref C) (hq:Q (some (.ref C)) ⟨h,g,d,t+1,os⟩):wpAny (model prog w) A (getAttr? (.ref a) "__class__") Q E ⟨h,g,d,t,os⟩:=by
 unfold getAttr? getAttrBy?
 repeat (any_goals (first | assumption | with_reducible apply cls_by X Z hx hc | wp_step))
end
def ExcAt (a C:Addr) (h:Heap):Prop:=∃ o,h.get? a=some o/\o.cls=.ref C
theorem kitx_exc {K:Frag} {a C:Addr} (Z:ExcK K C):KitX K (.ref a) (.ref C) (ExcAt a C) where
 ty:=λ _ _ _ ⟨o,h1,h2⟩=>h2 ▸ (Looks.ld h1).andThen .now
 it:=λ _ _ X _=>by
  have z0:=Z.cs
  unfold clsIn at z0
  split at z0
  ·rename_i c' d' cd' sl' ho
   intro A' Q' E' s' k q
   unfold isType loadHead
   exact wpAny_bind (wpAny_loadPart (k _ _ (X _ _ ho)) (wpAny_pure q))
  ·cases z0
 ne:=λ h tp dd its n sl X htp=>by
  refine Bool.eq_false_iff.mpr λ q=>?_
  have e:C=tp:=Value.ref.inj (beq_iff_eq.mp q)
  subst e
  have z0:=Z.cs
  unfold clsIn at z0
  split at z0
  ·rename_i c' d' cd' sl' ho
   have z:=(X _ _ ho).symm.trans htp
   cases z
  ·cases z0
 ca:=λ {_ _ _ _ _ s} X ⟨o,h1,h2⟩ k=>by
  obtain ⟨hh,g,d,t,os⟩:=s
  exact cls_attr X Z h1 h2 k
end XT
set_option maxHeartbeats 4000000
namespace L2
open PySem PySem.Spec PyProof.Rows
theorem ObjOk.there {P:Program} {w:World} {H:Hp} {h:Heap} {a:Addr} {o:HO} (x:ObjOk P w H h a o):∃ u,h.get? a=some u:=by
 cases o with
 | lst xs=>obtain ⟨_,_,_,_,e⟩:=x; exact ⟨_,e⟩
 | tup xs=>obtain ⟨_,_,_,p⟩:=x; obtain ⟨u,e,_⟩:=p; exact ⟨u,e⟩
 | dK kvs=>obtain ⟨_,_,_,_,o,_,_,e,_⟩:=x; exact ⟨_,e⟩
 | dT kvs=>obtain ⟨_,_,_,_,o,_,_,e,_⟩:=x; exact ⟨_,e⟩
 | set S n=>obtain ⟨o,_,_,_,e,_⟩:=x; exact ⟨_,e⟩
 | ins C dx fs=>obtain ⟨_,_,_,e,_⟩:=x; exact ⟨_,e⟩
 | own y=>exact x
 | xd fs=>obtain ⟨_,⟨_,_,_,e,_⟩,_⟩:=x; exact ⟨_,e⟩
 | rng lo hi=>obtain ⟨_,_,_,e⟩:=x; exact ⟨_,e⟩
 | frz ob u=>obtain ⟨e,_⟩:=x; exact ⟨_,e⟩
 | tbl ps=>exact ⟨_,(show h.get? a=some _ from x)⟩
 | met f y=>exact ⟨_,(show h.get? a=some _ from x)⟩
 | ext φ=>obtain ⟨_,e,_⟩:=x; exact e
theorem HOk.trkd {P:Program} {w:World} {H:Hp} {h h':Heap} (x:HOk P w H h) (k:∀ b u o,H b=some o->h.get? b=some u->h'.get? b=some u):HOk P w H h':=λ a o e =>
 (x a o e).stay (λ b u hb q=>by
  rcases hb with rfl | hb
  ·exact k b u o e q
  ·exact k b u _ hb q) (λ _ q=>q) λ _ _ q=>q
theorem HOk.gone {P:Program} {w:World} {H:Hp} {h:Heap} {a:Addr} (x:HOk P w H h) (e:h.get? a=none):H a=none:=by
 cases q:H a with
 | none=>rfl
 | some u=>obtain ⟨v,hv⟩:=(x a u q).there; rw [e] at hv; cases hv
structure Fly (P:Program) (w:World) (outer:List Env) (H:Hp) (s:Shared) (a:Addr) (C:Value) (H':Hp) (s':Shared):Prop where
 os:s'.os=s.os
 bare:AllBare s'.gens
 un:Un (frs outer) [] H H' s.heap s'.heap
 hok:HOk P w H' s'.heap
 new:s.heap.get? a=none
 ex:∃ B a0,Heap.FlyingW B outer a C a0 s'.heap/\(∀ b o,s.heap.get? b=some o->H b=none->b ∉ frs outer->B.get? b=some o)/\(∀ b o,H' b=some o->∃ u,B.get? b=some u)/\
  (∀ b o,s.heap.get? b=some o->b ∉ frs outer->∃ u,B.get? b=some u)
def CX1 (P:Program) (w:World):CXT:=λ outer H s E e s'=>∃ a C H',e=.ref a/\Fly P w outer H s a C H' s'/\E C none H'
theorem cx1_none {P:Program} {w:World} {outer:List Env} {H:Hp} {s:Shared} {e:Value} {s':Shared} (h:CX1 P w outer H s (λ _ _ _=>False) e s'):False:=by
 obtain ⟨_,_,_,_,_,z⟩:=h; exact z
theorem pass1 {P:Program} {w:World} {X:Cx}:Passes (CX1 P w) X E0:=λ _ _ _ _ _ _ _ h=>(cx1_none h).elim
theorem Fly.gone {P:Program} {w:World} {outer:List Env} {H H':Hp} {s s':Shared} {a:Addr} {C:Value} (x:Fly P w outer H s a C H' s'):H' a=none:=by
 obtain ⟨B,a0,hf,k1,k2,_⟩:=x.ex
 cases q:H' a with
 | none=>rfl
 | some u=>obtain ⟨v,hv⟩:=k2 a u q; rw [hf.2.1] at hv; cases hv
section
variable {P:Program} {w:World} {K:PySem.W.Frag} {mg:Str->Option Value} {base:Heap} {N:List Str} {qual:Str} {scope:Scope} {f:Addr} {cd:Value} {A:Around} {outer:List Env} {s₀:Shared} {H₀:Hp} {E:XK}
theorem frs_own {b:Addr}:b ∈ frs (cxOf (CX1 P w) P w K mg base N qual scope f cd A outer s₀ H₀ E).stack ↔ b=s₀.heap.objs.size\/b ∈ frs outer:=by
 show b ∈ List.filterMap _ (envOfC qual scope s₀.heap.objs.size f cd::outer) ↔ _
 rw [List.filterMap_cons_some (show (envOfC qual scope s₀.heap.objs.size f cd).frame=some s₀.heap.objs.size from rfl),List.mem_cons]
 rfl
theorem passes1:Passes (CX1 P w) (cxOf (CX1 P w) P w K mg base N qual scope f cd A outer s₀ H₀ E) E:=by
 intro pins σ H s e s' I h
 obtain ⟨a,C,H',rfl,x,hE⟩:=h
 obtain ⟨B,a0,hf,k1,k2,k3⟩:=x.ex
 show wpAny _ _ (leaving _ _) _ _ _
 refine wpAny_leaves_onW I.ok.frames rfl hf λ h' hf' hs=>?_
 have ne0:∀ b o,s₀.heap.get? b=some o->b ∉ frs outer->b ∉ frs (cxOf (CX1 P w) P w K mg base N qual scope f cd A outer s₀ H₀ E).stack:=λ b o e hb z=>by
  rcases frs_own.mp z with z | z
  ·exact absurd (Heap.lt_size e) (by rw [z]; exact Nat.lt_irrefl _)
  ·exact hb z
 have nox:∀ b:Addr,b ∉ (cxOf (CX1 P w) P w K mg base N qual scope f cd A outer s₀ H₀ E).ex:=λ b z=>absurd (show b ∈ ([]:List Addr) from z) (by simp)
 have keepB:∀ b o,s₀.heap.get? b=some o->H₀ b=none->b ∉ frs outer->B.get? b=some o:=λ b o e n hb =>
  k1 b o (I.base.keep b o e n hb (nox b)) (I.base.free b o e n (nox b)) (ne0 b o e hb)
 have slotB:∀ b o,s₀.heap.get? b=some o->H₀ b=none->b ∈ frs outer->∃ sl,h'.get? b=some { o with slots:=sl }:=λ b o e n hb=>by
  obtain ⟨sl,e1⟩:=I.base.slot b o e n hb (nox b)
  obtain ⟨sl2,e2⟩:=x.un.slot b _ e1 (I.base.free b o e n (nox b)) (frs_own.mpr (.inr hb)) (by simp)
  obtain ⟨_,o3,e3,d3⟩:=hf.2.2.1.mem (frs_own.mpr (.inr hb))
  rw [e2] at e3; cases e3
  obtain ⟨sl4,e4⟩:=hs b _ e2 d3
  exact ⟨sl4,e4⟩
 have thereB:∀ b o,s₀.heap.get? b=some o->b ∉ frs outer->∃ u,B.get? b=some u:=λ b o e hb=>by
  obtain ⟨o1,e1⟩:=I.base.there b o e (nox b)
  exact k3 b o1 e1 (ne0 b o e hb)
 refine ⟨a,C,H',rfl,⟨x.os.trans I.os,x.bare,⟨λ b o e n hb _=>hf'.1 b o (keepB b o e n hb),λ b o e n hb _=>slotB b o e n hb,λ b o e n _=>?_,λ b o e _=>?_,λ b xs e=>x.un.tups b xs (I.base.tups b xs e),
  λ b o u e=>x.un.frzs b o u (I.base.frzs b o u e),λ b ps e=>?_⟩,x.hok.trkd λ b u o e q=>?_,?_,B,a0,hf',keepB,k2,thereB⟩,hE⟩
 ·obtain ⟨o1,e1⟩:=I.base.there b o e (nox b)
  exact x.un.free b o1 e1 (I.base.free b o e n (nox b)) (by simp)
 ·by_cases hb:b ∈ frs outer
  ·obtain ⟨sl,e1⟩:=slotB b o e (I.ok.frf b hb) hb
   exact ⟨_,e1⟩
  ·obtain ⟨u,e1⟩:=thereB b o e hb
   exact ⟨u,hf'.1 b u e1⟩
 ·obtain ⟨m1,e1⟩:=I.base.tbls b ps e
  obtain ⟨m2,e2⟩:=x.un.tbls b _ e1
  exact ⟨m1++m2,by rw [e2,Array.append_assoc]⟩
 ·obtain ⟨u',e'⟩:=k2 b o e
  have:=hf.1 b u' e'
  rw [q] at this; cases this
  exact hf'.1 b u e'
 ·cases q:s₀.heap.get? a with
  | none=>rfl
  | some o =>
    obtain ⟨o1,e1⟩:=I.base.there a o q (nox a)
    rw [x.new] at e1; cases e1
def Raises (X:Cx) (E:XK):Prop:=∀ (pins:List (Addr × Obj)) (σ:St) (H:Hp) (s:Shared) (e:Addr) (C:Value) (args:List Value) (h':Heap),Inv X pins σ H s->Heap.MadeExcOf s.heap h' e C args->E C none H->X.xe (.ref e) { s with heap:=h' }
theorem raises1:Raises (cxOf (CX1 P w) P w K mg base N qual scope f cd A outer s₀ H₀ E) E:=by
 intro pins σ H s e C args h1 I hm hE
 have F:=I.stack
 have hin:∀ env ∈ (cxOf (CX1 P w) P w K mg base N qual scope f cd A outer s₀ H₀ E).stack,∀ b,env.frame=some b->b ∈ frs (cxOf (CX1 P w) P w K mg base N qual scope f cd A outer s₀ H₀ E).stack:=λ env he b hb=>List.mem_filterMap.mpr ⟨env,he,hb⟩
 show wpAny _ _ (leaving _ _) _ _ _
 refine wpAny_leaves_madeW (base:=PySem.W.hideAll s.heap (frs (cxOf (CX1 P w) P w K mg base N qual scope f cd A outer s₀ H₀ E).stack)) (h:=s.heap) I.ok.frames rfl (λ b o q=>PySem.W.of_hideAll _ q) (PySem.W.funFrames_hide F hin) hm λ h' t hf' _ _ hs=>?_
 have ne0:∀ b o,s₀.heap.get? b=some o->b ∉ frs outer->b ∉ frs (cxOf (CX1 P w) P w K mg base N qual scope f cd A outer s₀ H₀ E).stack:=λ b o e hb z=>by
  rcases frs_own.mp z with z | z
  ·exact absurd (Heap.lt_size e) (by rw [z]; exact Nat.lt_irrefl _)
  ·exact hb z
 have nox:∀ b:Addr,b ∉ (cxOf (CX1 P w) P w K mg base N qual scope f cd A outer s₀ H₀ E).ex:=λ b z=>absurd (show b ∈ ([]:List Addr) from z) (by simp)
 have keepB:∀ b o,s₀.heap.get? b=some o->H₀ b=none->b ∉ frs outer->(PySem.W.hideAll s.heap (frs (cxOf (CX1 P w) P w K mg base N qual scope f cd A outer s₀ H₀ E).stack)).get? b=some o:=λ b o e n hb =>
  PySem.W.hideAll_get _ (I.base.keep b o e n hb (nox b)) (ne0 b o e hb)
 have slotB:∀ b o,s₀.heap.get? b=some o->H₀ b=none->b ∈ frs outer->∃ sl,h'.get? b=some { o with slots:=sl }:=λ b o e n hb=>by
  obtain ⟨sl,e1⟩:=I.base.slot b o e n hb (nox b)
  obtain ⟨_,o3,e3,d3⟩:=F.mem (frs_own.mpr (.inr hb))
  rw [e1] at e3; cases e3
  obtain ⟨sl4,e4⟩:=hs b _ (hm.keeps b _ e1) d3
  exact ⟨sl4,e4⟩
 have thereB:∀ b o,s₀.heap.get? b=some o->b ∉ frs outer->∃ u,(PySem.W.hideAll s.heap (frs (cxOf (CX1 P w) P w K mg base N qual scope f cd A outer s₀ H₀ E).stack)).get? b=some u:=λ b o e hb=>by
  obtain ⟨o1,e1⟩:=I.base.there b o e (nox b)
  exact ⟨o1,PySem.W.hideAll_get _ e1 (ne0 b o e hb)⟩
 have trk:∀ b o u,H b=some o->s.heap.get? b=some u->(PySem.W.hideAll s.heap (frs (cxOf (CX1 P w) P w K mg base N qual scope f cd A outer s₀ H₀ E).stack)).get? b=some u:=λ b o u e q =>
  PySem.W.hideAll_get _ q λ z=>by rw [I.stkFree b z] at e; cases e
 refine ⟨e,C,H,rfl,⟨I.os,I.bare,⟨λ b o e n hb _=>hf'.1 b o (keepB b o e n hb),λ b o e n hb _=>slotB b o e n hb,λ b o e n _=>I.base.free b o e n (nox b),λ b o e _=>?_,I.base.tups,I.base.frzs,I.base.tbls⟩,
  I.hok.trkd λ b u o e q=>hf'.1 b u (trk b o u e q),?_,_,_,hf',keepB,λ b o q=>?_,thereB⟩,hE⟩
 ·by_cases hb:b ∈ frs outer
  ·obtain ⟨sl,e1⟩:=slotB b o e (I.ok.frf b hb) hb
   exact ⟨_,e1⟩
  ·obtain ⟨u,e1⟩:=thereB b o e hb
   exact ⟨u,hf'.1 b u e1⟩
 ·cases q:s₀.heap.get? e with
  | none=>rfl
  | some o =>
    obtain ⟨o1,e1⟩:=I.base.there e o q (nox e)
    rw [hm.new] at e1; cases e1
 ·obtain ⟨u,hu⟩:=(I.hok b o q).there
  exact ⟨u,trk b o u q hu⟩
end
def tRaise (C:Addr) (E:XK) (t:TA):TS:=λ _ σ H=>t σ H λ vs H1=>vs.length<=sizeLine/\E (.ref C) none H1
theorem exc_obj {K:PySem.W.Frag} {h:Heap} {C:Addr} {bmB:List Value} {newId:String} (X:K.In h) (q:PySem.W.excIn K C bmB newId=true):
 ∃ bm N nm qn bs hdct sn sub ab col dd k0 k1 k2 k3 k5 mN,h.get? C=some (excClassObj nm qn C N bs bm hdct sn sub ab col dd k0 k1 k2 k3 k5 newId)/\h.Ns N mN/\mN "__init__" = none/\OwnTail h bmB bm:=by
 unfold PySem.W.excIn at q
 split at q
 ·rename_i dd cd sl ho
  split at q
  ·rename_i C' bm k0 k1 k2 k3 n k5 hm hs
   simp only [Bool.and_eq_true,beq_iff_eq,Bool.not_eq_true'] at q
   obtain ⟨⟨⟨⟨⟨rfl,rfl⟩,hdel⟩,ht⟩,hok⟩,hni⟩:=q
   obtain ⟨nm,bs,mro,ns,qn,hd,sn,sub,ab,col,del⟩:=cd
   dsimp only at hm hdel hok hni
   subst hm hdel
   have hsl:sl=#[k0,k1,k2,k3,some (.builtin n),k5]:=by
    obtain ⟨l⟩:=sl
    simp only at hs
    rw [hs]
   subst hsl
   exact ⟨bm,ns,nm,qn,bs,hd,sn,sub,ab,col,dd,k0,k1,k2,k3,k5,_,X _ _ ho,.of_isNs (PySem.W.isNs_of_in X hok),PySem.W.nsMap_none_of_in X hok hni,PySem.W.tail_of_in X ht⟩
  ·cases q
 ·cases q
section
variable {X:Cx} {C:Addr} {x:Str} {e:Expr} {es:List Expr} {t:TA} {np cpos pos:Pos} {E:XK} {bmB:List Value} {B newId initId:String}
theorem ps_raise (hr:Raises X E) (hA:X.calm=true) (hg:Gl X x) (hm:X.mg x=some (.ref C)) (hq:PySem.W.excIn X.K C bmB newId=true) (FB:ExcBaseFacts B newId initId bmB) (ha:PA X (e::es) t)
 (hdb:(x == ("__debug__" : Str))=false:=by decide) (he:starEach (e::es) X.env=(false,eval e X.env)::starEach es X.env:=by rfl) (hpl:(backTo cpos (starEach es X.env)).any (·.1)=false:=by rfl):
 PS X (.Raise (some (.Call (.Name x np) (e::es) [] cpos)) none pos) (tRaise C E t):=by
 intro pins s σ H D I h
 obtain ⟨bm,N,nm,qn,bs,hdct,sn,sub,ab,col,dd,k0,k1,k2,k3,k5,mN,hC,hN,hni,T⟩:=exc_obj I.ok.mod.kin hq
 refine wpAny_Raise_call_subT (C:=C) (nm:=nm) (q:=qn) (N:=N) (bs:=bs) (bm:=bm) (hdct:=hdct) (sn:=sn) (sub:=sub) (ab:=ab) (col:=col) (dd:=dd) (k0:=k0) (k1:=k1) (k2:=k2) (k3:=k3) (k5:=k5)
  FB (mN:=mN) (T.hasType FB.hasBase) (I.ok.hd hA) (by rw [he]; show (false || (backTo cpos (starEach es X.env)).any (·.1))=false; rw [hpl]; rfl) hni (ld_glob I hg hm ⟨rfl,?_⟩ hdb)
 have ha':=ha cpos pins s σ H _ I h
 rw [he] at ha' ⊢
 refine Calls.evalArgs_plain (thn ha' λ us s1 ⟨vs,H1,I1,r,z,hE⟩=>⟨rfl,by rw [← r.length]; exact z,I1.bk _ _ hC,hN.keeps I1.bk,T.keeps I1.bk,λ h' e' hm'=>?_⟩)
 exact hr pins σ H1 s1 e' (.ref C) us h' I1 hm' hE
end
def Cx.tryX (X:Cx) (pins:List (Addr × Obj)) (xe:Value->Shared->Prop):Cx:={ X with pn:=X.pn++pins,xe:=xe }
def Cx.handX (X:Cx) (pins:List (Addr × Obj)) (e:Value):Cx:={ X with A:=X.A.mark (some e),calm:=false,pn:=X.pn++pins,xe:=λ _ _=>False }
theorem Cx.Ok.tryX {X:Cx} (ok:X.Ok) (pins:List (Addr × Obj)) (xe:Value->Shared->Prop):(X.tryX pins xe).Ok :=
 ⟨ok.mod,ok.kind,ok.glob,ok.blt,ok.above,ok.inj,ok.has,ok.cab,ok.hd,ok.frames,ok.stk,ok.exf,ok.bs,ok.bsz,ok.noex,ok.exfs,ok.funs,ok.frf⟩
theorem Cx.Ok.handX {X:Cx} (ok:X.Ok) (pins:List (Addr × Obj)) (e:Value):(X.handX pins e).Ok :=
 ⟨ok.mod,ok.kind,ok.glob,ok.blt,ok.above,ok.inj,ok.has,ok.cab,λ z=>Bool.noConfusion (show false=true from z),ok.frames,ok.stk,ok.exf,ok.bs,ok.bsz,ok.noex,ok.exfs,ok.funs,ok.frf⟩
section
variable {X:Cx} {pins pins':List (Addr × Obj)} {σ:St} {H H':Hp} {s:Shared} {xe:Value->Shared->Prop} {ev:Value}
theorem Inv.tryX (I:Inv X pins σ H s) (xe:Value->Shared->Prop):Inv (X.tryX pins xe) [] σ H s :=
 ⟨I.ok.tryX pins xe,I.os,I.bare,I.base,I.loc,I.cell,I.free,I.freeC,λ p hp=>I.pin p (by rw [List.append_nil] at hp; exact hp),I.hok,I.len⟩
theorem Inv.untry (ok:X.Ok) (I:Inv (X.tryX pins xe) pins' σ H s):Inv X pins σ H s :=
 ⟨ok,I.os,I.bare,I.base,I.loc,I.cell,I.free,I.freeC,λ p hp=>I.pin p (List.mem_append_left _ hp),I.hok,I.len⟩
theorem Inv.handX (I:Inv X pins σ H s) (ev:Value):Inv (X.handX pins ev) [] σ H s :=
 ⟨I.ok.handX pins ev,I.os,I.bare,I.base,I.loc,I.cell,I.free,I.freeC,λ p hp=>I.pin p (by rw [List.append_nil] at hp; exact hp),I.hok,I.len⟩
theorem Inv.unhand (ok:X.Ok) (I:Inv (X.handX pins ev) pins' σ H s):Inv X pins σ H s :=
 ⟨ok,I.os,I.bare,I.base,I.loc,I.cell,I.free,I.freeC,λ p hp=>I.pin p (List.mem_append_left _ hp),I.hok,I.len⟩
theorem SP.untry {D:Ends} {f:Flow} {s':Shared} (ok:X.Ok) (h:SP (X.tryX pins xe) pins' D f s'):SP X pins D f s':=by
 cases f with
 | next=>obtain ⟨σ',H',I,q⟩:=h; exact ⟨σ',H',I.untry ok,q⟩
 | brk=>obtain ⟨σ',H',I,q⟩:=h; exact ⟨σ',H',I.untry ok,q⟩
 | cont=>obtain ⟨σ',H',I,q⟩:=h; exact ⟨σ',H',I.untry ok,q⟩
 | ret u=>obtain ⟨v,σ',H',I,r,q⟩:=h; exact ⟨v,σ',H',I.untry ok,r,q⟩
theorem Inv.adopt {a:Addr} {o:HO} (J:Inv X pins σ H s) (na:H a=none) (h0:X.s₀.heap.get? a=none) (hl:X.env.locals ≠ a) (hc:∀ x c,X.env.cells.lookup x=some c->c ≠ a) (hp:∀ p ∈ X.pn++pins,p.1 ≠ a)
 (new:ObjOk X.prog X.w (upd H a o) s.heap a o):Inv X pins σ (upd H a o) s:=by
 have ne:∀ b u,H b=some u->b ≠ a:=λ b u e z=>by rw [z,na] at e; cases e
 refine ⟨J.ok,J.os,J.bare,⟨J.base.keep,J.base.slot,λ b ob e n hx=>?_,J.base.there,λ b xs e=>?_,λ b ob u e=>?_,λ b ps e=>?_⟩,J.loc,J.cell,?_,λ x c e=>?_,λ p hq=>?_,λ b u e=>?_,J.len⟩
 ·have z:b ≠ a:=λ z=>by rw [z,h0] at e; cases e
  rw [upd_ne z]; exact J.base.free b ob e n hx
 ·have q:=J.base.tups b xs e
  rw [upd_ne (ne b _ q)]; exact q
 ·have q:=J.base.frzs b ob u e
  rw [upd_ne (ne b _ q)]; exact q
 ·obtain ⟨m,q⟩:=J.base.tbls b ps e
  exact ⟨m,by rw [upd_ne (ne b _ q)]; exact q⟩
 ·rw [upd_ne hl]; exact J.free
 ·rw [upd_ne (hc x c e)]; exact J.freeC x c e
 ·obtain ⟨e1,e2,e3⟩:=J.pin p hq
  exact ⟨e1,by rw [upd_ne (hp p hq)]; exact e2,e3⟩
 ·by_cases z:b=a
  ·subst z; rw [upd_same] at e; cases e; exact new
  ·rw [upd_ne z] at e
   exact (J.hok b u e).stay (λ c v _ q=>q) (λ c q=>by rw [upd_ne (ne c _ q)]; exact q) λ c xs q=>by rw [upd_ne (ne c _ q)]; exact q
theorem name_gone {M:Model} {A:Around} {E:Value->Shared->Prop} {i:Nat} {n:Str} {pos:Pos} {Q:Unit->Shared->Prop} (I:Inv X pins σ H s) (hN:X.N.Nodup) (hi:X.N[i]?=some n) (hk:X.env.kindOf n=some .local)
 (h:∀ s',Inv X pins (σ.set i none) H s'->Q () s'):wpAny M A (do bindName X.env n .none; unbindBehindTheSuite X.env n pos) Q E s:=by
 obtain ⟨m,hn,hl⟩:=id I.loc
 have hcls:(X.env.scope.kind == .class || (X.env.scope.kind == .module && X.env.locals != X.env.globals))=false:=by rw [I.ok.kind]; rfl
 have hiσ:i<σ.length:=by rw [I.len]; exact (List.getElem?_eq_some_iff.mp hi).1
 obtain ⟨oL,_,_,hoL,_⟩:=id hn
 refine wpAny_nameGoes_keeps hk hn hcls λ h' v hn' hs=>?_
 have low:∀ b o,X.s₀.heap.get? b=some o->b ≠ X.env.locals:=λ b o e=>Nat.ne_of_lt (Nat.lt_of_lt_of_le (Heap.lt_size e) I.ok.above)
 refine h _ ⟨I.ok,I.os,I.bare,⟨λ b o e n hb hx=>(hs.2 b (low b o e)).trans (I.base.keep b o e n hb hx),λ b o e n hb hx=>?_,I.base.free,λ b o e hx=>?_,I.base.tups,I.base.frzs,I.base.tbls⟩,⟨_,hn',λ j y v' e1 e2 e3=>?_⟩,λ y c e=>?_,I.free,I.freeC,λ p hp=>?_,
  I.hok.trkd λ b u o e q=>(hs.2 b λ z=>by rw [z,I.free] at e; cases e).trans q,by simpa using I.len⟩
 ·obtain ⟨sl,e1⟩:=I.base.slot b o e n hb hx
  exact ⟨sl,(hs.2 b (low b o e)).trans e1⟩
 ·obtain ⟨o',e1⟩:=I.base.there b o e hx
  exact ⟨o',(hs.2 b (low b o e)).trans e1⟩
 ·by_cases hj:j=i
  ·subst hj
   rw [List.getElem?_set_self hiσ] at e2
   cases e2
  ·rw [List.getElem?_set_ne (Ne.symm hj)] at e2
   obtain ⟨u',r',q⟩:=hl j y v' e1 e2 e3
   refine ⟨u',r',?_⟩
   rcases q with ⟨k,e⟩ | ⟨k,c,e,z⟩
   ·refine .inl ⟨k,?_⟩
    have:y ≠ n:=λ e=>hj (nodup_ix hN e1 (e ▸ hi))
    simp [this,e]
   ·exact .inr ⟨k,c,e,z.sameBut hs (I.cne y c e)⟩
 ·obtain ⟨w',z⟩:=I.cell y c e
  exact ⟨w',z.sameBut hs (I.cne y c e)⟩
 ·obtain ⟨e,n,ne,nf,d⟩:=I.pin p hp
  exact ⟨(hs.2 p.1 ne).trans e,n,ne,nf,d⟩
end
theorem Fly.move {P:Program} {w:World} {outer:List Env} {H H':Hp} {s s':Shared} {a:Addr} {C:Value} {B:Heap} {a0:Value} {h':Heap} (un:Un (frs outer) [] H H' s.heap s'.heap) (hok:HOk P w H' s'.heap)
 (hf:Heap.FlyingW B outer a C a0 s'.heap) (k1:∀ b o,s.heap.get? b=some o->H b=none->b ∉ frs outer->B.get? b=some o) (k2:∀ b o,H' b=some o->∃ u,B.get? b=some u)
 (k3:∀ b o,s.heap.get? b=some o->b ∉ frs outer->∃ u,B.get? b=some u) (hb:B.StaysIn h') (hs:s'.heap.UpToSlots h'):Un (frs outer) [] H H' s.heap h'/\HOk P w H' h':=by
 refine ⟨⟨λ b o e n hb' _=>hb b o (k1 b o e n hb'),λ b o e n hb' _=>?_,un.free,λ b o e _=>?_,un.tups,un.frzs,un.tbls⟩,hok.trkd λ b u o e q=>?_⟩
 ·obtain ⟨sl,e1⟩:=un.slot b o e n hb' (by simp)
  obtain ⟨_,o3,e3,d3⟩:=hf.2.2.1.mem hb'
  rw [e1] at e3; cases e3
  obtain ⟨sl4,e4⟩:=hs b _ e1 d3
  exact ⟨sl4,e4⟩
 ·by_cases hb':b ∈ frs outer
  ·obtain ⟨o1,e1⟩:=un.there b o e (by simp)
   obtain ⟨_,o3,e3,d3⟩:=hf.2.2.1.mem hb'
   rw [e1] at e3; cases e3
   obtain ⟨sl,e4⟩:=hs b _ e1 d3
   exact ⟨_,e4⟩
  ·obtain ⟨u,e1⟩:=k3 b o e hb'
   exact ⟨u,hb b u e1⟩
 ·obtain ⟨u',e'⟩:=k2 b o e
  have:=hf.1 b u' e'
  rw [q] at this; cases this
  exact hb b u e'
abbrev XS:=Value->St->Hp->Prop
def PassX (P:Program) (w:World) (X:Cx) (Φ:XS):Prop:=∀ (pins:List (Addr × Obj)) (σ:St) (H:Hp) (s:Shared) (e:Value) (s':Shared),Inv X pins σ H s->CX1 P w X.stack H s (λ c _ H'=>Φ c σ H') e s'->X.xe e s'
def tCallX (sp:Sp) (dvs:List V) (Φ:XS) (t:TA):TE:=λ σ H Q=>t σ H λ vs H1=>sp (vs++dvs) H1 Q λ c _ H'=>Φ c σ H'
section
variable {X:Cx} {P:Program} {w:World} {k:Nat} {f:Addr} {fd:FuncData} {ps:List Str} {sp:Sp} {dvs:List V} {ds:List Value} {Φ:XS} {x:Str} {p pos:Pos} {e:Expr} {es:List Expr} {t:TA}
theorem pe_callX (F:FnOk X.prog X.w X.K X.mg X.base (CX1 P w) k f fd ps sp) (hr:Room k X.A) (hg:Gl X x) (hm:X.mg x=some (.ref f)) (hk:PySem.W.keepIn X.K (.ref f)=true) (hb:Binds X.K fd ps ds) (hd:Vals dvs ds) (hx:PassX P w X Φ)
 (ha:PA X (e::es) t) (hdb:(x == ("__debug__" : Str))=false:=by decide) (he:starEach (e::es) X.env=(false,eval e X.env)::starEach es X.env:=by rfl) (hpl:(backTo pos (starEach es X.env)).any (·.1)=false:=by rfl):
 PE X (.Call (.Name x p) (e::es) [] pos) (tCallX sp dvs Φ t):=by
 intro pins s σ H Q I h
 refine wpAny_Call_Name_kw (ld_glob I hg hm ?_ hdb)
 refine PySem.W.callWith_K (h₀:=X.base) I.ok.mod.kin hk (thn (ha pos pins s σ H _ I h) λ us s1 ⟨vs,H1,I1,r,q⟩=>⟨I1.kIn,?_⟩) he hpl
 have r2:Vals (vs++dvs) (us++ds):=r.append hd
 have hl:(us++ds).length=ps.length:=by rw [← r2.length]; exact F.len _ _ _ _ q
 refine wpAny_call (codeAny_mono (F.run X.A X.stack s1 H1 ⟨us,[]⟩ (us++ds) (vs++dvs) Q _ hr I1.env0 (hb s1 us I1.kIn hl) r2 q) λ r s' hq=>?_)
 cases r with
 | error e=>exact hx pins σ H1 s1 e s' I1 hq
 | ok fl =>
   cases fl with
   | ret u=>exact I1.after hq
   | next=>exact False.elim hq
   | brk=>exact False.elim hq
   | cont=>exact False.elim hq
end
def excO (a C:Addr):HO:=.ext (XT.ExcAt a C)
def Ends.hand (D:Ends) (i:Nat):Ends:={ nx:=λ σ H=>D.nx (σ.set i none) H,rt:=D.rt,bk:=λ σ H=>D.bk (σ.set i none) H,ct:=λ σ H=>D.ct (σ.set i none) H }
abbrev Pins:=List (Addr × Obj)
section
variable {X:Cx} {C:Addr} {i:Nat} {n x:Str} {body:List Stmt} {b₀:Stmt} {suite:List Stmt} {np hpos pos:Pos} {tb:Pins->(Value->Shared->Prop)->XS->TS} {th:Pins->Value->TS} {bmB:List Value} {newId:String}
end
end L2
set_option maxHeartbeats 4000000
namespace L2
open PySem PySem.Spec PyProof.Rows
section
variable {X:Cx}
theorem bits_of {x:Int} {m:Nat} (h:x.natAbs<2^m):Builtin.Int.intBits x<=m:=PySem.intBits_le_iff.mpr h
def CMulL (i j:Int):Prop:=i.natAbs<2^100000/\j.natAbs<2^100000
theorem log2_lt_of {n m:Nat} (hm:0<m) (h:n<2^m):n.log2<m:=by
 rcases Nat.eq_zero_or_pos n with h0 | hp
 ·rw [h0]; exact hm
 ·exact (Nat.log2_lt (Nat.ne_of_gt hp)).mpr h
def CDivL (_ j:Int):Prop:=j ≠ 0/\j.natAbs<2^8999
theorem op_fdivL:OpR X (binaryOp .FloorDiv) (rI CDivL λ i j=>.int (i.fdiv j)):=opI λ _ _ _ _ _ _ _ hc q=>floordiv_int hc.1 q (.inl (PyProof.noPylong_of_log2 (Nat.lt_trans (log2_lt_of (by decide) hc.2) (by decide))))
def rIsi (K:PySem.W.Frag):List V->Hp->VK->Prop:=λ xs H Q=>∃ x t T b,xs=[x,.ty T]/\TyOf K H x t/\PySem.W.kitOne K t (.type T)=some b/\Q (.bl b) H
theorem call_isi:CallR X (.builtin "isinstance") (rIsi X.K):=by
 intro pins s σ H vs us Q I r h
 obtain ⟨x,t,T,b,rfl,ty,e,q⟩:=h
 obtain ⟨u,c,rfl,rx,rc⟩:=vals2 r
 cases (show c=Value.type T from rc)
 exact isinst_ok I rx ty e λ tk=>⟨.bl b,H,I.tok tk,rfl,q⟩
theorem kit_same (K:PySem.W.Frag) (t:Value):PySem.W.kitOne K t t=some true:=by unfold PySem.W.kitOne; simp
theorem kit_int_bool (K:PySem.W.Frag):PySem.W.kitOne K (.type "int") (.type "bool")=some false:=by
 unfold PySem.W.kitOne PySem.W.kitCls PySem.W.subIn; kernel_rfl
def rIsiE (K:PySem.W.Frag):List V->Hp->VK->Prop:=λ xs H Q=>∃ a C c b,xs=[.ref a,c]/\H a=some (excO a C)/\XT.ExcK K C/\
 ((∃ D,c=.ref D/\PySem.W.kitOne K (.ref C) (.ref D)=some b)\/(∃ T,c=.ty T/\PySem.W.kitOne K (.ref C) (.type T)=some b)\/
   (∃ (p:Addr) (Ds:List Addr),c=.ref p/\H p=some (.tup (Ds.map V.ref))/\PySem.W.kitAny K (.ref C) (Ds.map Value.ref)=some b))/\Q (.bl b) H
theorem vals_refs:∀ {Ds:List Addr} {us:List Value},Vals (Ds.map V.ref) us->us=Ds.map Value.ref
 | [],_,.nil=>rfl
 | _::_,_,.cons r t=>by
   cases (show _=Value.ref _ from r)
   rw [vals_refs t]; rfl
theorem call_isiE:CallR X (.builtin "isinstance") (rIsiE X.K):=by
 intro pins s σ H vs us Q I r h
 obtain ⟨a,C,c,b,rfl,ha,Z,h,q⟩:=h
 obtain ⟨u,cv,rfl,rx,rc⟩:=vals2 r
 cases (show u=Value.ref a from rx)
 have hx:XT.ExcAt a C s.heap:=(I.hok a _ ha).1
 rcases h with ⟨D,rfl,e⟩ | ⟨T,rfl,e⟩ | ⟨p,Ds,rfl,hp,e⟩
 ·cases (show cv=Value.ref D from rc)
  exact PySem.W.kia_one (XT.kitx_exc Z) I.kIn hx e (λ z=>nomatch z) λ tk=>⟨.bl b,H,I.tok tk,rfl,q⟩
 ·cases (show cv=Value.type T from rc)
  exact PySem.W.kia_one (XT.kitx_exc Z) I.kIn hx e (λ z=>nomatch z) λ tk=>⟨.bl b,H,I.tok tk,rfl,q⟩
 ·cases (show cv=Value.ref p from rc)
  obtain ⟨_,its,rv,ot,h1,h2,n,h3⟩:=I.hok p _ hp
  obtain ⟨c0,dd,dat,sl⟩:=ot
  cases (show c0=_ from h2)
  cases (show dat=_ from h3)
  rw [vals_refs rv] at h1
  exact PySem.W.kia_tup (XT.kitx_exc Z) I.kIn hx h1 e (λ z=>nomatch z) λ tk=>⟨.bl b,H,I.tok tk,rfl,q⟩
def eqVs:List V->List V->Bool
 | [],[]=>true
 | x::xs,y::ys=>eqV x y && eqVs xs ys
 | _,_=>false
theorem eqVs_len:∀ {xs ys:List V},xs.length ≠ ys.length->eqVs xs ys=false
 | [],[],h=>absurd rfl h
 | [],_::_,_=>rfl
 | _::_,[],_=>rfl
 | x::xs,y::ys,h=>by
   unfold eqVs
   rw [eqVs_len (λ z=>h (by simp [z]))]; simp
theorem eqVs_all:∀ {xs ys:List V},xs.length=ys.length->(List.range xs.length).all (λ j=>eqV (xs.getD j .non) (ys.getD j .non))=eqVs xs ys
 | [],[],_=>rfl
 | [],_::_,h=>by simp at h
 | _::_,[],h=>by simp at h
 | x::xs,y::ys,h=>by
   have ih:=eqVs_all (xs:=xs) (ys:=ys) (by simpa using h)
   rw [List.length_cons,List.range_succ_eq_map,List.all_cons,List.all_map]
   unfold eqVs
   rw [← ih]
   rfl
theorem eqVs_refl:∀ {xs:List V},xs.all flatV=true->eqVs xs xs=true
 | [],_=>rfl
 | x::xs,h=>by
   rw [List.all_cons,Bool.and_eq_true] at h
   unfold eqVs
   rw [eqVs_refl h.2,Bool.and_true]
   cases x<;>first | rfl | (simp [eqV]; done) | exact absurd (show false=true from h.1) Bool.false_ne_true
theorem eqAt_items {A:Around} {s:Shared} {xs ys:List V} {us ws:List Value} (r:Vals xs us) (q:Vals ys ws) (fx:xs.all flatV=true) (fy:ys.all flatV=true) (j:Nat) (h1:j<us.toArray.size) (h2:j<ws.toArray.size):
 SeqAt.EqAt A s us.toArray[j] ws.toArray[j] (eqV (xs.getD j .non) (ys.getD j .non)):=by
 have l1:=r.length
 have l2:=q.length
 have h1':j<xs.length:=by simpa [l1] using h1
 have h2':j<ys.length:=by simpa [l2] using h2
 obtain ⟨u,hu,ru⟩:=r.get (i:=j) (x:=xs[j]) (List.getElem?_eq_getElem h1')
 obtain ⟨v,hv,rv⟩:=q.get (i:=j) (x:=ys[j]) (List.getElem?_eq_getElem h2')
 have e1:us.toArray[j]=u:=by
  have:=List.getElem?_eq_some_iff.mp hu
  obtain ⟨_,z⟩:=this; simpa using z
 have e2:ws.toArray[j]=v:=by
  have:=List.getElem?_eq_some_iff.mp hv
  obtain ⟨_,z⟩:=this; simpa using z
 rw [e1,e2,List.getD_eq_getElem?_getD,List.getD_eq_getElem?_getD,List.getElem?_eq_getElem h1',List.getElem?_eq_getElem h2']
 exact eqAt_V ru rv (List.all_eq_true.mp fx _ (List.getElem_mem h1')) (List.all_eq_true.mp fy _ (List.getElem_mem h2'))
def rEqL (K:PySem.W.Frag):R2:=λ x y H Q=>∃ a b xs ys,x=.ref a/\y=.ref b/\SqL K H a xs/\SqL K H b ys/\xs.all flatV=true/\ys.all flatV=true/\Q (.bl (eqVs xs ys)) H
theorem op_eqL (hu:X.A.units<cLine):OpR X (compareOp .Eq) (rEqL X.K):=by
 intro pins s σ H x y v u Q I rx ry h
 obtain ⟨a,b,xs,ys,rfl,rfl,ha,hb,fx,fy,q⟩:=h
 cases (show v=Value.ref a from rx)
 cases (show u=Value.ref b from ry)
 obtain ⟨its,rv,p,_⟩:=I.list ha
 obtain ⟨its2,rv2,p2,_⟩:=I.list hb
 have l1:=rv.length
 have l2:=rv2.length
 by_cases hz:xs.length=ys.length
 ·refine SeqAt.eq_listAt (e:=λ j=>eqV (xs.getD j .non) (ys.getD j .non)) p.isList p2.isList (by simp [← l1,← l2,hz]) hu (λ j h1 h2=>eqAt_items rv rv2 fx fy j h1 h2) ?_
  have e:(List.range its.toArray.size).all (λ j=>eqV (xs.getD j .non) (ys.getD j .non))=eqVs xs ys:=by
   rw [← eqVs_all hz]; simp [← l1]
  rw [e]
  exact ⟨.bl _,H,I,rfl,q⟩
 ·rw [eqVs_len hz] at q
  exact SeqAt.eq_list_lengthsAt p.isList p2.isList (by simp [← l1,← l2,hz]) hu ⟨.bl _,H,I,rfl,q⟩
def Itrs (lo st:Int) (n:Nat):It:=⟨λ i _=>i<n,λ i H x H'=>H'=H/\x=.int (lo+i*st),λ i _=>n<=i⟩
theorem turn_ranges {P:Program} {w:World} {K:PySem.W.Frag} {tg:Expr} (it:Addr) (lo c:Int) (n:Nat):Turn P w K tg (Itrs lo c n) [it] it (λ i h=>IsRangeIter h it (lo+(i:Nat)*c) ((n:Int)-(i:Nat)) c) where
 mem:=by simp
 obj:=λ i h st b hb=>by
  have e:b=it:=by simpa using hb
  subst e
  exact ⟨_,st,λ v z=>by
   have z':Data.fields _=Data.cell v:=z
   cases z'⟩
 keep:=λ i h h' st k=>k it (by simp) _ st
 item:=by
  intro X hP hw hK hc i pins s σ H E I hf st hg
  subst hP hw hK
  obtain ⟨f0,f1,f2,f3,f4,f5⟩:=hf it (by simp)
  have W:=Walks.range (prog:=X.prog) (w:=X.w) (I.ok.hd hc) it lo c n
  refine W.item i s _ _ hg st λ v h' tk hv st' kk=>?_
  obtain ⟨t,rfl⟩:=hv
  have I1:Inv X pins σ H { s with heap:=h',toks:=tk }:=I.turned (λ b o hb e=>kk b o (by simpa using hb) e) f0 f1 f3 f4 f5
  exact ⟨_,rfl,go_of (s:={ s with heap:=h',toks:=tk }) (n := "range_iterator") st' rfl rfl (by decide) ⟨.int (lo+i*c),H,I1,⟨t,rfl⟩,⟨rfl,rfl⟩,st',λ b hb=>(hf b hb).1⟩⟩
 done:=by
  intro X hP hw hK hc i pins s σ H E I hf st hg
  subst hP hw hK
  obtain ⟨f0,f1,f2,f3,f4,f5⟩:=hf it (by simp)
  exact wpAny_pyNext_range_end (I.ok.hd hc) st (by have:n<=i:=hg; omega) λ h' eb=>⟨rfl,I.turned (t':=s.toks) (λ b o hb e=>eb b o hb e) f0 f1 f3 f4 f5⟩
 self:=λ _ _ _ _ _ st h=>wpAny_pyIter_rangeiter st h
def iRng3 (ta:TA):TI:=λ σ H R=>ta σ H λ vs H1=>∃ i j c:Int,vs=[.int i,.int j,.int c]/\(0<=i/\i<2^62/\0<=j/\j<2^62/\0<c/\c<2^30)/\R (Itrs i c (Builtin.Range.rangeSize i j c).toNat) H1
theorem rangeSize_in {i j c:Int} (h1:0<=i) (h2:i<2^62) (h3:0<=j) (h4:j<2^62) (h5:0<c) (h6:c<2^30):0<=Builtin.Range.rangeSize i j c/\Builtin.Range.small i j c=true:=by
 have q:(j-i-1) / c<=(if i<j then j-i-1 else 0)\/¬ i<j:=by
  by_cases z:i<j
  ·left; rw [if_pos z]; exact Int.ediv_le_self _ (by omega)
  ·right; exact z
 have q2:i<j->0<=(j-i-1) / c:=λ z=>Int.ediv_nonneg (by omega) (by omega)
 have e:Builtin.Range.rangeSize i j c=if i<j then (j-i-1) / c+1 else 0:=by unfold Builtin.Range.rangeSize; rw [if_pos h5]
 unfold Builtin.Range.small
 rw [e]
 simp only [Builtin.Range.rangeFitsLong,Bool.and_eq_true,Bool.or_eq_true,decide_eq_true_eq,beq_iff_eq]
 by_cases z:i<j
 ·rw [if_pos z] at q
  have:=q2 z
  rw [if_pos z,if_pos (show c>0 from h5)]
  simp only [decide_eq_true_eq,Bool.and_eq_true]
  omega
 ·rw [if_neg z]
  omega
variable {tg:Expr}
theorem pi_range3 {a b c:Expr} {ta:TA} {p pos:Pos} (hg:Gl X "range") (hm:X.mg "range" = none) (ha:PA X [a,b,c] ta) (hs:starEach [a,b,c] X.env=(false,eval a X.env)::starEach [b,c] X.env:=by rfl) (hs2:(backTo pos (starEach [b,c] X.env)).any (·.1)=false:=by rfl):
 PI X tg (.Call (.Name "range" p) [a,b,c] [] pos) (iRng3 ta):=by
 intro pins s σ H R I h
 refine Call_ (ld_blt I hg hm boot_range (PyProof.Rows.callWith_type1 (thn (ha pos pins s σ H _ I h) λ us s1 ⟨vs,H1,I1,r1,q1⟩=>?_) hs hs2))
 obtain ⟨i,j,c,e,⟨h1,h2,h3,h4,h5,h6⟩,q⟩:=q1
 subst e
 cases r1 with
 | cons r rr =>
   cases rr with
   | cons r' rr =>
     cases rr with
     | cons r'' rr =>
       cases rr
       obtain ⟨t,rfl⟩:=r
       obtain ⟨t',rfl⟩:=r'
       obtain ⟨t'',rfl⟩:=r''
       have z:=rangeSize_in h1 h2 h3 h4 h5 h6
       refine call_range_3 (by omega) ?_ (.inl (PyProof.noPylong_small (by omega)))
       refine wpAny_pyIter_range (IsRange.new ..) z.2 ?_
       have I2:Inv X pins σ H1 { s1 with heap:=s1.heap.push { cls:=.type "range",data:=.fields #[.int i t,.int j t',.int c t''] },toks:=s1.toks }:=I1.kept λ b o e=>Heap.get?_push_of_some _ e
       refine ⟨(s1.heap.push { cls:=.type "range",data:=.fields #[.int i t,.int j t',.int c t''] }).objs.size,[(s1.heap.push { cls:=.type "range",data:=.fields #[.int i t,.int j t',.int c t''] }).objs.size],_,_,H1,rfl,
        I2.kept (t':=s1.toks) λ b o e=>Heap.get?_push_of_some _ e,turn_ranges _ i c (Builtin.Range.rangeSize i j c).toNat,?_,λ b hb=>?_,q⟩
       ·have e1:i+((0:Nat):Int)*c=i:=by simp
        have e2:(((Builtin.Range.rangeSize i j c).toNat:Nat):Int)-((0:Nat):Int)=Builtin.Range.rangeSize i j c:=by have:=z.1; omega
        show IsRangeIter _ _ (i+((0:Nat):Int)*c) ((((Builtin.Range.rangeSize i j c).toNat:Nat):Int)-((0:Nat):Int)) c
        rw [e1,e2]
        exact Heap.get?_push_size _ rfl
       ·have e:b=(s1.heap.push { cls:=.type "range",data:=.fields #[.int i t,.int j t',.int c t''] }).objs.size:=by simpa using hb
        subst e
        exact I2.fpOk (Nat.le_refl _) (I2.hok.fresh (Nat.le_refl _))
end
theorem for_ranges {lo st:Int} {n:Nat} {g:TG} {tb:TS} {D:Ends} {σ:St} {H:Hp} (Pv:Nat->St->Hp->Prop) (h0:Pv 0 σ H)
 (hs:∀ i σ H,i<n->Pv i σ H->g (.int (lo+i*st)) σ H λ σ2 H2=>tb { D with nx:=Pv (i+1),ct:=Pv (i+1),bk:=D.nx } σ2 H2) (hd:∀ σ H,Pv n σ H->D.nx σ H):
 ∃ W:Nat->Nat->St->Hp->Prop,(∃ m,W 0 m σ H)/\∀ i m σ H,W i m σ H->
   ((Itrs lo st n).stop i H/\D.nx σ H)\/((Itrs lo st n).go i H/\∃ N:St->Hp->Prop,(∀ σ' H',N σ' H'->∃ m',m'<m/\W (i+1) m' σ' H')/\∀ x H',(Itrs lo st n).yld i H x H'->g x σ H' λ σ2 H2=>tb { D with nx:=N,ct:=N,bk:=D.nx } σ2 H2):=by
 refine ⟨λ i m σ H=>m=n-i/\i<=n/\Pv i σ H,⟨n,by simp,Nat.zero_le _,h0⟩,?_⟩
 rintro i m σ H ⟨rfl,hi,p⟩
 by_cases hlt:i<n
 ·refine .inr ⟨hlt,Pv (i+1),λ σ' H' p'=>⟨n-(i+1),by omega,rfl,hlt,p'⟩,λ x H' y=>?_⟩
  obtain ⟨e,y⟩:=y
  subst e y
  exact hs i σ _ hlt p
 ·have e:i=n:=by omega
  subst e
  exact .inl ⟨Nat.le_refl _,hd σ H p⟩
section
variable {P:Program} {w:World} {K:PySem.W.Frag} {mg:Str->Option Value} {base:Heap}
theorem Fun.okx {x qual:Str} {st:Stmt} {f:Addr} {fd:FuncData} {N ps:List Str} {k:Nat} {sp:Sp} (F:Fun K x qual st f fd) (S:FnScope N ps (defScope st)) (len:∀ vs H Q E,sp vs H Q E->vs.length=ps.length)
 (hbody:∀ (cdv:Value) (A:Around) (outer:List Env) (s:Shared) (H:Hp) (vs:List V) (Q:VK) (E:XK),Room k (A.deeper (envOfC qual (defScope st) s.heap.objs.size f cdv))->sp vs H Q E->
  ∃ t,PSs (cxOf (CX1 P w) P w K mg base N qual (defScope st) f cdv A outer s H E) (defBody st) t/\t { nx:=λ _ H'=>Q .non H',rt:=Q } (start N vs) H):FnOk P w K mg base (CX1 P w) (k+1) f fd ps sp:=by
 obtain ⟨oc,od,kV,doc,pm,an,cdv,ct,osl,rfl,lk,hcd⟩:=F.ex
 refine fn_of lk hcd S len λ A outer s H vs Q E hr hsp=>?_
 exact hbody cdv A outer s H vs Q E hr hsp
theorem Fun.okn {x qual:Str} {st:Stmt} {f:Addr} {fd:FuncData} {N ps:List Str} {k:Nat} {sp:Sp} (F:Fun K x qual st f fd) (S:FnScope N ps (defScope st)) (len:∀ vs H Q E,sp vs H Q E->vs.length=ps.length)
 (hbody:∀ (cdv:Value) (A:Around) (outer:List Env) (s:Shared) (H:Hp) (vs:List V) (Q:VK) (E:XK),Room k (A.deeper (envOfC qual (defScope st) s.heap.objs.size f cdv))->sp vs H Q E->
  ∃ t,PSs (cxOf (CX1 P w) P w K mg base N qual (defScope st) f cdv A outer s H E).nox (defBody st) t/\t { nx:=λ _ H'=>Q .non H',rt:=Q } (start N vs) H):FnOk P w K mg base (CX1 P w) (k+1) f fd ps sp:=by
 obtain ⟨oc,od,kV,doc,pm,an,cdv,ct,osl,rfl,lk,hcd⟩:=F.ex
 refine fn_of lk hcd S len λ A outer s H vs Q E hr hsp=>?_
 obtain ⟨t,h,q⟩:=hbody cdv A outer s H vs Q E hr hsp
 exact ⟨t,h.nox,q⟩
end
end L2
set_option maxHeartbeats 4000000
namespace L2
open PySem PySem.Spec PyProof.Rows
section
variable {X:Cx}
theorem op_no {f:Value->Value->Sem Value}:OpR X f (λ _ _ _ _=>False):=λ _ _ _ _ _ _ _ _ _ _ _ _ h=>h.elim
def oLt:=(op_lt (X:=X)).or op_lt_str
def isiAny:=(call_isi (X:=X)).or call_isiE
def ixAny:=ix_seq (X:=X)
theorem mt_app:MtR X "list.append" rAppend:=mt_append (X:=X)
end
theorem cls_of_mro {K:PySem.W.Frag} {C:Addr} {b:Value} {r:Bool} (h:PySem.W.mroIn K C b=some r):(PySem.W.clsIn K C).isSome=true:=by
 unfold PySem.W.mroIn at h
 cases q:PySem.W.clsIn K C with
 | none=>rw [q] at h; cases h
 | some c=>rfl
end L2
set_option maxHeartbeats 4000000
namespace L2
open PySem PySem.Spec PyProof.Rows
section
variable {X:Cx}
def cutL (xs:List Nat) (lo hi:Option Int):List Nat:=(xs.drop (HT.sIx xs.length 0 lo)).take (HT.sIx xs.length xs.length hi-HT.sIx xs.length 0 lo)
def cutS (z:Str) (lo hi:Option Int):Str:=⟨(cutL z.cps.toList lo hi).toArray⟩
theorem slice_cutS (z:Str) (lo hi:Option Int):Txt.slice z lo hi=cutS z lo hi:=by
 obtain ⟨h1,h2,_⟩:=slice_bounds lo hi z.length
 have e:Builtin.Str.strSliceIndices lo hi 1 z.length=sliceRange (sliceBounds lo hi none z.length).1 (sliceBounds lo hi none z.length).2.1 1:=rfl
 have hl:z.cps.toList.length=z.length:=by rw [Array.length_toList]; rfl
 rw [h1,h2,sliceRange_one] at e
 have hb:=HT.sIx_le z.length z.length (Nat.le_refl _) hi
 unfold Txt.slice cutS cutL
 rw [e,pick_run,hl]
 split
 ·rename_i q
  rw [List.length_map,List.length_range] at q
  have q':HT.sIx z.length z.length hi-HT.sIx z.length 0 lo=z.length:=by simpa using q
  obtain ⟨cps⟩:=z
  have hz:(⟨cps⟩:Str).length=cps.size:=rfl
  have:(cps.toList.drop (HT.sIx (Str.length ⟨cps⟩) 0 lo)).take (HT.sIx (Str.length ⟨cps⟩) (Str.length ⟨cps⟩) hi-HT.sIx (Str.length ⟨cps⟩) 0 lo)=cps.toList:=by
   rw [q',hz]
   rcases Nat.eq_zero_or_pos cps.size with z0 | zp
   ·have:cps.toList=[]:=List.eq_nil_of_length_eq_zero (by simpa using z0)
    rw [this]; simp
   ·have:HT.sIx cps.size 0 lo=0:=by rw [hz] at q' hb; omega
    rw [this,List.drop_zero,List.take_of_length_le (by rw [Array.length_toList]; exact Nat.le_refl _)]
  show (⟨cps⟩:Str)=⟨((cps.toList.drop (HT.sIx (Str.length ⟨cps⟩) 0 lo)).take (HT.sIx (Str.length ⟨cps⟩) (Str.length ⟨cps⟩) hi-HT.sIx (Str.length ⟨cps⟩) 0 lo)).toArray⟩
  rw [this]
 ·rfl
def rSlS:V->Option Int->Option Int->Hp->VK->Prop:=λ x lo hi H Q=>∃ z:Str,x=.str z/\z.length<=sizeLine/\Q (.str (cutS z lo hi)) H
theorem sl_str:SlR X rSlS:=by
 intro pins s σ H x v vl vu lo hi sl Q I rx hs pl pu h
 obtain ⟨z,rfl,hz,q⟩:=h
 obtain ⟨t,rfl⟩:=rx
 refine ⟨"str",_,F.slot_str_getitem.lookup,typeIs_str _ _ _,?_⟩
 rw [← slice_cutS] at q
 have fin:∀ (t':Tok) (k:Nat),EP X pins σ Q (.str (Txt.slice z lo hi) t') { s with toks:=k }:=λ t' k=>⟨.str _,H,I.tok k,⟨t',rfl⟩,q⟩
 have hl:=Nat.le_trans (Txt.slice_le z lo hi) hz
 cases pl with
 | none =>
   cases pu with
   | none=>exact wpAny_getItem_str_slice (l:=none) (u:=none) (st:=none) hs rfl (post_val_or_str ⟨hl,fin⟩)
   | int j tj=>exact wpAny_getItem_str_slice (l:=none) (u:=some (j,tj)) (st:=none) hs rfl (post_val_or_str ⟨hl,fin⟩)
 | int i ti =>
   cases pu with
   | none=>exact wpAny_getItem_str_slice (l:=some (i,ti)) (u:=none) (st:=none) hs rfl (post_val_or_str ⟨hl,fin⟩)
   | int j tj=>exact wpAny_getItem_str_slice (l:=some (i,ti)) (u:=some (j,tj)) (st:=none) hs rfl (post_val_or_str ⟨hl,fin⟩)
def slAny:=(sl_list (X:=X)).or sl_str
def Its (z:Str):It:=⟨λ i _=>i<z.length,λ i H x H'=>H'=H/\∃ c,z.cps.toList[i]?=some c/\x=.str ⟨#[c]⟩,λ i _=>z.length<=i⟩
theorem turn_str {P:Program} {w:World} {K:PySem.W.Frag} {nm:Str} {np:Pos} {ty:String} (it:Addr) (z:Str) (t:Tok)
 (hi:∀ (A:Around) (s:Shared) (i c:Nat) (Q:Option Value->Shared->Prop) (E:Value->Shared->Prop),s.heap.IsStrIter it ty z t i->z.cps[i]?=some c->
  (∀ h',h'.IsStrIter it ty z t (i+1)->Heap.SameBut it s.heap h'->Q (some (.str ⟨#[c]⟩ s.toks)) { s with heap:=h',toks:=s.toks+1 })->wpAny (model P w) A (pyNext (.ref it)) Q E s)
 (he:∀ (A:Around) (s:Shared) (i:Nat) (Q:Option Value->Shared->Prop) (E:Value->Shared->Prop),A.handled=none->s.heap.IsStrIter it ty z t i->z.cps[i]?=none->
  (∀ h',Heap.ExtBut it s.heap h'->Q none { s with heap:=h' })->wpAny (model P w) A (pyNext (.ref it)) Q E s)
 (hse:∀ (A:Around) (s:Shared) (i:Nat) (Q:Value->Shared->Prop) (E:Value->Shared->Prop),s.heap.IsStrIter it ty z t i->Q (.ref it) s->wpAny (model P w) A (pyIter (.ref it)) Q E s):
 Turn P w K (.Name nm np) (Its z) [it] it (λ i h=>h.IsStrIter it ty z t i) where
 mem:=by simp
 obj:=λ i h st b hb=>by
  have e:b=it:=by simpa using hb
  subst e
  obtain ⟨o,ho,_,hd⟩:=st
  exact ⟨o,ho,λ v q=>by rw [hd] at q; cases q⟩
 keep:=λ i h h' st k=>by
  obtain ⟨o,ho,r⟩:=st
  exact ⟨o,k it (by simp) o ho,r⟩
 item:=by
  intro X hP hw hK hc i pins s σ H E I hf st hg
  subst hP hw hK
  obtain ⟨f0,f1,f2,f3,f4,f5⟩:=hf it (by simp)
  have hg':i<z.cps.size:=hg
  refine hi X.A s i z.cps[i] _ E st (by simp [hg']) λ h' st' sb=>?_
  have I1:Inv X pins σ H { s with heap:=h',toks:=s.toks+1 }:=I.turned (λ b o hb e=>(sb.2 b hb).trans e) f0 f1 f3 f4 f5
  exact ⟨_,rfl,wpAny_pure ⟨.str ⟨#[z.cps[i]]⟩,H,I1,⟨_,rfl⟩,⟨rfl,z.cps[i],by rw [Array.getElem?_toList]; simp [hg'],rfl⟩,st',λ b hb=>(hf b hb).1⟩⟩
 done:=by
  intro X hP hw hK hc i pins s σ H E I hf st hg
  subst hP hw hK
  obtain ⟨f0,f1,f2,f3,f4,f5⟩:=hf it (by simp)
  have hg':z.cps.size<=i:=hg
  exact he X.A s i _ E (I.ok.hd hc) st (by simp [hg']) λ h' eb=>⟨rfl,I.turned (t':=s.toks) (λ b o hb e=>eb b o hb e) f0 f1 f3 f4 f5⟩
 self:=λ A i s Q E st h=>hse A s i Q E st h
theorem PI.or {tg iter:Expr} {te:TE} {f g:V->Hp->(It->Hp->Prop)->Prop} (h:PI X tg iter (λ σ H R=>te σ H λ x H1=>f x H1 R)) (h':PI X tg iter (λ σ H R=>te σ H λ x H1=>g x H1 R)) (he:PE X iter te)
 (hf:∀ pins s σ H x v R,Inv X pins σ H s->RelV x v->f x H R->wpAny (model X.prog X.w) X.A (pyIter v) (PIE X pins σ tg R) X.xe s)
 (hg:∀ pins s σ H x v R,Inv X pins σ H s->RelV x v->g x H R->wpAny (model X.prog X.w) X.A (pyIter v) (PIE X pins σ tg R) X.xe s):
 PI X tg iter (λ σ H R=>te σ H λ x H1=>f x H1 R\/g x H1 R):=by
 intro pins s σ H R I hq
 refine thn (he pins s σ H _ I hq) λ v s1 ⟨x,H1,I1,r1,q1⟩=>?_
 rcases q1 with q1 | q1
 ·exact hf pins s1 σ H1 x v R I1 r1 q1
 ·exact hg pins s1 σ H1 x v R I1 r1 q1
def repS (z:Str) (n:Int):Str:=⟨(List.replicate n.toNat z.cps.toList).flatten.toArray⟩
theorem foldl_cps (a:Array Nat):∀ (k:Nat) (acc:Array Nat),(List.replicate k a).foldl (·++·) acc=acc++((List.replicate k a.toList).flatten).toArray
 | 0,acc=>by simp
 | k+1,acc=>by
   rw [List.replicate_succ,List.foldl_cons,foldl_cps a k,List.replicate_succ,List.flatten_cons]
   apply Array.ext'
   simp [List.append_assoc]
theorem mul_repS {z:Str} {n:Int}:Txt.mul z n=repS z n:=by
 unfold Txt.mul repS
 by_cases h:n<1
 ·rw [if_pos h,show n.toNat=0 by omega]; rfl
 rw [if_neg h]
 split
 ·rename_i q
  obtain ⟨cps⟩:=z
  rw [Bool.or_eq_true] at q
  rcases q with q | q
  ·have:n=1:=by simpa using q
   subst this
   show (⟨cps⟩:Str)=⟨([cps.toList].flatten).toArray⟩
   simp
  ·have:(⟨cps⟩:Str).length=0:=by simpa using q
   have:cps.size=0:=this
   have e:cps.toList=[]:=List.eq_nil_of_length_eq_zero (by simpa using this)
   have e2:(List.replicate n.toNat cps.toList).flatten=[]:=by rw [e]; simp
   show (⟨cps⟩:Str)=⟨((List.replicate n.toNat cps.toList).flatten).toArray⟩
   rw [e2,← e]
 ·rw [foldl_cps]; simp
theorem op_mul_str:OpR X (binaryOp .Mult) (λ x y H Q=>∃ z n,x=.str z/\y=.int n/\0<=n/\n<=4000/\z.length<=4000/\Q (.str (repS z n)) H):=by
 intro pins s σ H x y v u Q I rx ry h
 obtain ⟨z,n,rfl,rfl,h0,h1,hz,q⟩:=h
 obtain ⟨t,rfl⟩:=rx
 obtain ⟨t',rfl⟩:=ry
 rw [← mul_repS] at q
 have hs:sizeLine=16777216:=sizeLine_eq
 have hm:z.length*n.toNat<=4000*4000:=Nat.mul_le_mul hz (by omega)
 refine SB.mul ⟨by rw [decide_eq_false (by omega),decide_eq_false (by omega)]; rfl,λ h _ hh=>?_,λ _ _=>?_⟩ λ t' k=>⟨.str _,H,I.tok k,⟨t',rfl⟩,q⟩
 ·have hn:0<n:=by
   rcases Int.lt_or_eq_of_le h0 with z | z
   ·exact z
   ·subst z; trivial
  have:(z.length:Int)<=(2^63-1) / n:=Int.le_ediv_of_mul_le hn (Int.le_trans (Int.mul_le_mul (Int.ofNat_le.mpr hz) h1 h0 (by omega)) (by decide))
  omega
 ·unfold Builtin.Str.tooLong
  rw [hs]
  exact decide_eq_false (by omega)
theorem op_le_str:OpR X (compareOp .LtE) (λ x y H Q=>∃ i j,x=.str i/\y=.str j/\Q (.bl (!decide (j.cps.toList<i.cps.toList))) H):=by
 intro pins s σ H x y v u Q I rx ry h
 obtain ⟨i,j,rfl,rfl,q⟩:=h
 obtain ⟨t,rfl⟩:=rx
 obtain ⟨t',rfl⟩:=ry
 exact P.le_str ⟨.bl _,H,I,rfl,q⟩
end
end L2
set_option maxHeartbeats 4000000
namespace L2
open PySem PySem.Spec PyProof.Rows
theorem closure_go {env:Env}:∀ (names:List (Str × NameKind)) (acc:List (Str × Addr)),(∀ p ∈ names,p.2=.free->∃ c,env.cells.lookup p.1=some c)->(∀ x c,acc.lookup x=some c->env.cells.lookup x=some c)->
 ∃ cl,(forIn names acc λ (x:Str × NameKind) (r:List (Str × Addr))=>if (x.2 == NameKind.free)=true then (cellOf env x.1 >>= λ c=>(pure (ForInStep.yield ((x.1,c)::r)):Sem _)) else (pure (ForInStep.yield r):Sem _))=pure cl/\
   (∀ x c,cl.lookup x=some c->env.cells.lookup x=some c)/\(∀ x c,acc.lookup x=some c->∃ c',cl.lookup x=some c')/\∀ x,(x,NameKind.free) ∈ names->∃ c,cl.lookup x=some c
 | [],acc,_,h2=>⟨acc,rfl,h2,λ x c e=>⟨c,e⟩,λ _ z=>nomatch z⟩
 | (n,k)::r,acc,h1,h2=>by
   rw [List.forIn_cons]
   by_cases hk:k=.free
   ·subst hk
    obtain ⟨c,hc⟩:=h1 (n,.free) List.mem_cons_self rfl
    have e:cellOf env n=pure c:=by unfold cellOf; rw [hc]
    have sub:∀ x c',((n,c)::acc).lookup x=some c'->env.cells.lookup x=some c':=λ x c' q=>by
     rw [List.lookup_cons] at q
     cases hx:x == n with
     | true=>rw [hx] at q; cases q; rw [eq_of_beq hx]; exact hc
     | false=>rw [hx] at q; exact h2 x c' q
    obtain ⟨cl,q1,q2,q3,q4⟩:=closure_go r ((n,c)::acc) (λ p hp=>h1 p (List.mem_cons_of_mem _ hp)) sub
    refine ⟨cl,?_,q2,λ x c' e'=>?_,λ x hx=>?_⟩
    ·show ((if (NameKind.free == NameKind.free)=true then (cellOf env n >>= λ c=>pure (ForInStep.yield ((n,c)::acc))) else pure (ForInStep.yield acc)) >>= _)=_
     rw [if_pos (show (NameKind.free == NameKind.free)=true by decide),e,pure_bind,pure_bind]; exact q1
    ·cases hx:x == n with
     | true=>exact q3 x c (by rw [List.lookup_cons,hx])
     | false=>exact q3 x c' (by rw [List.lookup_cons,hx]; exact e')
    ·rcases List.mem_cons.mp hx with z | z
     ·cases z; exact q3 n c (by rw [List.lookup_cons,beq_self_eq_true])
     ·exact q4 x z
   ·have hb:(k == NameKind.free)=false:=by simpa using hk
    obtain ⟨cl,q1,q2,q3,q4⟩:=closure_go r acc (λ p hp=>h1 p (List.mem_cons_of_mem _ hp)) h2
    refine ⟨cl,?_,q2,q3,λ x hx=>?_⟩
    ·show ((if (k == NameKind.free)=true then _ else pure (ForInStep.yield acc)) >>= _)=_
     rw [if_neg (by rw [hb]; exact Bool.false_ne_true),pure_bind]; exact q1
    ·rcases List.mem_cons.mp hx with z | z
     ·cases z; exact absurd rfl hk
     ·exact q4 x z
theorem closure_of {env:Env} {scope:Scope} (h:∀ p ∈ scope.names,p.2=.free->∃ c,env.cells.lookup p.1=some c):
 ∃ cl,closureFor scope env=pure cl/\(∀ x c,cl.lookup x=some c->env.cells.lookup x=some c)/\∀ x,(x,NameKind.free) ∈ scope.names->∃ c,cl.lookup x=some c:=by
 obtain ⟨cl,q1,q2,_,q4⟩:=closure_go scope.names [] h (λ _ _ z=>nomatch z)
 refine ⟨cl,?_,q2,q4⟩
 unfold closureFor
 dsimp only
 rw [q1]
 rfl
theorem lookup_mem':∀ {l:List (Str × NameKind)} {x:Str} {k:NameKind},l.lookup x=some k->(x,k) ∈ l
 | (n,k')::r,x,k,h=>by
   rw [List.lookup_cons] at h
   cases hx:x == n with
   | true=>rw [hx] at h; cases h; rw [eq_of_beq hx]; exact List.mem_cons_self
   | false=>rw [hx] at h; exact List.mem_cons_of_mem _ (lookup_mem' h)
theorem relabel_cell {scope:Scope} {env:Env} {x:Str} (hc:∀ p ∈ scope.names,p.2 ≠ .cell) (h:(relabel scope env).names.lookup x=some .cell\/(relabel scope env).names.lookup x=some .free):(x,NameKind.free) ∈ scope.names:=by
 have:∃ k,(x,k) ∈ (relabel scope env).names/\(k=.cell\/k=.free):=by
  rcases h with h | h
  ·exact ⟨_,lookup_mem' h,.inl rfl⟩
  ·exact ⟨_,lookup_mem' h,.inr rfl⟩
 obtain ⟨k,hm,hk⟩:=this
 obtain ⟨⟨n,k0⟩,hp,e⟩:=List.mem_map.mp hm
 dsimp only at e
 split at e
 ·rename_i q
  cases e
  have:k0=.free:=by
   rw [Bool.and_eq_true,Bool.and_eq_true] at q
   exact eq_of_beq q.1.1
  rw [this] at hp; exact hp
 ·cases e
  rcases hk with rfl | rfl
  ·exact absurd rfl (hc _ hp)
  ·exact hp
theorem relabel_free {env:Env}:∀ {names:List (Str × NameKind)} {x:Str},names.lookup x=some .free->
 (names.map λ (n,k)=>if (k == NameKind.free && env.scope.kind == .function && env.kindOf n == some .cell) then (n,NameKind.cell) else (n,k)).lookup x ≠ some .local
 | [],_,h=>nomatch h
 | (n,k)::r,x,h=>by
   rw [List.map_cons]
   rw [List.lookup_cons] at h
   dsimp only
   cases hx:x == n with
   | true =>
     rw [hx] at h
     cases h
     split
     ·rw [List.lookup_cons,hx]; intro z; cases z
     ·rw [List.lookup_cons,hx]; intro z; cases z
   | false =>
     rw [hx] at h
     split
     ·rw [List.lookup_cons,hx]; exact relabel_free h
     ·rw [List.lookup_cons,hx]; exact relabel_free h
structure CP where
 cl:List (Str × Addr)
 C:Addr
 s:Shared
 H:Hp
 fp:List Addr
def Cx.compC (X:Cx) (N:List Str) (scope:Scope) (c:CP):Cx :=
 { X with N:=N,s₀:=c.s,H₀:=c.H,env:=compEnvC scope c.cl c.C X.env,outer:=X.stack,ex:=c.fp,fn:=λ _=>false,pn:=[],xe:=λ _ _=>False }
abbrev Cx.comp (X:Cx) (N:List Str) (scope:Scope) (cl:List (Str × Addr)) (C:Addr) (s:Shared) (H:Hp) (fp:List Addr):Cx:=X.compC N scope ⟨cl,C,s,H,fp⟩
section
variable {X:Cx} {pins:List (Addr × Obj)} {σ:St} {H:Hp} {s:Shared} {N:List Str} {scope:Scope} {cl:List (Str × Addr)} {C:Addr} {fp:List Addr}
theorem Inv.compOk (I:Inv X pins σ H s) (hf:∀ b ∈ fp,FpOk X pins H b) (hlt:∀ b ∈ fp,b<s.heap.objs.size) (hC:s.heap.objs.size<=C) (hkind:scope.kind=.function) (hcell:∀ p ∈ scope.names,p.2 ≠ .cell)
 (h1:∀ x c,cl.lookup x=some c->X.env.cells.lookup x=some c) (h2:∀ x,(x,NameKind.free) ∈ scope.names->∃ c,cl.lookup x=some c):(X.comp N scope cl C s H fp).Ok where
 mod:=I.ok.mod
 kind:=hkind
 glob:=I.ok.glob
 blt:=I.ok.blt
 above:=hC
 inj:=λ x y c e1 e2=>I.ok.inj x y c (h1 x c e1) (h1 y c e2)
 has:=λ x h=>h2 x (relabel_cell hcell h)
 cab:=λ _ _ z=>nomatch z
 hd:=I.ok.hd
 frames:=I.ok.frames
 stk:=.inl rfl
 exf:=λ b hb=>⟨λ z=>Nat.lt_irrefl _ (Nat.lt_of_lt_of_le (hlt b hb) (by rw [z]; exact hC)),λ x c e=>(hf b hb).2.2.2.2.1 x c (h1 x c e)⟩
 bs:=I.bs
 bsz:=Nat.le_trans I.ok.bsz I.sz
 noex:=λ b o e hb=>by
  rcases (hf b hb).2.2.2.1 with z | z
  ·exact I.ok.noex b o e z
  ·exact absurd (Nat.lt_of_lt_of_le (Heap.lt_size e) (Nat.le_trans I.ok.bsz z)) (Nat.lt_irrefl _)
 exfs:=λ b hb z=>by
  rcases List.mem_cons.mp (I.stkSub b z) with e | e
  ·exact (hf b hb).2.1 e
  ·exact (hf b hb).2.2.1 e
 funs:=I.stack
 frf:=I.stkFree
end
def compSt (cap:List (Option Nat)) (σ:St):St:=cap.map λ o=>match o with
 | none=>none
 | some j=>(σ[j]?).join
def PIfs (X:Cx) (ifs:List Expr) (t:TT):Prop:=∀ (pins:List (Addr × Obj)) (s:Shared) (σ:St) (H:Hp) (Q:Bool->Hp->Prop),Inv X pins σ H s->t σ H Q->
 wpAny (model X.prog X.w) X.A (forIn ifs true λ (c:Expr) (r:Bool)=>if r=true then (PySem.isTrue c X.env (eval c X.env) >>= λ ok=>(pure (ForInStep.yield ok):Sem _)) else (pure (ForInStep.yield r):Sem _)) (TP X pins σ Q) X.xe s
def tTrue:TT:=λ _ H Q=>Q true H
theorem pf_nil {X:Cx}:PIfs X [] tTrue:=λ pins s σ H Q I h=>wpAny_tests_nil ⟨H,I,h⟩
theorem pf_one {X:Cx} {c:Expr} {t:TT} (h:PT X c t):PIfs X [c] t:=λ pins s σ H Q I hq=>wpAny_tests_one (h pins s σ H Q I hq)
theorem comp_loop {prog:Program} {w:World} {A:Around} {R:Result->Shared->Prop} {s:Shared} {elt tg iter:Expr} {ifs:List Expr} {scope:Scope} {pos:Pos} {it acc:Value} {env:Env} (J:Nat->Shared->Prop)
 (turn:∀ n s,J n s->wpAny (model prog w) A (pyNext it) (λ r s₁=>match r with
  | none=>R (.ok .next) s₁
  | some v=>wpAny (model prog w) A (letOwnedTupleGo tg it v) (λ _ s₂=>wpAny (model prog w) A (assign tg env v) (λ _ s₃ =>
   wpAny (model prog w) A (forIn ifs true λ (c:Expr) (r:Bool)=>if r=true then (PySem.isTrue c env (eval c env) >>= λ ok=>(pure (ForInStep.yield ok):Sem _)) else (pure (ForInStep.yield r):Sem _)) (λ ok s₄ =>
    if ok=true then wpAny (model prog w) A (eval elt env) (λ x s₅=>wpAny (model prog w) A (call (.builtin "list.append") [acc,x]) (λ _ s₆=>∃ m,m<n/\J m s₆) (λ _ _=>False) s₅) (λ _ _=>False) s₄
    else ∃ m,m<n/\J m s₄) (λ _ _=>False) s₃) (λ _ _=>False) s₂) (λ _ _=>False) s₁) (λ _ _=>False) s)
 (n:Nat) (h:J n s):codeAny (model prog w) A (.compLoop (.ListComp elt [⟨tg,iter,ifs,0⟩] scope pos) 0 it acc env) R s:=by
 have off:∀ {α:Type} {t:Sem α} {Q:α->Shared->Prop} {E:Value->Shared->Prop} {s:Shared},wpAny (model prog w) A t Q (λ _ _=>False) s->wpAny (model prog w) A t Q E s:=λ h=>wpAny_mono h (λ _ _ q=>q) λ _ _ z=>z.elim
 refine codeAny_loop rfl J (λ n s hJ=>?_) n h
 show wpAny _ A ((compTurn (.ListComp elt [⟨tg,iter,ifs,0⟩] scope pos) 0 it acc env).onRaise (λ x=>do noteFrame x env; theTreesLotGoes x)) _ _ s
 refine wpAny_noted ?_
 rw [compTurn_list]
 refine wpAny_bind (wpAny_standAt (wpAny_bind (off (thn (turn n s hJ) λ r s₁ h₁=>?_))))
 cases r with
 | none=>exact wpAny_pure h₁
 | some v =>
   refine wpAny_bind (off (thn h₁ λ _ s₂ h₂=>wpAny_bind (off (thn h₂ λ _ s₃ h₃=>wpAny_bind (off (thn h₃ λ ok s₄ h₄=>?_))))))
   cases ok with
   | false=>exact wpAny_pure ⟨rfl,h₄⟩
   | true=>exact wpAny_bind (wpAny_bind (off (thn h₄ λ x s₅ h₅=>wpAny_bind (off (thn h₅ λ _ s₆ h₆=>wpAny_pure (wpAny_pure ⟨rfl,h₆⟩))))))
def LCgo (J:It) (g:TG) (tt:TT) (te:TE) (D:Addr) (σ:St) (H:Hp) (Q:VK):Prop:=∃ W:Nat->Nat->St->Hp->Prop,(∃ m,W 0 m σ H)/\∀ i m σc Hc,W i m σc Hc->
 (J.stop i Hc/\Q (.ref D) Hc)\/(J.go i Hc/\∃ N:St->Hp->Prop,(∀ σ' H',N σ' H'->∃ m',m'<m/\W (i+1) m' σ' H')/\∀ x H',J.yld i Hc x H'->g x σc H' λ σ2 H2=>tt σ2 H2 λ b H3 =>
  if b=true then te σ2 H3 λ v H4=>∃ ys,H4 D=some (.lst ys)/\ys.length<sizeLine/\N σ2 (upd H4 D (.lst (ys++[v]))) else N σ2 H3)
def tLC (cap:List (Option Nat)) (wi:TI) (g:CP->TG) (tt:CP->TT) (te:CP->TE):TE:=λ σ H Q=>wi σ H λ J H1=>∀ D,H1 D=none->∀ c:CP,LCgo J (g c) (tt c) (te c) D (compSt cap σ) (upd H1 D (.lst [])) Q
section
variable {X:Cx} {N:List Str} {scope:Scope} {tg elt iter:Expr} {ifs:List Expr} {pos:Pos} {wi:TI} {g:CP->TG} {tt:CP->TT} {te:CP->TE} {cap:List (Option Nat)}
structure CompParts (X:Cx) (N:List Str) (scope:Scope) (tg:Expr) (ifs:List Expr) (elt:Expr) (g:CP->TG) (tt:CP->TT) (te:CP->TE):Prop where
 tg:∀ c,PG (X.compC N scope c) tg (g c)
 ifs:∀ c,PIfs (X.compC N scope c) ifs (tt c)
 elt:∀ c,PE (X.compC N scope c) elt (te c)
def CapOk (X:Cx) (N:List Str) (scope:Scope) (cap:List (Option Nat)):Prop:=cap.length=N.length/\∀ (i:Nat) (x:Str) (j:Nat),N[i]?=some x->cap[i]?=some (some j)->X.N[j]?=some x/\X.env.kindOf x=some .cell/\scope.names.lookup x=some .free
theorem comp_block (hc:X.calm=true) (hkind:scope.kind=.function) (hcell:∀ p ∈ scope.names,p.2 ≠ .cell) (hcap:CapOk X N scope cap) (B:CompParts X N scope tg ifs elt g tt te) {cl:List (Str × Addr)}
 (h1:∀ x c,cl.lookup x=some c->X.env.cells.lookup x=some c) (h2:∀ x,(x,NameKind.free) ∈ scope.names->∃ c,cl.lookup x=some c) (hfk:X.env.scope.kind=.function)
 {pins:List (Addr × Obj)} {σ:St} {H:Hp} {s:Shared} {it:Addr} {fp:List Addr} {tn:Nat->Heap->Prop} {J:It} {Q:VK} {E:Value->Shared->Prop} {RR:Value->Addr->Result->Shared->Prop}
 (I:Inv X pins σ H s) (T:Turn X.prog X.w X.K tg J fp it tn) (st:tn 0 s.heap) (f:∀ b ∈ fp,FpOk X pins H b)
 (h:∀ D,H D=none->∀ c:CP,LCgo J (g c) (tt c) (te c) D (compSt cap σ) (upd H D (.lst [])) Q)
 (hR:∀ D C H' s' m,Inv X pins σ H' s'->Q (.ref D) H'->s'.heap.Ns C m->s.heap.objs.size<=C->H' C=none->RR (.ref D) C (.ok .next) s'):
 wpAny (model X.prog X.w) X.A (newList []) (λ acc s₃=>wpAny (model X.prog X.w) X.A (newFunctionEnv scope X.env.globals cl [] X.env.qual none .none (some X.env)) (λ cenv s₄ =>
  codeAny (model X.prog X.w) X.A (.compStart (.ListComp elt [⟨tg,iter,ifs,0⟩] scope pos) 0 (.ref it) acc { cenv with scope:=relabel scope X.env }) (RR acc cenv.locals) s₄) E s₃) E s:=by
 have hlt:∀ b ∈ fp,b<s.heap.objs.size:=λ b hb=>by obtain ⟨o,e,_⟩:=T.obj _ _ st b hb; exact Heap.lt_size e
 refine wpAny_newObj_type (wpAny_newFunctionEnv hcell (by intro y hy; simp at hy) (λ h₁ hns₁ hsb₁=>?_) hkind)
 dsimp only at hns₁ hsb₁ ⊢
 generalize hD:s.heap.push { cls:=.type "list",dict:=none,data:=.seq ([]:List Value).toArray }=G at hns₁ hsb₁ ⊢
 have hC:G.objs.size=s.heap.objs.size+1:=by rw [← hD,Heap.size_push]
 have hCle:s.heap.objs.size<=G.objs.size:=by rw [hC]; exact Nat.le_succ _
 have hDC:s.heap.objs.size ≠ G.objs.size:=by rw [hC]; exact Nat.ne_of_lt (Nat.lt_succ_self _)
 have old:∀ b o,s.heap.get? b=some o->h₁.get? b=some o:=λ b o e =>
  hsb₁.extBut b o (by have:=Heap.lt_size e; rw [hC]; exact Nat.ne_of_lt (Nat.lt_succ_of_lt this)) (Heap.get?_push_of_some _ (hD ▸ Heap.get?_push_of_some _ e))
 have hacc:h₁.get? s.heap.objs.size=some { cls:=.type "list",dict:=none,data:=.seq ([]:List Value).toArray }:=hsb₁.extBut _ _ hDC (Heap.get?_push_of_some _ (hD ▸ Heap.get?_push_size _ rfl))
 have hDn:H s.heap.objs.size=none:=I.hok.fresh (Nat.le_refl _)
 have hCn:H G.objs.size=none:=I.hok.fresh hCle
 obtain ⟨W,⟨m0,w0⟩,turn⟩:=h s.heap.objs.size hDn ⟨cl,G.objs.size,s,H,fp⟩
 have ok:=I.compOk (N:=N) (C:=G.objs.size) f hlt hCle hkind hcell h1 h2
 have tup':∀ b xs,H b=some (.tup xs)->upd H s.heap.objs.size (.lst []) b=some (.tup xs):=λ b xs e=>by rw [upd_ne (ne_of_none e hDn)]; exact e
 have hok1:HOk X.prog X.w (upd H s.heap.objs.size (.lst [])) h₁:=I.hok.laid old (Nat.le_refl _) ⟨Nat.zero_le _,[],_,.nil,hacc⟩
 have I1:Inv (X.comp N scope cl G.objs.size s H fp) [] (compSt cap σ) (upd H s.heap.objs.size (.lst [])) { s with heap:=h₁,toks:=s.toks+([]:List (Str × Value)).length }:=by
  refine ⟨ok,rfl,I.bare,Un.laid old (Nat.le_refl _) hDn,⟨_,hns₁,λ i x v e1 e2 e3=>?_⟩,λ x c e=>?_,?_,λ x c e=>?_,(λ p hp=>absurd (show p ∈ ([]:List (Addr × Obj)) from hp) (by simp)),hok1,?_⟩
  ·unfold compSt at e2
   rw [List.getElem?_map] at e2
   cases hj:cap[i]? with
   | none=>rw [hj] at e2; cases e2
   | some o =>
     cases o with
     | none=>rw [hj] at e2; cases e2
     | some j =>
       rw [hj] at e2
       have e2':(σ[j]?).join=some v:=Option.some.inj e2
       have e4:σ[j]?=some (some v):=by
        cases q:σ[j]? with
        | none=>rw [q] at e2'; cases e2'
        | some y=>rw [q] at e2'; exact congrArg some e2'
       obtain ⟨c1,c2,c3⟩:=hcap.2 i x j e1 hj
       obtain ⟨m,hn,hl⟩:=I.loc
       obtain ⟨u,r,l⟩:=hl j x v c1 e4 (.inr (.inl c2))
       refine ⟨u,r,?_⟩
       rcases l with ⟨k,_⟩ | ⟨_,c,hc',z⟩
       ·rw [c2] at k; cases k
       ·have fm:(x,NameKind.free) ∈ scope.names:=lookup_mem' c3
        obtain ⟨c',hc2⟩:=h2 x fm
        have:c'=c:=by have:=h1 x c' hc2; rw [hc'] at this; exact (Option.some.inj this).symm
        subst this
        obtain ⟨oc,hoc,hd⟩:=z
        refine .inr ⟨?_,c',hc2,⟨oc,old _ _ hoc,hd⟩⟩
        rcases e3 with q | q | q
        ·exact absurd q (relabel_free c3)
        ·exact .inl q
        ·exact .inr q
  ·obtain ⟨v,oc,hoc,hd⟩:=I.cell x c (h1 x c e)
   exact ⟨v,oc,old _ _ hoc,hd⟩
  ·rw [show (X.comp N scope cl G.objs.size s H fp).env.locals=G.objs.size from rfl,upd_ne (Ne.symm hDC)]; exact hCn
  ·have z:=I.freeC x c (h1 x c e)
   obtain ⟨v,oc,hoc,hd⟩:=I.cell x c (h1 x c e)
   rw [upd_ne (Nat.ne_of_lt (Heap.lt_size hoc))]; exact z
  ·unfold compSt; rw [List.length_map]; exact hcap.1
 have fok:∀ {H':Hp},(∀ b ∈ fp,H' b=none)->∀ b ∈ fp,FpOk (X.comp N scope cl G.objs.size s H fp) [] H' b:=λ hn b hb =>
  ⟨hn b hb,(ok.exf b hb).1,ok.exfs b hb,.inl hb,(ok.exf b hb).2,(λ p hp=>absurd (show p ∈ ([]:List (Addr × Obj)) from hp) (by simp))⟩
 have st1:tn 0 h₁:=T.keep _ _ _ st λ b _ o e=>old b o e
 have fr1:∀ b ∈ fp,upd H s.heap.objs.size (.lst []) b=none:=λ b hb=>by rw [upd_ne (Nat.ne_of_lt (hlt b hb))]; exact (f b hb).1
 have loop:∀ s₃:Shared,s₃={ s with heap:=h₁,toks:=s.toks+([]:List (Str × Value)).length }->
  codeAny (model X.prog X.w) X.A (.compLoop (.ListComp elt [⟨tg,iter,ifs,0⟩] scope pos) 0 (.ref it) (.ref s.heap.objs.size) (compEnvC scope cl G.objs.size X.env)) (RR (.ref s.heap.objs.size) G.objs.size) s₃:=by
  rintro s₃ rfl
  refine comp_loop (λ n s'=>∃ i σ' H',Inv (X.comp N scope cl G.objs.size s H fp) [] σ' H' s'/\tn i s'.heap/\(∀ b ∈ fp,H' b=none)/\W i n σ' H') ?_ m0 ⟨0,_,_,I1,st1,fr1,w0⟩
  rintro n s3 ⟨i,σ3,H3,I3,st3,fr3,w3⟩
  rcases turn i n σ3 H3 w3 with ⟨stop,q⟩ | ⟨go,N',hN,step⟩
  ·refine thn (T.done (X.comp N scope cl G.objs.size s H fp) rfl rfl rfl hc i [] s3 σ3 H3 _ I3 (fok fr3) st3 stop) λ r s4 ⟨hr,I4⟩=>?_
   subst hr
   obtain ⟨m,hn,_⟩:=I4.loc
   refine hR _ _ H3 s4 m (I.call' (ch:=fp) I4.os I4.base I4.hok I4.bare λ b hb=>?_) q hn hCle I4.free
   obtain ⟨_,z1,_,z3,z4,z5⟩:=f b hb
   exact ⟨z3,z1,z4,z5⟩
  ·refine thn (T.item (X.comp N scope cl G.objs.size s H fp) rfl rfl rfl hc i [] s3 σ3 H3 _ I3 (fok fr3) st3 go) λ r s4 ⟨u,hr,h4⟩=>?_
   subst hr
   refine thn h4 λ _ s5 ⟨x,H5,I5,r5,y5,st5,fr5⟩=>?_
   have I5':=I5.pinned (fok fr5) (T.obj _ _ st5)
   refine thn (B.tg ⟨cl,G.objs.size,s,H,fp⟩ _ s5 σ3 H5 x u _ I5' r5 (step x H5 y5)) λ _ s6 ⟨σ6,H6,I6,q6⟩=>?_
   refine thn (B.ifs ⟨cl,G.objs.size,s,H,fp⟩ _ s6 σ6 H6 _ I6 q6) λ ok7 s7 ⟨H7,I7,q7⟩=>?_
   have again:∀ {s8:Shared} {H8:Hp},Inv (X.comp N scope cl G.objs.size s H fp) ([]++pinsAt fp s5.heap) σ6 H8 s8->N' σ6 H8->∃ m,m<n/\∃ i σ' H',Inv (X.comp N scope cl G.objs.size s H fp) [] σ' H' s8/\tn i s8.heap/\(∀ b ∈ fp,H' b=none)/\W i m σ' H':=λ {s8 H8} I8 n8=>by
    obtain ⟨m',hm,w8⟩:=hN σ6 H8 n8
    have pn:∀ b o,b ∈ fp->s5.heap.get? b=some o->s8.heap.get? b=some o/\H8 b=none:=λ b o hb e =>
     let z:=I8.pin (b,o) (List.mem_append_right _ (List.mem_append_right _ (mem_pinsAt hb e))); ⟨z.1,z.2.1⟩
    refine ⟨m',hm,i+1,σ6,H8,I8.unpinned,T.keep _ _ _ st5 λ b hb o e=>(pn b o hb e).1,λ b hb=>?_,w8⟩
    obtain ⟨o,e,d⟩:=T.obj _ _ st5 b hb
    exact (pn b o hb e).2
   cases ok7 with
   | false=>rw [if_neg Bool.false_ne_true] at q7 ⊢; exact again I7 q7
   | true =>
     rw [if_pos rfl] at q7 ⊢
     refine thn (B.elt ⟨cl,G.objs.size,s,H,fp⟩ _ s7 σ6 H7 _ I7 q7) λ v s8 ⟨y,H8,I8,r8,ys,hy,hs,n8⟩=>?_
     refine thn (mt_append (X:=X.comp N scope cl G.objs.size s H fp) _ s8 σ6 H8 (.ref s.heap.objs.size) [y] (.ref s.heap.objs.size) [v] (λ z H9=>z=.non/\H9=upd H8 s.heap.objs.size (.lst (ys++[y]))) I8 rfl (.cons r8 .nil) ⟨_,ys,y,rfl,rfl,hy,hs,rfl,rfl⟩) λ _ s9 ⟨z,H9,I9,_,_,e9⟩=>?_
     subst e9
     exact again I9 n8
 exact codeAny_compStart_list (loop _ rfl) (T.self _ 0 _ _ _ st1 (loop _ rfl))
end
end L2
set_option maxHeartbeats 4000000
namespace L2
open PySem PySem.Spec PyProof.Rows
section
variable {X:Cx} {N:List Str} {scope:Scope} {tg elt iter:Expr} {ifs:List Expr} {pos:Pos} {wi:TI} {g:CP->TG} {tt:CP->TT} {te:CP->TE} {cap:List (Option Nat)}
structure CompSc (X:Cx) (N:List Str) (scope:Scope) (cap:List (Option Nat)):Prop where
 kind:scope.kind=.function
 cell:∀ p ∈ scope.names,p.2 ≠ .cell
 names:∀ p ∈ scope.names,p.2=.local->scope.names.lookup p.1=some .local
 free:∀ p ∈ scope.names,p.2=.free->X.env.kindOf p.1=some .cell\/X.env.kindOf p.1=some .free
 cap:CapOk X N scope cap
def compScB (XN:List Str) (xsc:Scope) (N:List Str) (scope:Scope) (cap:List (Option Nat)):Bool :=
 scope.kind == .function && scope.names.all (λ p=>p.2 != .cell) && scope.names.all (λ p=>p.2 != .local || scope.names.lookup p.1 == some .local) &&
 scope.names.all (λ p=>p.2 != .free || (xsc.names.lookup p.1 == some .cell || xsc.names.lookup p.1 == some .free)) && cap.length == N.length &&
 (List.range N.length).all λ i=>match N[i]?,cap[i]? with
  | some x,some (some j)=>XN[j]? == some x && xsc.names.lookup x == some .cell && scope.names.lookup x == some .free
  | _,_=>true
theorem compSc_of (h:compScB X.N X.env.scope N scope cap=true):CompSc X N scope cap:=by
 unfold compScB at h
 simp only [Bool.and_eq_true] at h
 obtain ⟨⟨⟨⟨⟨h1,h2⟩,h3⟩,h4⟩,h5⟩,h6⟩:=h
 refine ⟨eq_of_beq h1,λ p hp z=>?_,λ p hp z=>?_,λ p hp z=>?_,eq_of_beq h5,λ i x j e1 e2=>?_⟩
 ·have:=List.all_eq_true.mp h2 p hp
  rw [z] at this; cases this
 ·have:=List.all_eq_true.mp h3 p hp
  rw [z] at this
  simpa using this
 ·have:=List.all_eq_true.mp h4 p hp
  rw [z] at this
  have e:(NameKind.free != NameKind.free)=false:=by decide
  rw [e,Bool.false_or,Bool.or_eq_true] at this
  rcases this with q | q
  ·exact .inl (eq_of_beq q)
  ·exact .inr (eq_of_beq q)
 ·have hi:i<N.length:=(List.getElem?_eq_some_iff.mp e1).1
  have:=List.all_eq_true.mp h6 i (List.mem_range.mpr hi)
  rw [e1,e2] at this
  simp only [Bool.and_eq_true] at this
  exact ⟨eq_of_beq this.1.1,eq_of_beq this.1.2,eq_of_beq this.2⟩
theorem CompSc.clo {pins:List (Addr × Obj)} {σ:St} {H:Hp} {s:Shared} (S:CompSc X N scope cap) (I:Inv X pins σ H s):
 ∃ cl,closureFor scope X.env=pure cl/\(∀ x c,cl.lookup x=some c->X.env.cells.lookup x=some c)/\∀ x,(x,NameKind.free) ∈ scope.names->∃ c,cl.lookup x=some c :=
 closure_of λ p hp z=>I.ok.has p.1 (S.free p hp z)
theorem Inv.letGo {pins:List (Addr × Obj)} {σ:St} {H H2:Hp} {s s2:Shared} {C:Addr} {h':Heap} (I2:Inv X pins σ H2 s2) (I:Inv X pins σ H s) (hC:s2.heap.objs.size<=C) (hn:H C=none) (hs:Heap.SameBut C s.heap h'):Inv X pins σ H { s with heap:=h' }:=by
 obtain ⟨f0,f1,f2,f3,f4,f5⟩:=I2.fpOk (H':=H) hC hn
 exact I.turned (t':=s.toks) (λ b o hb e=>hs.extBut b o hb e) f0 f1 f3 f4 f5
theorem pe_lc (S:CompSc X N scope cap) (hc:X.calm=true) (hi:PI X tg iter wi) (B:CompParts X N scope tg ifs elt g tt te) (hs:∀ x,foldedSetIterable iter X.env x=pure x:=by intro _; rfl):
 PE X (.ListComp elt [⟨tg,iter,ifs,0⟩] scope pos) (tLC cap wi g tt te):=by
 intro pins s σ H Q I h
 obtain ⟨cl,hcl,h1,h2⟩:=S.clo I
 rw [eval_ListComp]
 refine wpAny_comprehension_free (use:=none) rfl hs hcl S.kind S.names (thn (hi pins s σ H _ I h) λ v s1 q1=>thn q1 λ itv s2 ⟨it,fp,tn,J,H2,e,I2,T,st,f,q⟩=>?_)
 subst e
 refine comp_block (RR:=λ acc C=>compPost (model X.prog X.w) X.A X.xe none (EP X pins σ Q) acc C) hc S.kind S.cell S.cap B h1 h2 I2.ok.kind I2 T st f q λ D C H' s' m I' q' hn hC hCn=>?_
 exact ⟨m,hn,λ h' hs'=>⟨.ref D,H',I2.letGo I' hC hCn hs',rfl,q'⟩⟩
theorem ps_setLC {i:Nat} {y:Str} {py spos:Pos} (hN:X.N.Nodup) (hi:X.N[i]?=some y) (hy:X.env.kindOf y=some .local) (S:CompSc X N scope cap) (hc:X.calm=true) (hit:PI X tg iter wi) (B:CompParts X N scope tg ifs elt g tt te)
 (hsw:swapsWith (.ListComp elt [⟨tg,iter,ifs,0⟩] scope pos) (some (.Name y py)) spos.line X.env=pure true) (hs:∀ x,foldedSetIterable iter X.env x=pure x:=by intro _; rfl):
 PS X (.Assign [.Name y py] (.ListComp elt [⟨tg,iter,ifs,0⟩] scope pos) spos) (λ D σ H=>tLC cap wi g tt te σ H λ v H1=>D.nx (σ.set i (some v)) H1):=by
 intro pins s σ H D I h
 obtain ⟨cl,hcl,h1,h2⟩:=S.clo I
 rw [exec_Assign_Name_used _ _ _ _ hsw]
 refine wpAny_bind (wpAny_standAt (wpAny_bind ?_))
 show wpAny _ X.A (do let _ ← comprehension (.ListComp elt [⟨tg,iter,ifs,0⟩] scope pos) scope X.env _ (newList []) false (eval iter X.env) (some (assign (.Name y py) X.env))) _ _ s
 refine wpAny_bind (thn (wpAny_comprehension_free (use:=some (assign (.Name y py) X.env)) (Q:=λ _ s'=>SP X pins D .next s') rfl hs hcl S.kind S.names (thn (hit pins s σ H _ I h) λ v s1 q1=>thn q1 λ itv s2 ⟨it,fp,tn,J,H2,e,I2,T,st,f,q⟩=>?_))
  λ _ s' hq=>wpAny_pure (wpAny_pure hq))
 subst e
 refine comp_block (Q:=λ v H1=>D.nx (σ.set i (some v)) H1) (RR:=λ acc C=>compPost (model X.prog X.w) X.A X.xe (some (assign (.Name y py) X.env)) (λ _ s'=>SP X pins D .next s') acc C) hc S.kind S.cell S.cap B h1 h2 I2.ok.kind I2 T st f q λ A C H' s' m I' q' hn hC hCn=>?_
 show wpAny _ X.A (assign (.Name y py) X.env (.ref A)) _ _ _
 refine wpAny_assign_Name (store_ok2 (v:=.ref A) I' hN hi (.inl hy) rfl (λ s'' I'' ⟨a,sb,ha⟩=>?_) (.inr hy))
 obtain ⟨f0,f1,f2,f3,f4,f5⟩:=I2.fpOk (H':=H') hC hCn
 have hCa:C ≠ a:=by
  rcases ha with e | e
  ·rw [e]; exact f1
  ·exact Ne.symm (f4 y a e)
 refine ⟨m,hn.sameBut sb hCa,λ h' hs'=>⟨_,H',?_,q'⟩⟩
 exact I''.turned (t':=s''.toks) (λ b o hb e=>hs'.extBut b o hb e) f0 f1 f3 f4 f5
end
structure Walk (J:It) (xs:List V) (Ok:Hp->Prop):Prop where
 go:∀ i H,i<xs.length->Ok H->J.go i H
 stop:∀ i H,xs.length<=i->Ok H->J.stop i H
 yld:∀ i H x H',i<xs.length->Ok H->J.yld i H x H'->H'=H/\xs[i]?=some x
theorem walk_list {K:PySem.W.Frag} {a:Addr} {xs:List V}:Walk (Itl K a) xs (λ H=>SqL K H a xs) where
 go:=λ i H h q=>⟨xs,xs[i],q,by simp [h]⟩
 stop:=λ i H h q=>⟨xs,q,h⟩
 yld:=λ i H x H' _ q y=>⟨y.1,y.2 xs q⟩
def chr1 (c:Nat):V:=.str ⟨#[c]⟩
theorem walk_str {z:Str}:Walk (Its z) (z.cps.toList.map chr1) (λ _=>True) where
 go:=λ i H h _=>by
  rw [List.length_map,Array.length_toList] at h
  exact h
 stop:=λ i H h _=>by
  rw [List.length_map,Array.length_toList] at h
  exact h
 yld:=λ i H x H' _ _ y=>by
  obtain ⟨e,c,hc,rfl⟩:=y
  exact ⟨e,by rw [List.getElem?_map,hc]; rfl⟩
theorem for_walk {J:It} {xs:List V} {Ok:Hp->Prop} (Wk:Walk J xs Ok) {g:TG} {tb:TS} {D:Ends} {σ:St} {H:Hp} (Pv:Nat->St->Hp->Prop) (h0:Pv 0 σ H) (hl:∀ i σ H,i<=xs.length->Pv i σ H->Ok H)
 (hs:∀ i x σ H,xs[i]?=some x->Pv i σ H->g x σ H λ σ2 H2=>tb { D with nx:=Pv (i+1),ct:=Pv (i+1),bk:=D.nx } σ2 H2) (hd:∀ σ H,Pv xs.length σ H->D.nx σ H):
 ∃ W:Nat->Nat->St->Hp->Prop,(∃ m,W 0 m σ H)/\∀ i m σ H,W i m σ H->
   (J.stop i H/\D.nx σ H)\/(J.go i H/\∃ N:St->Hp->Prop,(∀ σ' H',N σ' H'->∃ m',m'<m/\W (i+1) m' σ' H')/\∀ x H',J.yld i H x H'->g x σ H' λ σ2 H2=>tb { D with nx:=N,ct:=N,bk:=D.nx } σ2 H2):=by
 refine ⟨λ i m σ H=>m=xs.length-i/\i<=xs.length/\Pv i σ H,⟨xs.length,by simp,Nat.zero_le _,h0⟩,?_⟩
 rintro i m σ H ⟨rfl,hi,p⟩
 have q:=hl i σ H hi p
 by_cases hlt:i<xs.length
 ·refine .inr ⟨Wk.go i H hlt q,Pv (i+1),λ σ' H' p'=>⟨xs.length-(i+1),by omega,rfl,hlt,p'⟩,λ x H' y=>?_⟩
  obtain ⟨e,y'⟩:=Wk.yld i H x H' hlt q y
  subst e
  exact hs i x σ _ y' p
 ·have e:i=xs.length:=by omega
  subst e
  exact .inl ⟨Wk.stop _ H (Nat.le_refl _) q,hd σ H p⟩
theorem lc_walk {J:It} {xs:List V} {Ok:Hp->Prop} (Wk:Walk J xs Ok) {g:TG} {tt:TT} {te:TE} {σ:St} {H:Hp} {D:Addr} {Q:VK} (Pv:Nat->St->Hp->Prop) (h0:Pv 0 σ H) (hl:∀ i σ H,i<=xs.length->Pv i σ H->Ok H)
 (hs:∀ i x σ H,xs[i]?=some x->Pv i σ H->g x σ H λ σ2 H2=>tt σ2 H2 λ b H3=>if b=true then te σ2 H3 λ v H4=>∃ ys,H4 D=some (.lst ys)/\ys.length<sizeLine/\Pv (i+1) σ2 (upd H4 D (.lst (ys++[v]))) else Pv (i+1) σ2 H3)
 (hd:∀ σ H,Pv xs.length σ H->Q (.ref D) H):LCgo J g tt te D σ H Q:=by
 refine ⟨λ i m σ H=>m=xs.length-i/\i<=xs.length/\Pv i σ H,⟨xs.length,by simp,Nat.zero_le _,h0⟩,?_⟩
 rintro i m σ H ⟨rfl,hi,p⟩
 have q:=hl i σ H hi p
 by_cases hlt:i<xs.length
 ·refine .inr ⟨Wk.go i H hlt q,Pv (i+1),λ σ' H' p'=>⟨xs.length-(i+1),by omega,rfl,hlt,p'⟩,λ x H' y=>?_⟩
  obtain ⟨e,y'⟩:=Wk.yld i H x H' hlt q y
  subst e
  exact hs i x σ _ y' p
 ·have e:i=xs.length:=by omega
  subst e
  exact .inl ⟨Wk.stop _ H (Nat.le_refl _) q,hd σ H p⟩
theorem lc_true {σ:St} {H:Hp} {A B:Hp->Prop} (h:A H):tTrue σ H (λ b H3=>if b=true then A H3 else B H3):=by
 show if true=true then A H else B H
 rw [if_pos rfl]; exact h
theorem lc_pure {J:It} {xs:List V} {Ok:Hp->Prop} (Wk:Walk J xs Ok) {tt:TT} {te:TE} {H:Hp} {D:Addr} {Q:VK} {caps:St} (p:V->Bool) (f:V->V) (hl:∀ ys,Ok (upd H D (.lst ys))) (hz:xs.length<sizeLine)
 (hs:∀ (i:Nat) (x:V) (ys:List V) (R:Hp->Prop),xs[i]?=some x->ys.length<sizeLine->(p x=true->R (upd H D (.lst (ys++[f x]))))->(p x=false->R (upd H D (.lst ys)))->
  tt (some x::caps) (upd H D (.lst ys)) λ b H3=>if b=true then te (some x::caps) H3 λ v H4=>∃ ys,H4 D=some (.lst ys)/\ys.length<sizeLine/\R (upd H4 D (.lst (ys++[v]))) else R H3)
 (hd:Q (.ref D) (upd H D (.lst ((xs.filter p).map f)))):LCgo J (gName 0) tt te D (none::caps) (upd H D (.lst [])) Q:=by
 refine lc_walk Wk (λ i σ H'=>∃ r,σ=r::caps/\H'=upd H D (.lst (((xs.take i).filter p).map f))) ⟨none,rfl,rfl⟩ (λ i σ H' _ ⟨_,_,e⟩=>by rw [e]; exact hl _) ?_ ?_
 ·rintro i x σ H' hx ⟨r,rfl,rfl⟩
  have hlen:(((xs.take i).filter p).map f).length<sizeLine:=by
   rw [List.length_map]
   have:=List.length_filter_le p (xs.take i)
   have h2:(xs.take i).length<=xs.length:=List.length_take_le' _ _
   omega
  refine hs i x _ (λ H3=>∃ r,some x::caps=r::caps/\H3=upd H D (.lst (((xs.take (i+1)).filter p).map f))) hx hlen (λ hp=>⟨_,rfl,?_⟩) (λ hp=>⟨_,rfl,?_⟩)
  ·rw [take_succ_filter p _ i x hx,hp,if_pos rfl,List.map_append]; rfl
  ·rw [take_succ_filter p _ i x hx,hp,if_neg Bool.false_ne_true,List.append_nil]
 ·rintro σ H' ⟨r,rfl,rfl⟩
  rw [List.take_length]; exact hd
end L2
set_option maxHeartbeats 4000000
namespace L2
open PySem PySem.Spec PyProof.Rows
def Small (n:Int):Prop:=Builtin.Int.intBits n<=1048576
theorem small_of {n:Int} (h:n.natAbs.log2+1<=1048576):Small n:=PySem.intBits_le_iff.mpr (Nat.lt_of_lt_of_le Nat.lt_log2_self (Nat.pow_le_pow_right (by decide) h))
theorem small_zero:Small 0:=by unfold Small; decide
theorem Small.le {m n:Int} (h:Small n) (e:m.natAbs<=n.natAbs):Small m:=PySem.intBits_le_iff.mpr (Nat.lt_of_le_of_lt e (PySem.intBits_le_iff.mp h))
theorem script_small:∀ {ns:List Int} {w:Nat},PySem.W.WData.weightAll (ns.map PySem.W.WData.int)<=w->w<=1048576->∀ n ∈ ns,Small n
 | [],_,_,_,_,h=>nomatch h
 | x::r,w,h,hw,n,hn=>by
   rw [List.map_cons] at h
   unfold PySem.W.WData.weightAll at h
   rcases List.mem_cons.mp hn with e | e
   ·subst e
    unfold PySem.W.WData.weight at h
    by_cases z:n=0
    ·rw [z]; exact small_zero
    ·rw [if_neg (by simpa using z)] at h
     exact small_of (by omega)
   ·exact script_small (ns:=r) (w:=w) (by omega) hw n e
theorem script_layable {ns:List Int} (h:PySem.W.WData.layableAll [PySem.W.WData.list (ns.map PySem.W.WData.int)]=true):∀ n ∈ ns,Small n:=by
 unfold PySem.W.WData.layableAll at h
 rw [List.all_cons,Bool.and_eq_true] at h
 have h1:=h.1
 unfold PySem.W.WData.layable at h1
 rw [Bool.and_eq_true] at h1
 have h2:=of_decide_eq_true h1.2
 unfold PySem.W.WData.weight at h2
 exact script_small h2 (by decide)
theorem walk_b {l:PySem.W.OpenLaw} {n k:Nat} {q:Program} {loose:List Str} {XP:(Str->Option Value)->Heap->Prop} {YP:World->Heap->Prop} {d:DefRec} {K:Params->PySem.W.Frag} {CX:World->CXT} {sp:World->Sp} {x:Str}
 (hn:l.most=some n) (hn2:n<=sizeLine) (hdf:d.params.defaults=[]) (hr:Room k callerA)
 (hY:∀ (w:World) (h:Heap),YP w h->(K w.params).In h)
 (F:∀ (w:World) (mg:Str->Option Value) (fa:Addr) (h:Heap),(K w.params).In h->h.Ns mainGlobals mg->mg d.name=some (.ref fa)->
  ∃ fd:FuncData,(∀ (s:Shared) (u:Value),BindsTo s fd ⟨[u],[]⟩ [(x,u)])/\
    ∀ base:Heap,(K w.params).In base->base.Ns mainGlobals mg->FnOk l.prog w (K w.params) mg base (CX w) k fa fd [x] (sp w))
 (hsp:∀ (w:World) (H:Hp) (a:Addr) (ns:List Int),ns.length<=n->(∀ n ∈ ns,Small n)->Only H->SqL (K w.params) H a (ns.map V.int)->sp w [.ref a] H (λ v _=>v=.bl true) λ _ _ _=>False)
 (hCX:∀ (w:World) (H:Hp) (s:Shared) (e:Value) (s':Shared),CX w [] H s (λ _ _ _=>False) e s'->False):
 PySem.W.WalkO q loose XP YP l.row.toRowW d [] (λ f vs=>PySem.call f vs):=by
 intro w s₀ s₁ mg mb G Y fa o pm cd doc dV kV ho hd hcd hD hmg hg args vals as hpre hlay hrd hwl hlo
 obtain rfl:dV=.none:=PySem.W.Dflts.none hD hdf
 obtain rfl:kV=.none:=PySem.W.Dflts.noKw hD
 obtain ⟨a,vs,ns,rfl,rfl,hobj,hints,hlen⟩:=Att.script_of hn hpre hwl
 have KX:=hY w _ Y
 obtain ⟨fd,hb,hF⟩:=F w mg fa _ KX G.T.g hmg
 have hc:=law_call KX G.T.g G.T.b G.T.builtins G.T.nolimit hg hobj hints (Nat.le_trans hlen hn2) hr hF hb (λ H hO hS=>hsp w H a ns hlen (script_layable hlay) hO hS) λ H e s'=>hCX w H s₁ e s'
 refine PySem.W.enter_call (codeAny_mono hc λ r s' hq=>?_)
 obtain ⟨rfl,h2,h3,h4⟩:=hq
 exact ⟨.inl ⟨.bool true,.bool true,[],rfl,λ _=>rfl,.bool true,Att.post_true l _,λ _=>⟨List.Pairwise.nil,λ _ hm=>(nomatch hm)⟩⟩,h2,h3,h4⟩
section
variable {X:Cx}
def CMulB (i j:Int):Prop:=Builtin.Int.intBits i<=4000000/\Builtin.Int.intBits j<=4000000
end
end L2
set_option maxHeartbeats 4000000
namespace L2
open PySem PySem.Spec PyProof.Rows
def tx (l:List Nat):Str:=⟨l.toArray⟩
theorem tx_cps (l:List Nat):(tx l).cps.toList=l:=rfl
theorem tx_len (l:List Nat):(tx l).length=l.length:=List.size_toArray ..
theorem tx_app (l m:List Nat):tx l++tx m=tx (l++m):=by
 show (⟨l.toArray++m.toArray⟩:Str)=⟨(l++m).toArray⟩
 rw [List.append_toArray]
theorem tx_inj {l m:List Nat} (h:tx l=tx m):l=m:=congrArg (λ z:Str=>z.cps.toList) h
theorem tx_rep (l:List Nat) (n:Int):repS (tx l) n=tx (List.replicate n.toNat l).flatten:=rfl
theorem tx_in (c:Nat) (l:List Nat):(!(Builtin.Str.occurrences (tx l) (tx [c]) 0 (tx l).length 1).isEmpty)=decide (c ∈ l):=StrLaws.found_one (tx l) c
abbrev vt (l:List Nat):V:=.str (tx l)
theorem cut_to (l:List Nat) (k:Nat):cutL l none (some (k:Int))=l.take k:=by
 unfold cutL
 rw [HT.sIx_none,HT.sIx_nat,List.drop_zero,Nat.sub_zero]
 by_cases h:k<=l.length
 ·rw [Nat.min_eq_left h]
 ·rw [Nat.min_eq_right (by omega),List.take_length,List.take_of_length_le (by omega)]
theorem cut_from (l:List Nat) (k:Nat):cutL l (some (k:Int)) none=l.drop k:=by
 unfold cutL
 rw [HT.sIx_none,HT.sIx_nat]
 by_cases h:k<=l.length
 ·rw [Nat.min_eq_left h,List.take_of_length_le (by rw [List.length_drop]; omega)]
 ·rw [Nat.min_eq_right (by omega),Nat.sub_self,List.take_zero,List.drop_of_length_le (by omega)]
section
variable {X:Cx}
def rIn1 (neg:Bool):R2:=λ x y H Q=>∃ c l,x=vt [c]/\y=vt l/\Q (.bl (if neg then !decide (c ∈ l) else decide (c ∈ l))) H
theorem op_in1:OpR X (compareOp .In) (rIn1 false):=by
 intro pins s σ H x y v u Q I rx ry h
 obtain ⟨c,l,rfl,rfl,q⟩:=h
 exact op_in_str pins s σ H _ _ v u Q I rx ry ⟨_,_,rfl,rfl,by rw [tx_in]; exact q⟩
theorem op_notIn1:OpR X (compareOp .NotIn) (rIn1 true):=by
 intro pins s σ H x y v u Q I rx ry h
 obtain ⟨c,l,rfl,rfl,q⟩:=h
 exact op_notIn_str pins s σ H _ _ v u Q I rx ry ⟨_,_,rfl,rfl,by rw [tx_in]; exact q⟩
def oIn:=(op_in1 (X:=X)).or op_in_seq
def oNotIn:=(op_notIn1 (X:=X)).or op_notIn_seq
def oLeA:=(op_le (X:=X)).or op_le_str
def iAny (K:PySem.W.Frag) (te:TE):TI:=λ σ H R=>te σ H λ x H1=>(∃ a xs,x=.ref a/\SqL K H1 a xs/\R (Itl K a) H1)\/(∃ a xs,x=.ref a/\SqT K H1 a xs/\R (Itt K a) H1)\/(∃ z,x=.str z/\R (Its z) H1)
theorem piAny {e:Expr} {te:TE} {nm:Str} {np:Pos} (he:PE X e te):PI X (.Name nm np) e (iAny X.K te):=by
 intro pins s σ H R I h
 refine thn (he pins s σ H _ I h) λ v s1 ⟨x,H1,I1,r1,q1⟩=>?_
 have fp:∀ b ∈ [s1.heap.objs.size],FpOk X pins H1 b:=λ b hb=>by
  have e:b=s1.heap.objs.size:=by simpa using hb
  subst e
  exact I1.fpOk (Nat.le_refl _) (I1.hok.fresh (Nat.le_refl _))
 rcases q1 with ⟨a,xs,rfl,hq,q⟩ | ⟨a,xs,rfl,hq,q⟩ | ⟨z,rfl,q⟩
 ·cases r1
  obtain ⟨its,rv,p,hz⟩:=I1.list hq
  exact wpAny_pyIter_list p.isList ⟨s1.heap.objs.size,[s1.heap.objs.size],_,_,H1,rfl,I1.kept (t':=s1.toks) λ b o e=>Heap.get?_push_of_some _ e,turn_list a _,⟨_,Heap.get?_push_size _ rfl,rfl,rfl⟩,fp,q⟩
 ·cases r1
  obtain ⟨its,rv,p,hz⟩:=I1.tuple hq
  exact wpAny_pyIter_tuple (show s1.heap.IsTuple a its.toArray from p) ⟨s1.heap.objs.size,[s1.heap.objs.size],_,_,H1,rfl,I1.kept (t':=s1.toks) λ b o e=>Heap.get?_push_of_some _ e,turn_tuple a _,⟨_,Heap.get?_push_size _ rfl,rfl,rfl⟩,fp,q⟩
 ·obtain ⟨t,rfl⟩:=r1
  cases ha:z.cps.all (·<128) with
  | false =>
    exact wpAny_pyIter_wide ha ⟨s1.heap.objs.size,[s1.heap.objs.size],_,_,H1,rfl,I1.kept (t':=s1.toks) λ b o e=>Heap.get?_push_of_some _ e,turn_str (ty := "str_iterator") _ z t (λ _ _ _ _ _ _ h1 h2 h3=>wpAny_pyNext_wide_item h1 h2 h3) (λ _ _ _ _ _ h0 h1 h2 h3=>wpAny_pyNext_wide_end h0 h1 h2 h3)
     (λ _ _ _ _ _ h1 h2=>wpAny_pyIter_striter_wide h1 h2),⟨_,Heap.get?_push_size _ rfl,rfl,rfl⟩,fp,q⟩
  | true =>
    exact wpAny_pyIter_ascii ha ⟨s1.heap.objs.size,[s1.heap.objs.size],_,_,H1,rfl,I1.kept (t':=s1.toks) λ b o e=>Heap.get?_push_of_some _ e,turn_str (ty := "str_ascii_iterator") _ z t (λ _ _ _ _ _ _ h1 h2 h3=>wpAny_pyNext_ascii_item h1 h2 h3) (λ _ _ _ _ _ h0 h1 h2 h3=>wpAny_pyNext_ascii_end h0 h1 h2 h3)
     (λ _ _ _ _ _ h1 h2=>wpAny_pyIter_striter_ascii h1 h2),⟨_,Heap.get?_push_size _ rfl,rfl,rfl⟩,fp,q⟩
theorem walk_tx (l:List Nat):Walk (Its (tx l)) (l.map λ c=>vt [c]) (λ _=>True):=walk_str
theorem strsAre_of:∀ {ls:List (List Nat)} {us:List Value},Vals (ls.map vt) us->StrsAre us (ls.map tx)
 | [],_,.nil=>.nil
 | l::ls,_,.cons r t=>by
   obtain ⟨k,rfl⟩:=r
   exact .cons _ _ (strsAre_of t)
theorem sum_lens (ls:List (List Nat)):((ls.map tx).map (·.length)).sum=ls.flatten.length:=by
 induction ls with
 | nil=>rfl
 | cons l r ih=>rw [List.map_cons,List.map_cons,List.sum_cons,ih,tx_len,List.flatten_cons,List.length_append]
def between (sep:List Nat):List (List Nat)->List Nat
 | []=>[]
 | [l]=>l
 | l::m::r=>l++sep++between sep (m::r)
theorem between_nil (ls:List (List Nat)):between [] ls=ls.flatten:=by
 induction ls with
 | nil=>rfl
 | cons l r ih =>
   cases r with
   | nil=>simp [between]
   | cons m r=>unfold between; rw [ih]; simp
theorem tx_join (sep:List Nat):∀ ls:List (List Nat),Txt.join (tx sep) (ls.map tx)=tx (between sep ls):=by
 intro ls
 show Builtin.Str.glued (tx sep) (ls.map tx)=_
 rw [StrLaws.glued_eq_join]
 induction ls with
 | nil=>rfl
 | cons l r ih =>
   cases r with
   | nil=>rfl
   | cons m r =>
     rw [List.map_cons,List.map_cons]
     show tx l++tx sep++Str.join (tx sep) (tx m::r.map tx)=_
     rw [List.map_cons] at ih
     rw [ih,tx_app,tx_app]
     rfl
def rJoin (K:PySem.W.Frag):V->List V->Hp->VK->Prop:=λ x vs H Q=>∃ sep p ls,x=vt sep/\vs=[.ref p]/\(SqL K H p (ls.map vt)\/SqT K H p (ls.map vt))/\ls.flatten.length+ls.length*sep.length<=16777216/\Q (vt (between sep ls)) H
theorem mt_join:MtR X "str.join" (rJoin X.K):=by
 intro pins s σ H x vs v us Q I rx rs h
 obtain ⟨sep,p,ls,rfl,rfl,hp,hz,q⟩:=h
 obtain ⟨t,rfl⟩:=rx
 obtain ⟨u,rfl,ru⟩:=vals1 rs
 cases (show u=Value.ref p from ru)
 rw [show vt (between sep ls)=.str (Txt.join (tx sep) (ls.map tx)) by rw [tx_join]] at q
 have hok:((ls.map tx).map (·.length)).sum+(ls.map tx).length*(tx sep).length<=16777216:=by rw [sum_lens,List.length_map,tx_len]; exact hz
 have fin:∀ t' k,EP X pins σ Q (.str (Txt.join (tx sep) (ls.map tx)) t') { s with toks:=k }:=λ t' k=>⟨.str _,H,I.tok k,⟨t',rfl⟩,q⟩
 rcases hp with hp | hp
 ·obtain ⟨its,rv,p',_⟩:=I.list hp
  exact join_list p'.isList (by simpa using strsAre_of rv) hok fin
 ·obtain ⟨its,rv,p',_⟩:=I.tuple hp
  exact join_tuple p' (by simpa using strsAre_of rv) hok fin
def SignOk (z:Str):Prop:=z.length<=100000/\∀ c ∈ z.cps.toList,c<16^8
def PF (X:Cx) (e:Expr) (t:St->Hp->(Str->Hp->Prop)->Prop):Prop:=∀ (pins:List (Addr × Obj)) (s:Shared) (σ:St) (H:Hp) (Q:Str->Hp->Prop),Inv X pins σ H s->t σ H Q->
 wpAny (model X.prog X.w) X.A (eval e X.env) (λ u s'=>∃ z tk H',u=.str z tk/\Inv X pins σ H' s'/\Q z H') X.xe s
theorem pf_str {z:Str} {j pos}:PF X (.Constant (.str z) j pos) (λ _ H Q=>Q z H):=λ _ _ _ H _ I h=>Calls.Constant_str ⟨z,_,H,rfl,I.tok _,h⟩
theorem pf_repr {e:Expr} {te:TE} {pos:Pos} (he:PE X e te):PF X (.FormattedValue e 114 none pos) (λ σ H Q=>te σ H λ x H1=>∃ z,x=.str z/\SignOk z/\∀ y:Str,y.length<=10*z.length+2->Q y H1):=by
 intro pins s σ H Q I h
 refine wpAny_FormattedValue_repr (thn (he pins s σ H _ I h) λ v s1 ⟨x,H1,I1,r1,z,e1,hz,q⟩=>?_)
 subst e1
 obtain ⟨t,rfl⟩:=r1
 have hl:=StrLaws.reprText_len z hz.2
 have hs:(PySem.reprText z).length<=sizeLine:=by have:=hz.1; rw [sizeLine_eq]; omega
 refine wpAny_pyReprObj_str ?_ hs
 exact wpAny_formatField_str ⟨_,_,H1,rfl,I1.tok _,q _ hl⟩ ⟨_,_,H1,rfl,I1.tok _,q _ hl⟩ hs
def PFs (X:Cx) (es:List Expr) (t:Str->St->Hp->(Str->Hp->Prop)->Prop):Prop:=∀ (acc:Str) (pins:List (Addr × Obj)) (s:Shared) (σ:St) (H:Hp) (Q:Str->Hp->Prop),Inv X pins σ H s->t acc σ H Q->
 Joins (model X.prog X.w) X.A X.xe (evalEach es X.env) acc (λ out s'=>∃ H',Inv X pins σ H' s'/\Q out H') s
theorem pfs_nil:PFs X [] (λ acc _ H Q=>Q acc H):=λ acc pins s σ H Q I h=>⟨H,I,h⟩
theorem pfs_cons {e:Expr} {es:List Expr} {t:St->Hp->(Str->Hp->Prop)->Prop} {u:Str->St->Hp->(Str->Hp->Prop)->Prop} (he:PF X e t) (hs:PFs X es u):
 PFs X (e::es) (λ acc σ H Q=>t σ H λ z H1=>(acc++z).length<=sizeLine/\u (acc++z) σ H1 Q):=by
 intro acc pins s σ H Q I h
 show wpAny _ _ (eval e X.env) _ _ s
 exact thn (he pins s σ H _ I h) λ v s1 ⟨z,tk,H1,e1,I1,hz,q⟩=>⟨z,tk,e1,hz,hs (acc++z) pins s1 σ H1 Q I1 q⟩
def tJoined (u:Str->St->Hp->(Str->Hp->Prop)->Prop):TE:=λ σ H Q=>u Str.empty σ H λ out H1=>out.length<=sizeLine/\Q (.str out) H1
theorem joins_mono {M:Model} {A:Around} {E:Value->Shared->Prop}:∀ (ps:List (Sem Value)) (acc:Str) (Q Q':Str->Shared->Prop) (s:Shared),(∀ z s,Q z s->Q' z s)->Joins M A E ps acc Q s->Joins M A E ps acc Q' s
 | [],_,_,_,_,k,h=>k _ _ h
 | p::ps,acc,Q,Q',s,k,h=>thn h λ v s1 ⟨y,t,e,hz,hr⟩=>⟨y,t,e,hz,joins_mono ps _ Q Q' s1 k hr⟩
theorem pe_joined {e1 e2:Expr} {es:List Expr} {u:Str->St->Hp->(Str->Hp->Prop)->Prop} {pos:Pos} (h:PFs X (e1::e2::es) u):PE X (.JoinedStr (e1::e2::es) pos) (tJoined u):=by
 intro pins s σ H Q I hq
 refine wpAny_JoinedStr (joins_mono _ _ _ _ _ (λ z s' ⟨H',I',hz,q⟩=>⟨hz,.str z,H',I'.tok _,⟨_,rfl⟩,q⟩) (h Str.empty pins s σ H _ I hq))
end
end L2
set_option maxHeartbeats 4000000
namespace L2
open PySem PySem.Spec PyProof.Rows
def addNew (acc:List Nat) (c:Nat):List Nat:=if c ∈ acc then acc else acc++[c]
def firsts (l:List Nat):List Nat:=l.foldl addNew []
theorem firsts_snoc (l:List Nat) (c:Nat):firsts (l++[c])=addNew (firsts l) c:=by unfold firsts; rw [List.foldl_append]; rfl
theorem addNew_mem (acc:List Nat) (d c:Nat):c ∈ addNew acc d ↔ c ∈ acc\/c=d:=by
 unfold addNew
 split
 ·rename_i h
  exact ⟨.inl,λ z=>z.elim id λ e=>e ▸ h⟩
 ·rw [List.mem_append,List.mem_singleton]
theorem fold_mem:∀ (l acc:List Nat) (c:Nat),c ∈ l.foldl addNew acc ↔ c ∈ acc\/c ∈ l
 | [],acc,c=>by simp
 | d::r,acc,c=>by rw [List.foldl_cons,fold_mem r,addNew_mem,List.mem_cons,or_assoc]
theorem firsts_mem (l:List Nat) (c:Nat):c ∈ firsts l ↔ c ∈ l:=by unfold firsts; rw [fold_mem]; simp
theorem fold_len:∀ (l acc:List Nat),(l.foldl addNew acc).length<=acc.length+l.length/\((l.foldl addNew acc).length=acc.length+l.length ↔ l.Nodup/\∀ c ∈ l,c ∉ acc)
 | [],acc=>by simp
 | d::r,acc=>by
   obtain ⟨h1,h2⟩:=fold_len r (addNew acc d)
   rw [List.foldl_cons]
   by_cases hd:d ∈ acc
   ·have e:addNew acc d=acc:=by unfold addNew; rw [if_pos hd]
    rw [e] at h1 h2 ⊢
    rw [List.length_cons]
    refine ⟨by omega,λ z=>absurd z (by omega),λ z=>absurd hd (z.2 d List.mem_cons_self)⟩
   ·have e:addNew acc d=acc++[d]:=by unfold addNew; rw [if_neg hd]
    rw [e] at h1 h2 ⊢
    rw [List.length_append,List.length_singleton] at h1 h2
    rw [List.length_cons]
    refine ⟨by omega,λ z=>?_,λ z=>?_⟩
    ·obtain ⟨n1,n2⟩:=h2.mp (by omega)
     refine ⟨List.nodup_cons.mpr ⟨λ q=>n2 d q (List.mem_append_right _ List.mem_cons_self),n1⟩,λ c hc q=>?_⟩
     rcases List.mem_cons.mp hc with e' | e'
     ·rw [e'] at q; exact hd q
     ·exact n2 c e' (List.mem_append_left _ q)
    ·obtain ⟨n1,n2⟩:=z
     have n3:=List.nodup_cons.mp n1
     have:=h2.mpr ⟨n3.2,λ c hc q=>by
      rcases List.mem_append.mp q with q | q
      ·exact n2 c (List.mem_cons_of_mem _ hc) q
      ·have:c=d:=by simpa using q
       rw [this] at hc; exact n3.1 hc⟩
     omega
theorem firsts_le (l:List Nat):(firsts l).length<=l.length:=by have:=(fold_len l []).1; simpa [firsts] using this
theorem firsts_all (l:List Nat):(firsts l).length=l.length ↔ l.Nodup:=by
 have:=(fold_len l []).2
 simpa [firsts] using this
def memb (l:List Nat):Str->Bool:=λ z=>decide (∃ c ∈ firsts l,z=tx [c])
theorem memb_snoc (l:List Nat) (c:Nat) (z:Str):memb (l++[c]) z=(memb l z || decide (z=tx [c])):=by
 unfold memb
 rw [Bool.eq_iff_iff,Bool.or_eq_true,decide_eq_true_eq,decide_eq_true_eq,decide_eq_true_eq]
 constructor
 ·rintro ⟨d,hd,rfl⟩
  rw [firsts_mem,List.mem_append,List.mem_singleton] at hd
  rcases hd with h | rfl
  ·exact .inl ⟨d,(firsts_mem l d).mpr h,rfl⟩
  ·exact .inr rfl
 ·rintro (⟨d,hd,rfl⟩ | rfl)
  ·exact ⟨d,by rw [firsts_mem] at hd ⊢; exact List.mem_append_left _ hd,rfl⟩
  ·exact ⟨c,by rw [firsts_mem]; exact List.mem_append_right _ List.mem_cons_self,rfl⟩
theorem memb_len (l:List Nat) (c:Nat):(firsts (l++[c])).length=if memb l (tx [c])=true then (firsts l).length else (firsts l).length+1:=by
 rw [firsts_snoc]
 have e:memb l (tx [c])=decide (c ∈ firsts l):=by
  unfold memb
  rw [Bool.eq_iff_iff,decide_eq_true_eq,decide_eq_true_eq]
  constructor
  ·rintro ⟨d,hd,e⟩
   have:[c]=[d]:=tx_inj e
   rw [List.cons.inj this |>.1]; exact hd
  ·exact λ h=>⟨c,h,rfl⟩
 rw [e]
 unfold addNew
 by_cases h:c ∈ firsts l
 ·rw [if_pos h,decide_eq_true h,if_pos rfl]
 ·rw [if_neg h,decide_eq_false h,if_neg Bool.false_ne_true,List.length_append]; rfl
def SignSet (P:Program) (w:World) (h:Heap) (a:Addr) (l:List Nat):Prop:=h.SetOf (strKind P w) a (memb l) (firsts l).length
theorem SignSet.at {P:Program} {w:World} {h h':Heap} {a:Addr} {l:List Nat} (S:SignSet P w h a l) (k:∀ o,h.get? a=some o->h'.get? a=some o):SignSet P w h' a l:=by
 obtain ⟨o,es,ep,tb,ho,r⟩:=S
 exact ⟨o,es,ep,tb,k o ho,r⟩
section
variable {prog:Program} {w:World} {A:Around} {R:Result->Shared->Prop} {I:Addr} {fp wr:List Addr} {G:Array GenState->Array GenState->Prop} {l:List Nat} {St:Nat->Shared->Prop}
theorem sign_loop (W:WalksS prog w A.in1 I fp wr G l.length (SignAt (tx l)) St) (S:Addr) (hSf:S ∉ fp) (hb:l.length+1<scanBound):∀ (k i:Nat) (s:Shared),l.length-i=k->i<=l.length->St i s->SignSet prog w s.heap S (l.take i)->
 (∀ s',Moved (S::wr) G s s'->SignSet prog w s'.heap S l->R (.ok (.ret .none)) s')->codeAny (model prog w) A (.builtin "set.update.loop" ⟨[.ref S,.ref I],[]⟩) R s:=by
 have nw:S ∉ wr:=λ h=>hSf (W.sub _ h)
 have more:∀ b ∈ wr,b ∈ S::wr:=λ b hb=>List.mem_cons_of_mem _ hb
 intro k
 induction k with
 | zero =>
   intro i s hk hi hst hS hR
   have e:i=l.length:=by omega
   rw [e,List.take_length] at hS
   rw [e] at hst
   refine codeAny_builtin PyProof.Rows.F.entry_set_update_loop ?_
   rw [Around.under_plainId PyProof.Rows.F.plain_set_update_loop _]
   show wpAny _ A.in1 (pyNext (.ref I) >>= _) _ _ s
   refine wpAny_bind (W.done s _ _ hst λ s' hm=>?_)
   show wpAny _ A.in1 (ret Value.none) _ _ s'
   exact wpAny_pure (hR s' (hm.mono more) (hS.at λ o ho=>hm.heap S o nw ho))
 | succ k ih =>
   intro i s hk hi hst hS hR
   have hlt:i<l.length:=by omega
   refine codeAny_builtin PyProof.Rows.F.entry_set_update_loop ?_
   rw [Around.under_plainId PyProof.Rows.F.plain_set_update_loop _]
   show wpAny _ A.in1 (pyNext (.ref I) >>= _) _ _ s
   refine wpAny_bind (W.item i s _ _ hlt hst λ v s' hP hst' hm=>?_)
   obtain ⟨c,u,hc,rfl⟩:=hP
   have hc':l[i]?=some c:=by rw [← tx_cps l,Array.getElem?_toList]; exact hc
   have hS':=hS.at (h':=s'.heap) λ o ho=>hm.heap S o nw ho
   have tk:l.take (i+1)=l.take i++[c]:=by rw [List.take_add_one,hc']; rfl
   have len:(firsts (l.take i)).length+1<scanBound:=by have:=firsts_le (l.take i); rw [List.length_take] at this; omega
   show wpAny _ A.in1 (holding [Value.str (tx [c]) u] (setAdd S (.str (tx [c]) u)) >>= _) _ _ s'
   refine wpAny_bind (wpAny_holding ?_)
   unfold setAdd
   refine wpAny_holding (wpAny_bind ((strKind prog w).pyHash (k:=tx [c]) (by simp [PySem.strKind,Value.isStrOf]) ?_))
   refine wpAny_setAddHashed_of (knd:=strKind prog w) (s:={ s' with toks:=s'.toks+1 }) (by simp [PySem.strKind,Value.isStrOf]) rfl hS' len λ h' hsb hS2=>?_
   have hS3:SignSet prog w h' S (l.take (i+1)):=by
    rw [tk]
    exact PyProof.Rows.SetOf_congr hS2 (λ z=>(memb_snoc _ c z).symm) (memb_len _ c).symm
   refine wpAny_pure ⟨plainId_quiet PyProof.Rows.F.plain_set_update_loop _,ih (i+1) _ (by omega) hlt (W.frame _ s' _ _ hst' (Nat.le_succ _) λ b hb o e=>?_) hS3 λ s'' hm'' hS''=>?_⟩
   ·rw [hsb.2 b (λ z:b=S=>hSf (z ▸ hb))]; exact e
   ·refine hR s'' (Moved.trans W.gtrans ((hm.mono more).then_heap (Nat.le_succ _) λ b o hb e=>?_) hm'') hS''
    rw [hsb.2 b (λ z:b=S=>hb (z ▸ List.mem_cons_self))]; exact e
end
namespace SetF
theorem no_str_set:isSubtype (.type "str") (.type "set")=pure false:=by rw [isSubtype_type]; kernel_rfl
theorem no_str_frz:isSubtype (.type "str") (.type "frozenset")=pure false:=by rw [isSubtype_type]; kernel_rfl
end SetF
section
variable {prog:Program} {w:World} {A:Around} {E:Value->Shared->Prop} {s:Shared}
abbrev emptySet (led:Bool):Obj:={ cls:=.type "set",dict:=none,data:=.set #[] 0 (.fresh 0 0 led) }
theorem signs_none {h:Heap} {a:Addr} {led:Bool} (e:h.get? a=some (emptySet led)):SignSet prog w h a [] :=
 ⟨_,#[],0,_,e,⟨rfl,rfl,rfl⟩,rfl,(λ _ z=>nomatch z),(λ k=>Iff.intro (λ z=>(of_decide_eq_true z).elim λ c hc=>nomatch hc.1) (λ z=>z.elim λ _ hc=>nomatch hc.1)),by decide,by rfl,rfl⟩
set_option maxHeartbeats 8000000 in
theorem call_set_signs {l:List Nat} {t:Tok} {Q:Value->Shared->Prop} (hh:A.handled=none) (hb:l.length+1<scanBound)
 (h:∀ (h':Heap) (tk:Nat),SignSet prog w h' s.heap.objs.size l->(∀ b o,b<s.heap.objs.size->s.heap.get? b=some o->h'.get? b=some o)->Q (.ref s.heap.objs.size) { s with heap:=h',toks:=tk }):
 wpAny (model prog w) A (call (.type "set") [.str (tx l) t]) Q E s:=by
 obtain ⟨_,_,q1⟩:=F.called_set.mro
 have q2:=F.called_set.made
 have q3:=F.called_set.sub
 refine wpAny_call (codeAny_of_tree (wpAny_pure ⟨Code.quiet_builtin _ (by decide +kernel),codeAny_builtin F.entry_type_call ?_⟩))
 rw [Around.under_plain (weight_type_call_type "set" [.str (tx l) t] []) rfl]
 have q4:=F.called_set.notType
 have q5:=F.called_set.canCreate
 have q6:=F.typeCall_set_1 (.str (tx l) t)
 repeat (any_goals (first | assumption | wp_step))
 refine codeAny_mono (code_set_new_1 (.str (tx l) t) (E:=E) (Q₁:=λ x s1=>∃ led:Bool,x=.ref s.heap.objs.size/\s1={ s with heap:=s.heap.push (emptySet led) }) λ led=>⟨led,rfl,rfl⟩) λ r s1 hr=>?_
 cases r with
 | error e=>exact hr
 | ok fl =>
   cases fl with
   | ret x =>
     obtain ⟨led,rfl,rfl⟩:=hr
     have g1:(s.heap.push (emptySet led)).get? s.heap.objs.size=some (emptySet led):=Heap.get?_push_size _ rfl
     have g2:Shared.TypeIs { s with heap:=s.heap.push (emptySet led) } (.ref s.heap.objs.size) "set":=⟨_,g1,rfl⟩
     have q7:=F.called_set.init.lookup
     have q8:=F.called_set.init.bind (.ref s.heap.objs.size)
     repeat (any_goals (first | assumption | wp_step))
     refine codeAny_mono (codeAny_call_builtin (R:=wants (λ r s2=>r=.none/\∃ h' tk,s2={ s with heap:=h',toks:=tk }/\SignSet prog w h' s.heap.objs.size l/\(∀ b o,b<s.heap.objs.size->s.heap.get? b=some o->h'.get? b=some o)) E)
      F.called_set.init.plain F.entry_set_init (check_set_init_1 g2 ?_)) λ r2 s2 hr2=>?_
     ·have q9:=SetF.no_str_set
      have q10:=SetF.no_str_frz
      have q11:(Value.type "str" == Value.type "dict")=false:=by decide
      unfold Builtin.«set.__init__» noKeywords Builtin.Frozenset.updateFrom
      generalize hPI:pyIter=PI
      wp_walk
      subst hPI
      refine wpAny_pyIter_str λ o St Wk st0=>?_
      refine wpAny_bind (wpAny_runValue ?_)
      have nS:s.heap.objs.size ∉ [(s.heap.push (emptySet led)).objs.size]:=by
       rw [Heap.size_push]; simp only [List.mem_singleton]; exact Nat.ne_of_lt (Nat.lt_succ_self _)
      have sz:(tx l).cps.size=l.length:=List.size_toArray ..
      refine sign_loop (l:=l) (by rw [← sz]; exact (Wk A.in1.in1.in1 (by simp [hh])).toS) s.heap.objs.size nS hb (l.length-0) 0 _ (by omega) (Nat.zero_le _) st0 (signs_none (led:=led) (Heap.get?_push_of_some _ g1)) λ s' hm hS'=>?_
      obtain ⟨h',g',d',tk',os'⟩:=s'
      have eg:g'=s.gens:=hm.gens
      have ed:d'=s.drawn:=hm.drawn
      have eo:os'=s.os:=hm.os
      subst eg; subst ed; subst eo
      refine wpAny_pure ?_
      show wpAny _ _ (ret Value.none) _ _ _
      refine wpAny_pure ⟨rfl,h',tk',rfl,hS',λ b o hb e=>hm.heap b o ?_ (Heap.get?_push_of_some _ (Heap.get?_push_of_some _ e))⟩
      have n2:b ≠ (s.heap.push (emptySet led)).objs.size:=by rw [Heap.size_push]; exact Nat.ne_of_lt (Nat.lt_succ_of_lt hb)
      simp only [List.mem_cons,List.mem_singleton,List.not_mem_nil,or_false,not_or]
      exact ⟨Nat.ne_of_lt hb,n2⟩
     ·cases r2 with
      | error e=>exact hr2
      | ok f2 =>
        cases f2 with
        | ret r =>
          obtain ⟨rfl,h',tk,rfl,hS',hk'⟩:=hr2
          repeat (any_goals (first | assumption | wp_step))
          exact h _ _ hS' hk'
        | _=>exact hr2.elim
   | _=>exact hr.elim
end
end L2
set_option maxHeartbeats 4000000
namespace L2
open PySem PySem.Spec PyProof.Rows
structure PAs (X:Cx) (es:List Expr) (t:TA):Prop where
 h:PA X es t
theorem pas_nil {X:Cx}:PAs X [] tNil:=⟨pa_nil⟩
theorem pas_cons {X:Cx} {e:Expr} {te:TE} {es:List Expr} {t:TA} (ha:PE X e te) (hr:PAs X es t) (hs:starEach (e::es) X.env=(false,eval e X.env)::starEach es X.env:=by rfl):PAs X (e::es) (tCons te t):=⟨pa_cons ha hr.h hs⟩
def setO (P:Program) (w:World) (a:Addr) (l:List Nat):HO:=.ext λ h=>SignSet P w h a l
section
variable {X:Cx}
theorem callSet (hc:X.calm=true):CallR X (.type "set") (λ xs H Q=>∃ l,xs=[vt l]/\l.length+1<4096/\∀ p,H p=none->Q (.ref p) (upd H p (setO X.prog X.w p l))):=by
 intro pins s σ H vs us Q I r h
 obtain ⟨l,rfl,hl,q⟩:=h
 obtain ⟨u,rfl,ru⟩:=vals1 r
 obtain ⟨t,rfl⟩:=ru
 have hn:H s.heap.objs.size=none:=I.hok.fresh (Nat.le_refl _)
 refine call_set_signs (I.ok.hd hc) hl λ h' tk hS k=>⟨.ref s.heap.objs.size,_,I.laid (o:=setO X.prog X.w s.heap.objs.size l) (λ b u e=>k b u (Heap.lt_size e) e) (Nat.le_refl _) ?_,rfl,q _ hn⟩
 have ho:∃ o,h'.get? s.heap.objs.size=some o:=let ⟨o,_,_,_,ho,_⟩:=hS; ⟨o,ho⟩
 exact ⟨hS,ho,λ h1 h2 S k=>S.at k⟩
theorem callLenSet:CallR X (.builtin "len") (λ xs H Q=>∃ p l,xs=[.ref p]/\H p=some (setO X.prog X.w p l)/\Q (.int (firsts l).length) H):=by
 intro pins s σ H vs us Q I r h
 obtain ⟨p,l,rfl,hp,q⟩:=h
 obtain ⟨u,rfl,ru⟩:=vals1 r
 cases (show u=Value.ref p from ru)
 obtain ⟨hS,_⟩:=I.hok p _ hp
 obtain ⟨o,es,ep,tb,ho,hex,hd,_,_,hb,hf,hn⟩:=hS
 have hb':es.size<4096:=hb
 refine call_len_set ho hex hd hf (by omega) ?_
 exact ⟨.int es.size,H,I.tok _,⟨_,rfl⟩,by rw [hn]; exact q⟩
theorem truth_at {bs:List Bool} {us:List Value} (r:Vals (bs.map V.bl) us) (A:Around):TruthOf X.prog X.w A (λ i v=>us.toArray[i]?=some v) (λ i=>bs.getD i false):=by
 intro i v s Q E hv hq
 have hv':us[i]?=some v:=by simpa using hv
 have hl:=r.length
 rw [List.length_map] at hl
 have hi:i<bs.length:=by have:=(List.getElem?_eq_some_iff.mp hv').1; omega
 obtain ⟨u,hu,ru⟩:=r.get (i:=i) (x:=.bl bs[i]) (by rw [List.getElem?_map,List.getElem?_eq_getElem hi]; rfl)
 rw [hv'] at hu; cases hu
 cases (show v=Value.bool bs[i] from ru)
 refine wpAny_truthy_bool ?_
 have e:bs.getD i false=bs[i]:=by rw [List.getD_eq_getElem?_getD,List.getElem?_eq_getElem hi]; rfl
 rw [← e]; exact hq
theorem all_range (bs:List Bool):(List.range bs.length).all (λ i=>bs.getD i false)=bs.all id:=by
 induction bs with
 | nil=>rfl
 | cons b r ih =>
   rw [List.length_cons,List.range_succ_eq_map,List.all_cons,List.all_map,List.all_cons,← ih]
   rfl
theorem any_range (bs:List Bool):(List.range bs.length).any (λ i=>bs.getD i false)=bs.any id:=by
 induction bs with
 | nil=>rfl
 | cons b r ih =>
   rw [List.length_cons,List.range_succ_eq_map,List.any_cons,List.any_map,List.any_cons,← ih]
   rfl
theorem callAll (hc:X.calm=true):CallR X (.builtin "all") (λ xs H Q=>∃ (p:Addr) (bs:List Bool),xs=[.ref p]/\SqL X.K H p (bs.map V.bl)/\Q (.bl (bs.all id)) H):=by
 intro pins s σ H vs us Q I r h
 obtain ⟨p,bs,rfl,hp,q⟩:=h
 obtain ⟨u,rfl,ru⟩:=vals1 r
 cases (show u=Value.ref p from ru)
 obtain ⟨its,rv,pl,_⟩:=I.list hp
 have hlen:its.toArray.size=bs.length:=by have:=rv.length; rw [List.length_map] at this; simp [this]
 have hne:p ≠ s.heap.objs.size:=by obtain ⟨o,ho,_⟩:=pl.isList; exact Nat.ne_of_lt (Heap.lt_size ho)
 have hh:=I.ok.hd hc
 refine call_all_walk (wpAny_pyIter_list pl.isList ⟨s.heap.objs.size,_,_,_,_,_,λ i=>bs.getD i false,rfl,Walks.list (by simp [hh]) _ p hne its.toArray,⟨⟨_,Heap.get?_push_size _ rfl,rfl,rfl⟩,pl.isList.push _⟩,truth_at rv _,λ h' tk k=>?_⟩)
 rw [hlen,all_range]
 refine ⟨.bl _,H,I.kept (t':=tk) λ b u e=>k b u ?_ (Heap.get?_push_of_some _ e),rfl,q⟩
 intro z
 exact absurd (Heap.lt_size e) (by rw [List.mem_singleton.mp z]; exact Nat.lt_irrefl _)
theorem callAny (hc:X.calm=true):CallR X (.builtin "any") (λ xs H Q=>∃ (p:Addr) (bs:List Bool),xs=[.ref p]/\SqL X.K H p (bs.map V.bl)/\Q (.bl (bs.any id)) H):=by
 intro pins s σ H vs us Q I r h
 obtain ⟨p,bs,rfl,hp,q⟩:=h
 obtain ⟨u,rfl,ru⟩:=vals1 r
 cases (show u=Value.ref p from ru)
 obtain ⟨its,rv,pl,_⟩:=I.list hp
 have hlen:its.toArray.size=bs.length:=by have:=rv.length; rw [List.length_map] at this; simp [this]
 have hne:p ≠ s.heap.objs.size:=by obtain ⟨o,ho,_⟩:=pl.isList; exact Nat.ne_of_lt (Heap.lt_size ho)
 have hh:=I.ok.hd hc
 refine call_any_walk (wpAny_pyIter_list pl.isList ⟨s.heap.objs.size,_,_,_,_,_,λ i=>bs.getD i false,rfl,Walks.list (by simp [hh]) _ p hne its.toArray,⟨⟨_,Heap.get?_push_size _ rfl,rfl,rfl⟩,pl.isList.push _⟩,truth_at rv _,λ h' tk k=>?_⟩)
 rw [hlen,any_range]
 refine ⟨.bl _,H,I.kept (t':=tk) λ b u e=>k b u ?_ (Heap.get?_push_of_some _ e),rfl,q⟩
 intro z
 exact absurd (Heap.lt_size e) (by rw [List.mem_singleton.mp z]; exact Nat.lt_irrefl _)
theorem vals_signs:∀ (l:List Nat) (us:List Value),us.length=l.length->(∀ (j:Nat) v,us[j]?=some v->SignAt (tx l) j v)->Vals (l.map λ c=>vt [c]) us:=by
 intro l us hl h
 have key:∀ (us:List Value) (m:Nat),us.length+m=l.length->(∀ (j:Nat) v,us[j]?=some v->SignAt (tx l) (m+j) v)->Vals ((l.drop m).map λ c=>vt [c]) us:=by
  intro us
  induction us with
  | nil=>intro m hm _; rw [List.drop_of_length_le (by simp at hm; omega)]; exact .nil
  | cons u r ih =>
    intro m hm hs
    rw [List.length_cons] at hm
    obtain ⟨c,tk,hc,rfl⟩:=hs 0 u rfl
    have hc':l[m]?=some c:=by rw [← tx_cps l,Array.getElem?_toList]; exact hc
    obtain ⟨hlt,e⟩:=List.getElem?_eq_some_iff.mp hc'
    rw [List.drop_eq_getElem_cons hlt,e,List.map_cons]
    refine .cons ⟨tk,rfl⟩ (ih (m+1) (by omega) λ j v hv=>?_)
    have:=hs (j+1) v hv
    rw [show m+(j+1)=m+1+j by omega] at this
    exact this
 have:=key us 0 (by omega) (λ j v hv=>by rw [Nat.zero_add]; exact h j v hv)
 rwa [List.drop_zero] at this
theorem callListS (hc:X.calm=true):CallR X (.type "list") (λ xs H Q=>∃ l,xs=[vt l]/\l.length<=sizeLine/\∀ p,H p=none->Q (.ref p) (upd H p (.lst (l.map λ c=>vt [c])))):=by
 intro pins s σ H vs us Q I r h
 obtain ⟨l,rfl,hl,q⟩:=h
 obtain ⟨u,rfl,ru⟩:=vals1 r
 obtain ⟨t,rfl⟩:=ru
 have sz:(tx l).cps.size=l.length:=List.size_toArray ..
 refine call_list_str (I.ok.hd hc) (tx l) t (λ h' tk acc c' k e it=>?_) (by rw [sz]; exact hl)
 have hv:=vals_signs l acc.toList (by rw [Array.length_toList,it.1,sz]) λ j v hv=>it.2 j v (by simpa using hv)
 refine ⟨.ref s.heap.objs.size,_,I.laid (o:=.lst (l.map λ c=>vt [c])) k (Nat.le_refl _) ⟨by rw [List.length_map]; exact hl,acc.toList,c',hv,by simpa using e⟩,rfl,q _ (I.hok.fresh (Nat.le_refl _))⟩
def callList (hc:X.calm=true):=(call_list_of (X:=X)).or (callListS hc)
theorem eqVs_min {xs ys:List V}:((List.range (min xs.length ys.length)).all (λ j=>eqV (xs.getD j .non) (ys.getD j .non)) && xs.length == ys.length)=eqVs xs ys:=by
 by_cases h:xs.length=ys.length
 ·rw [h,Nat.min_self,beq_self_eq_true,Bool.and_true,← h,eqVs_all h]
 ·rw [eqVs_len h,beq_eq_false_iff_ne.mpr h,Bool.and_false]
def rEqT (K:PySem.W.Frag) (neg:Bool):R2:=λ x y H Q=>∃ a b xs ys,x=.ref a/\y=.ref b/\SqT K H a xs/\SqT K H b ys/\xs.all flatV=true/\ys.all flatV=true/\Q (.bl (if neg then !eqVs xs ys else eqVs xs ys)) H
theorem op_eqT (hu:X.A.units<cLine):OpR X (compareOp .Eq) (rEqT X.K false):=by
 intro pins s σ H x y v u Q I rx ry h
 obtain ⟨a,b,xs,ys,rfl,rfl,ha,hb,fx,fy,q⟩:=h
 cases (show v=Value.ref a from rx)
 cases (show u=Value.ref b from ry)
 obtain ⟨its,rv,p,_⟩:=I.tuple ha
 obtain ⟨its2,rv2,p2,_⟩:=I.tuple hb
 refine SeqAt.eq_tupleAt (e:=λ j=>eqV (xs.getD j .non) (ys.getD j .non)) p p2 hu (λ j h1 h2=>eqAt_items rv rv2 fx fy j h1 h2) ?_
 refine ⟨.bl _,H,I,rfl,?_⟩
 rw [show its.toArray.size=xs.length by simp [rv.length],show its2.toArray.size=ys.length by simp [rv2.length],eqVs_min]
 exact q
theorem op_neT (hu:X.A.units<cLine):OpR X (compareOp .NotEq) (rEqT X.K true):=by
 intro pins s σ H x y v u Q I rx ry h
 obtain ⟨a,b,xs,ys,rfl,rfl,ha,hb,fx,fy,q⟩:=h
 cases (show v=Value.ref a from rx)
 cases (show u=Value.ref b from ry)
 obtain ⟨its,rv,p,_⟩:=I.tuple ha
 obtain ⟨its2,rv2,p2,_⟩:=I.tuple hb
 refine SeqAt.RcNeAt.tuples (e:=λ j=>eqV (xs.getD j .non) (ys.getD j .non)) p p2 hu (λ j h1 h2=>eqAt_items rv rv2 fx fy j h1 h2) X.prog X.w X.xe _ ?_
 refine ⟨.bl _,H,I,rfl,?_⟩
 rw [show its.toArray.size=xs.length by simp [rv.length],show its2.toArray.size=ys.length by simp [rv2.length],eqVs_min]
 exact q
def oEqA (hu:X.A.units<cLine):=(op_eq (X:=X)).or ((op_eqL hu).or (op_eqT hu))
theorem Inv.big {pins:List (Addr × Obj)} {σ:St} {H:Hp} {s:Shared} (I:Inv X pins σ H s):sysModules<s.heap.objs.size :=
 Nat.lt_trans (by decide) (I.mod.glob.keeps I.bk).lt
def tDNewK:TE:=λ _ H Q=>∀ p,H p=none->Q (.ref p) (upd H p (.dK []))
theorem pe_dnewK {pos:Pos}:PE X (.Dict [] [] pos) tDNewK:=λ pins s σ H Q I h =>
 wpAny_Dict_empty ⟨.ref s.heap.objs.size,_,I.laid (a:=s.heap.objs.size) (o:=.dK []) (t':=s.toks) (λ _ _ q=>Heap.get?_push_of_some _ q) (Nat.le_refl _)
  ⟨Nat.zero_le _,beq_eq_false_iff_ne.mpr (Ne.symm (Nat.ne_of_lt I.big)),[],.nil,Heap.DictOf.new s.heap⟩,rfl,h _ (I.hok.fresh (Nat.le_refl _))⟩
end
end L2
namespace L2
open PySem PySem.Spec PyProof.Rows
section
variable {X:Cx}
theorem vals_intsAt:∀ {ns:List Int} {us:List Value},Vals (ns.map V.int) us->∀ (j:Nat) v,us[j]?=some v->∃ t,v=.int (ns.getD j 0) t
 | [],_,r,j,v,h=>by
   cases r; cases h
 | n::ns,_,r,j,v,h=>by
   cases r with
   | cons a r =>
     cases j with
     | zero=>cases h; obtain ⟨t,e⟩:=a; exact ⟨t,e⟩
     | succ j=>exact vals_intsAt r j v h
theorem preSum_list:∀ (ns:List Int),PySem.preSum (λ j=>ns.getD j 0) ns.length=ns.sum:=by
 intro ns
 have go:∀ (l:List Int) (k:Nat),k<=l.length->PySem.preSum (λ j=>l.getD j 0) k=(l.take k).sum:=by
  intro l k
  induction k with
  | zero=>intro _; rw [List.take_zero]; rfl
  | succ k ih =>
    intro h
    show PySem.preSum _ k+l.getD k 0=_
    rw [ih (by omega),List.take_add_one,List.sum_append_int,List.getElem?_eq_getElem (by omega),List.getD_eq_getElem?_getD,List.getElem?_eq_getElem (by omega)]
    simp
 rw [go ns _ (Nat.le_refl _),List.take_length]
theorem callSum (hc:X.calm=true):CallR X (.builtin "sum") (λ xs H Q=>∃ (p:Addr) (ns:List Int),xs=[.ref p]/\SqL X.K H p (ns.map V.int)/\Q (.int ns.sum) H):=by
 intro pins s σ H vs us Q I r h
 obtain ⟨p,ns,rfl,hp,q⟩:=h
 obtain ⟨u,rfl,ru⟩:=vals1 r
 cases (show u=Value.ref p from ru)
 obtain ⟨its,rv,pl,_⟩:=I.list hp
 have hlen:its.toArray.size=ns.length:=by have:=rv.length; rw [List.length_map] at this; simp [this]
 have hl:=pl.isList
 obtain ⟨o,ho,_⟩:=id hl
 have hne:p ≠ s.heap.objs.size:=Nat.ne_of_lt (Heap.lt_size ho)
 have hh:=I.ok.hd hc
 have W:=(Walks.list (prog:=X.prog) (w:=X.w) (A:=X.A.in1) hh s.heap.objs.size p hne its.toArray).toS
 rw [hlen] at W
 refine call_sum_walkAnyS (wpAny_pyIter_list hl ?_)
 refine ⟨s.heap.objs.size,_,_,_,_,_,_,λ j=>ns.getD j 0,rfl,W,⟨⟨_,Heap.get?_push_size _ rfl,rfl,rfl⟩,hl.push _⟩,λ b hb=>?_,λ i v hP=>vals_intsAt rv i v (by simpa using hP),λ s' t' hm=>?_⟩
 ·rcases List.mem_cons.mp hb with rfl | hb
  ·exact Heap.lt_size (Heap.get?_push_size _ rfl)
  ·obtain rfl:=List.mem_singleton.mp hb
   exact Heap.lt_size (Heap.get?_push_of_some _ ho)
 ·obtain ⟨h',g',d',tk',os'⟩:=s'
  have e1:g'=s.gens:=hm.gens
  have e2:d'=s.drawn:=hm.drawn
  have e3:os'=s.os:=hm.os
  subst e1 e2 e3
  rw [preSum_list]
  exact ⟨.int _,H,I.kept (t':=tk') λ b u e=>hm.heap b u (λ hb=>absurd (Heap.lt_size e) ((List.mem_singleton.mp hb) ▸ Nat.lt_irrefl _)) (Heap.get?_push_of_some _ e),⟨_,rfl⟩,q⟩
end
end L2
namespace L2
open PySem PySem.Spec PyProof.Rows
section
variable {K:PySem.W.Frag}
theorem same_new {H:Hp} {p:Addr} (h:H p=none) (o:HO):Same H (upd H p o):=λ b u q=>by rw [upd_ne (ne_of_none q h)]; exact q
theorem same_over {H H3:Hp} {p:Addr} (s:Same H H3) (h:H p=none) (o:HO):Same H (upd H3 p o):=λ b u q=>by rw [upd_ne (ne_of_none q h)]; exact s b u q
theorem same_tup {H H':Hp} {a:Addr} {xs:List V} (e:Same H H') (h:SqT K H a xs):SqT K H' a xs:=by
 rcases h with (h | ⟨o,h⟩) | h
 ·exact .inl (.inl (e _ _ h))
 ·exact .inl (.inr ⟨o,e _ _ h⟩)
 ·exact .inr h
theorem same_lst {H H':Hp} {a:Addr} {xs:List V} (e:Same H H') (h:SqL K H a xs):SqL K H' a xs:=e.seq h
theorem same_at {H H':Hp} {a:Addr} {o:HO} (e:Same H H') (h:H a=some o):H' a=some o:=e _ _ h
theorem new_tup {H:Hp} {p a:Addr} {o:HO} {xs:List V} (n:H p=none) (h:SqT K H a xs):SqT K (upd H p o) a xs:=same_tup (same_new n o) h
theorem new_lst {H:Hp} {p a:Addr} {o:HO} {xs:List V} (n:H p=none) (h:SqL K H a xs):SqL K (upd H p o) a xs:=same_lst (same_new n o) h
theorem new_at {H:Hp} {p a:Addr} {o u:HO} (n:H p=none) (h:H a=some u):upd H p o a=some u:=same_new n o _ _ h
theorem new_same {H H1:Hp} {p:Addr} {o:HO} (n:H1 p=none) (h:Same H H1):Same H (upd H1 p o):=h.trans (same_new n o)
theorem ne_at {H:Hp} {p a:Addr} {o u:HO} (n:a ≠ p) (h:H a=some u):upd H p o a=some u:=by rw [upd_ne n]; exact h
theorem ne_tup {H:Hp} {p a:Addr} {o:HO} {xs:List V} (n:a ≠ p) (h:SqT K H a xs):SqT K (upd H p o) a xs:=by
 rcases h with (h | ⟨u,h⟩) | h
 ·exact .inl (.inl (ne_at n h))
 ·exact .inl (.inr ⟨u,ne_at n h⟩)
 ·exact .inr h
theorem ne_lst {H:Hp} {p a:Addr} {o:HO} {xs:List V} (n:a ≠ p) (h:SqL K H a xs):SqL K (upd H p o) a xs:=by
 rcases h with (h | ⟨u,h⟩) | h
 ·exact .inl (.inl (ne_at n h))
 ·exact .inl (.inr ⟨u,ne_at n h⟩)
 ·exact .inr h
theorem over_same {H H1:Hp} {p:Addr} {o:HO} (n:H p=none) (h:Same H H1):Same H (upd H1 p o):=same_over h n o
theorem ixL {H:Hp} {Q:VK} {p:Addr} {xs:List V} {i:Int} {v:V} (h:SqL K H p xs) (e:atI xs i=some v) (q:Q v H):rIx K (.ref p) (.int i) H Q:=.inl ⟨p,xs,i,v,rfl,rfl,h,e,q⟩
theorem ixT {H:Hp} {Q:VK} {p:Addr} {xs:List V} {i:Int} {v:V} (h:SqT K H p xs) (e:atI xs i=some v) (q:Q v H):rIx K (.ref p) (.int i) H Q:=.inr (.inl ⟨p,xs,i,v,rfl,rfl,h,e,q⟩)
theorem ixS {H:Hp} {Q:VK} {l:List Nat} {i:Int} {c:Nat} (h:l.length<=sizeLine) (e:atI l i=some c) (q:Q (vt [c]) H):rIx K (vt l) (.int i) H Q:=.inr (.inr ⟨tx l,i,c,rfl,rfl,by rw [tx_len]; exact h,e,q⟩)
theorem appL {H:Hp} {Q:VK} {l:Addr} {xs:List V} {y:V} (h:H l=some (.lst xs)) (z:xs.length<sizeLine) (q:Q .non (upd H l (.lst (xs++[y])))):rAppend (.ref l) [y] H Q:=⟨l,xs,y,rfl,rfl,h,z,q⟩
theorem tyL {H:Hp} {p:Addr} {xs:List V} (h:SqL K H p xs):tyV K "list" (.ref p) H:=.inl ⟨rfl,_,h⟩
theorem cutT {H:Hp} {Q:VK} {l:List Nat} {lo hi:Option Int} (z:l.length<=sizeLine) (q:Q (vt (cutL l lo hi)) H):rSlS (vt l) lo hi H Q:=⟨tx l,rfl,by rw [tx_len]; exact z,q⟩
theorem lenvS {H:Hp} {l:List Nat} (h:l.length<=sizeLine):LenV K (vt l) H l.length:=⟨by rw [tx_len]; exact h,(tx_len l).symm⟩
theorem ifT {c A B:Prop} [Decidable c] (h:c) (a:A):if decide c=true then A else B:=by rw [decide_eq_true h]; exact iteT a
theorem ifF {c A B:Prop} [Decidable c] (h:¬ c) (b:B):if decide c=true then A else B:=by rw [decide_eq_false h]; exact iteF b
theorem ifnT {c A B:Prop} [Decidable c] (h:¬ c) (a:A):if (!decide c)=true then A else B:=by rw [decide_eq_false h]; exact iteT a
theorem ifnF {c A B:Prop} [Decidable c] (h:c) (b:B):if (!decide c)=true then A else B:=by rw [decide_eq_true h]; exact iteF b
theorem if2 {c A B:Prop} [Decidable c] (a:c->A) (b:¬ c->B):if decide c=true then A else B:=by
 by_cases h:c
 ·exact ifT h (a h)
 ·exact ifF h (b h)
theorem ifn2 {c A B:Prop} [Decidable c] (a:¬ c->A) (b:c->B):if (!decide c)=true then A else B:=by
 by_cases h:c
 ·exact ifnF h (b h)
 ·exact ifnT h (a h)
theorem vtx {l m:List Nat}:(vt l=vt m) ↔ l=m:=⟨λ h=>tx_inj (V.str.inj h),congrArg _⟩
theorem cdivK {i j:Int} (h:0<j) (h2:j<1000000000):CDivL i j:=by
 refine ⟨by omega,Nat.lt_of_lt_of_le (show j.natAbs<2^30 by omega) (Nat.pow_le_pow_right (by decide) (by decide))⟩
def MulOk (i j:Int):Prop:=CMul i j\/CMulL i j\/CMulB i j
theorem mulN {X:Cx}:OpR X (binaryOp .Mult) (rI MulOk λ i j=>.int (i*j)):=opI λ _ _ _ _ _ _ _ hc q=>by
 rcases hc with hc | hc | hc
 ·exact mul_int q hc.ok
 ·exact mul_int q (PySem.IntMulOk.of_le (bits_of hc.1) (bits_of hc.2) (by decide))
 ·exact mul_int q (PySem.IntMulOk.of_le hc.1 hc.2 (by decide))
def rCatX:R2:=λ x y H Q=>∃ l m,x=vt l/\y=vt m/\l.length+m.length<=sizeLine/\Q (vt (l++m)) H
theorem op_catX {X:Cx}:OpR X (binaryOp .Add) rCatX:=λ pins s σ H x y v u Q I rx ry h=>by
 obtain ⟨l,m,rfl,rfl,hz,q⟩:=h
 exact op_add_str pins s σ H _ _ v u Q I rx ry ⟨_,_,rfl,rfl,by rw [tx_len,tx_len]; exact hz,by rw [tx_app]; exact q⟩
theorem ip_catX {X:Cx}:OpR X (inplaceOp .Add) rCatX:=λ pins s σ H x y v u Q I rx ry h=>by
 obtain ⟨l,m,rfl,rfl,hz,q⟩:=h
 exact iop_add_str pins s σ H _ _ v u Q I rx ry ⟨_,_,rfl,rfl,by rw [tx_len,tx_len]; exact hz,by rw [tx_app]; exact q⟩
def rRepX:R2:=λ x y H Q=>∃ l n,x=vt l/\y=.int n/\(0<=n/\n<=4000/\l.length<=4000)/\Q (vt (List.replicate n.toNat l).flatten) H
theorem op_repX {X:Cx}:OpR X (binaryOp .Mult) rRepX:=λ pins s σ H x y v u Q I rx ry h=>by
 obtain ⟨l,n,rfl,rfl,⟨h1,h2,h3⟩,q⟩:=h
 exact op_mul_str pins s σ H _ _ v u Q I rx ry ⟨_,_,rfl,rfl,h1,h2,by rw [tx_len]; exact h3,by rw [tx_rep]; exact q⟩
def oMulN {X:Cx}:=(mulN (X:=X)).or (op_repX.or op_rep)
def oAddN {X:Cx}:=(op_add (X:=X)).or (op_catX.or (op_cat.or op_catT))
theorem catX {H:Hp} {Q:VK} {l m:List Nat} (z:l.length+m.length<=sizeLine) (q:Q (vt (l++m)) H):rCatX (vt l) (vt m) H Q:=⟨l,m,rfl,rfl,z,q⟩
theorem mulL {i j:Int} (h1:-(2^64)<i) (h2:i<2^64):MulOk i j:=.inl (.inl ⟨h1,h2⟩)
theorem mulR {i j:Int} (h1:-(2^64)<j) (h2:j<2^64):MulOk i j:=.inl (.inr ⟨h1,h2⟩)
theorem mulB {i j:Int} (h1:i.natAbs<2^100000) (h2:j.natAbs<2^100000):MulOk i j:=.inr (.inl ⟨h1,h2⟩)
theorem ip_mulN {X:Cx}:OpR X (inplaceOp .Mult) (rI MulOk λ i j=>.int (i*j)):=opI λ _ _ _ _ _ _ _ hc q=>by
 rcases hc with hc | hc | hc
 ·exact PyProof.Rows.imul_int q hc.ok
 ·exact PyProof.Rows.imul_int q (PySem.IntMulOk.of_le (bits_of hc.1) (bits_of hc.2) (by decide))
 ·exact PyProof.Rows.imul_int q (PySem.IntMulOk.of_le hc.1 hc.2 (by decide))
theorem ip_addN {X:Cx}:OpR X (inplaceOp .Add) (rI0 λ i j=>.int (i+j)):=opI0 λ _ _ _ _ _ _ _ q=>PyProof.Rows.iadd_int q
def ipAdd {X:Cx}:=(ip_addN (X:=X)).or ip_catX
def ipMul {X:Cx}:=(ip_mulN (X:=X)).or (op_no (X:=X))
theorem lc_grow {J:It} {xs:List V} {Ok:Hp->Prop} (Wk:Walk J xs Ok) {te:TE} {H:Hp} {D:Addr} {Q:VK} {caps:St} (hD:H D=none) (R:Hp->Nat->V->Prop) (hm:∀ H1 H2 j v,(∀ b o,b ≠ D->H1 b=some o->H2 b=some o)->R H1 j v->R H2 j v)
 (hl:∀ H1,Same H H1->Ok H1) (hz:xs.length<sizeLine)
 (hs:∀ (i:Nat) (x:V) (H1:Hp) (ys:List V) (C:VK),xs[i]?=some x->Same H H1->H1 D=some (.lst ys)->(∀ H2 v,Same H1 H2->R H2 i v->C v H2)->te (some x::caps) H1 C)
 (hd:∀ H1 ys,Same H H1->H1 D=some (.lst ys)->ys.length=xs.length->(∀ (j:Nat) v,ys[j]?=some v->R H1 j v)->Q (.ref D) H1):LCgo J (gName 0) tTrue te D (none::caps) (upd H D (.lst [])) Q:=by
 refine lc_walk Wk (λ i σ H'=>∃ r ys,σ=r::caps/\Same H H'/\H' D=some (.lst ys)/\ys.length=i/\∀ (j:Nat) v,ys[j]?=some v->R H' j v) ⟨none,[],rfl,same_new hD _,upd_same,rfl,λ j v h=>nomatch h⟩ (λ i σ H' _ ⟨_,_,_,e,_⟩=>hl _ e) ?_ ?_
 ·rintro i x σ H' hx ⟨r,ys,rfl,hS,hy,hn,hR⟩
  have hi:=(List.getElem?_eq_some_iff.mp hx).1
  simp only [gName,tTrue,if_true]
  refine hs i x H' ys _ hx hS hy λ H2 v h2 hv=>⟨ys,h2 _ _ hy,by omega,_,_,rfl,?_,upd_same,by rw [List.length_append,hn]; rfl,λ j u hu=>?_⟩
  ·exact same_over (hS.trans h2) hD _
  ·have up:∀ b o,b ≠ D->H2 b=some o->upd H2 D (.lst (ys++[v])) b=some o:=λ b o hb e=>by rw [upd_ne hb]; exact e
   by_cases z:j<ys.length
   ·rw [List.getElem?_append_left z] at hu
    exact hm _ _ _ _ up (hm _ _ _ _ (λ b o _ e=>h2 b o e) (hR j u hu))
   ·rw [List.getElem?_append_right (by omega)] at hu
    have:j-ys.length=0:=by
     have:=(List.getElem?_eq_some_iff.mp hu).1
     simp at this; omega
    rw [this] at hu
    cases hu
    have:j=i:=by omega
    rw [this]; exact hm _ _ _ _ up hv
 ·rintro σ H' ⟨r,ys,rfl,hS,hy,hn,hR⟩
  exact hd H' ys hS hy hn hR
def MonE (t:TE):Prop:=∀ (σ:St) (H:Hp) (Q Q':VK),(∀ v H,Q v H->Q' v H)->t σ H Q->t σ H Q'
def MonR (r:R2):Prop:=∀ (x y:V) (H:Hp) (Q Q':VK),(∀ v H,Q v H->Q' v H)->r x y H Q->r x y H Q'
theorem mon_var {i:Nat}:MonE (tVar i):=λ _ _ _ _ hq ⟨v,e,q⟩=>⟨v,e,hq _ _ q⟩
theorem mon_c {v:V}:MonE (tC v):=λ _ _ _ _ hq q=>hq _ _ q
theorem mon_op {r:R2} {ta tb:TE} (hr:MonR r) (ha:MonE ta) (hb:MonE tb):MonE (tOp r ta tb):=λ σ H Q Q' hq h =>
 ha σ H _ _ (λ x H1 h1=>hb σ H1 _ _ (λ y H2 h2=>hr x y H2 _ _ hq h2) h1) h
theorem mon_or {r r':R2} (h:MonR r) (h':MonR r'):MonR (λ x y H Q=>r x y H Q\/r' x y H Q):=λ x y H Q Q' hq z=>by
 rcases z with z | z
 ·exact .inl (h x y H Q Q' hq z)
 ·exact .inr (h' x y H Q Q' hq z)
theorem mon_rI {C:Int->Int->Prop} {g:Int->Int->V}:MonR (rI C g):=λ _ _ _ _ _ hq ⟨i,j,e1,e2,c,q⟩=>⟨i,j,e1,e2,c,hq _ _ q⟩
theorem mon_rI0 {g:Int->Int->V}:MonR (rI0 g):=λ _ _ _ _ _ hq ⟨i,j,e1,e2,q⟩=>⟨i,j,e1,e2,hq _ _ q⟩
theorem mon_ix:MonR (rIx K):=λ x y H Q Q' hq z=>by
 rcases z with ⟨p,xs,i,v,e1,e2,h,a,q⟩ | ⟨p,xs,i,v,e1,e2,h,a,q⟩ | ⟨p,xs,i,e1,e2,h,a,q⟩
 ·exact .inl ⟨p,xs,i,v,e1,e2,h,a,hq _ _ q⟩
 ·exact .inr (.inl ⟨p,xs,i,v,e1,e2,h,a,hq _ _ q⟩)
 ·exact .inr (.inr ⟨p,xs,i,e1,e2,h,a,hq _ _ q⟩)
theorem mon_catX:MonR rCatX:=λ _ _ _ _ _ hq ⟨l,m,e1,e2,z,q⟩=>⟨l,m,e1,e2,z,hq _ _ q⟩
theorem mon_repX:MonR rRepX:=λ _ _ _ _ _ hq ⟨l,m,e1,e2,z,q⟩=>⟨l,m,e1,e2,z,hq _ _ q⟩
theorem mon_rep:MonR rRep:=λ _ _ _ _ _ hq ⟨l,k,xs,e1,e2,a,b,c,z,q⟩=>⟨l,k,xs,e1,e2,a,b,c,z,λ p hp=>hq _ _ (q p hp)⟩
theorem mon_cat:MonR rCat:=λ _ _ _ _ _ hq h=>by
 unfold rCat at h ⊢
 obtain ⟨a,b,c,d,e1,e2,h1,h2,z,q⟩:=h
 exact ⟨a,b,c,d,e1,e2,h1,h2,z,λ p hp=>hq _ _ (q p hp)⟩
theorem mon_catT:MonR (rCatT K):=λ _ _ _ _ _ hq h=>by
 unfold rCatT at h ⊢
 obtain ⟨a,b,c,d,e1,e2,h1,h2,n,z,q⟩:=h
 exact ⟨a,b,c,d,e1,e2,h1,h2,n,z,λ y=>hq _ _ (q.1 y),λ y p hp=>hq _ _ (q.2 y p hp)⟩
theorem mon_lt:MonR (λ x y H Q=>∃ i j,x=.str i/\y=.str j/\Q (.bl (decide (i.cps.toList<j.cps.toList))) H):=λ _ _ _ _ _ hq ⟨i,j,e1,e2,q⟩=>⟨i,j,e1,e2,hq _ _ q⟩
theorem mon_call2 {sp:Sp} {E:XK} {ta tb:TE} (hs:∀ vs H Q Q',(∀ v H,Q v H->Q' v H)->sp vs H Q E->sp vs H Q' E) (ha:MonE ta) (hb:MonE tb):MonE (tCall sp [] E (tCons ta (tCons tb tNil))):=λ σ H Q Q' hq h =>
 ha σ H _ _ (λ x H1 h1=>hb σ H1 _ _ (λ y H2 h2=>hs _ _ _ _ hq h2) h1) h
theorem mon_test {t:TE} (h:MonE t):∀ (σ:St) (H:Hp) (Q Q':Bool->Hp->Prop),(∀ b H1,Q b H1->Q' b H1)->tTest t σ H Q->tTest t σ H Q':=λ σ H _ _ hq z=>h σ H _ _ (λ _ _ ⟨k,e,q⟩=>⟨k,e,hq _ _ q⟩) z
end
end L2
namespace PySem
theorem wpAny_excMatches_up {M:Model} {A:Around} {E:Value->Shared->Prop} {nm q:Str} {R C N:Addr} {bs bm:List Value} {hdct:Bool} {sn:List Str} {sub:List Value} {ab:Bool} {col:Option Bool} {dd:Option Addr} {k0 k1 k2 k3 k5:Option Value} {newId:String} {K:PySem.W.Frag} {h:Heap} {g:Array GenState} {d:Drawn} {t:Nat} {os:OsState} {e:Addr} {oe:Obj} {Q:Bool->Shared->Prop}
 (X:K.In h) (hup:PySem.W.mroIn K R (.ref C)=some true) (hC:h.get? C=some (excClassObj nm q C N bs bm hdct sn sub ab col dd k0 k1 k2 k3 k5 newId)) (he:h.get? e=some oe) (hcls:oe.cls=.ref R) (hbase:bm.contains (.type "BaseException")=true)
 (hq:Q true ⟨h,g,d,t,os⟩):wpAny M A (excMatches (.ref e) (.ref C)) Q E ⟨h,g,d,t,os⟩:=by
 have hcB:(Value.ref C::bm).contains (.type "BaseException")=true:=by rw [List.contains_cons,hbase,Bool.or_true]
 have f:=tc_notTuple
 unfold excMatches
 repeat (first | (with_reducible refine wpAny_loadPart_at he ?_; rw [hcls]) | with_reducible refine wpAny_loadPart_at hC ?_ | (with_reducible refine wpAny_isSubtype_exc hC ?_; rw [hcB]) | with_reducible refine XT.sub_K X hup ?_ | wp_step)
 exact hq
end PySem
namespace L2
open PySem PySem.Spec PyProof.Rows
def tTryU (K:PySem.W.Frag) (C:Addr) (i:Nat) (tb:Pins->(Value->Shared->Prop)->XS->TS) (th:Pins->Value->TS):TS:=λ D σ H=>∀ pins xe,
 tb pins xe (λ c σ' H'=>∃ R,c=.ref R/\PySem.W.mroIn K R (.ref C)=some true/\∀ a,H' a=none->∀ ps e,th ps e (D.hand i) (σ'.set i (some (.ref a))) (upd H' a (excO a R))) D σ H
section
variable {X:Cx} {C:Addr} {i:Nat} {n x:Str} {body:List Stmt} {b₀:Stmt} {suite:List Stmt} {np hpos pos:Pos} {tb:Pins->(Value->Shared->Prop)->XS->TS} {th:Pins->Value->TS} {bmB:List Value} {newId:String}
theorem ps_tryU (hA:X.calm=true) (hex:X.ex=[]) (hst:X.stack=X.env::X.outer) (hfr:X.env.frame=some X.env.locals) (hN:X.N.Nodup) (hi:X.N[i]?=some n) (hk:X.env.kindOf n=some .local) (hg:Gl X x) (hm:X.mg x=some (.ref C))
 (hq:PySem.W.excIn X.K C bmB newId=true) (hbase:bmB.contains (.type "BaseException")=true)
 (hb:∀ (pins:List (Addr × Obj)) (xe:Value->Shared->Prop) (Φ:XS),PassX X.prog X.w (X.tryX pins xe) Φ->PSs (X.tryX pins xe) body (tb pins xe Φ))
 (hh:∀ (pins:List (Addr × Obj)) (e:Value),PSs (X.handX pins e) (b₀::suite) (th pins e)) (hdb:(x == ("__debug__" : Str))=false:=by decide):
 PS X (.Try body [.ExceptHandler (some (.Name x np)) (some n) (b₀::suite) hpos] [] [] pos) (tTryU X.K C i tb th):=by
 intro pins s σ H D I h
 have ok:=I.ok
 refine wpAny_Try_except (thn (hb pins _ _ ?_ [] s σ H D (I.tryX _) (h _ _)) λ f s1 z=>?_)
 ·intro pins' σ1 H1 s1 e s2 I1 hc
  obtain ⟨a,Cv,H2,rfl,y,R,rfl,hup,hΦ⟩:=hc
  obtain ⟨B,a0,hf,k1,k2,k3⟩:=y.ex
  have hf:Heap.FlyingW B (X.env::X.outer) a (.ref R) a0 s2.heap:=hst ▸ hf
  show wpAny _ _ (noteFrame _ _) _ _ _
  refine wpAny_looks_onW (by rw [ok.frames,hst]) hfr hf λ h4 hh4 hs4=>?_
  refine wpAny_landsW hh4 λ h5 hf5 hs5=>?_
  have mv:=Fly.move y.un y.hok (hst ▸ hf) k1 k2 k3 hf5.1 (hs4.trans hs5)
  have I5:Inv X pins σ1 H2 { s2 with heap:=h5 }:=Inv.untry ok (Inv.call' (s':={ s2 with heap:=h5 }) (ch:=[]) I1 y.os mv.1 mv.2 y.bare λ b z=>absurd z (by simp))
  have J5:=I5.handX (.ref a)
  obtain ⟨ob,hob,hobc⟩:=hf5.there
  refine wpAny_handleBy_cons (codeAny_handlers_test ?_) (by intro q; cases q)
  refine ld_glob (X:=X.handX pins (.ref a)) J5 hg hm ?_ hdb
  obtain ⟨bm,N,nm,qn,bs,hdct,sn,sub,ab,col,dd,k0,k1',k2',k3',k5,mN,hC,hNs,hni,T⟩:=exc_obj I5.kIn hq
  refine wpAny_excMatches_up I5.kIn hup hC hob hobc (T.hasType hbase) (codeAny_handlers_suite_as ?_)
  refine lands_againW hf5 λ h6 hf6 hs6=>?_
  have mv6:=Fly.move y.un y.hok (hst ▸ hf) k1 k2 k3 hf6.1 ((hs4.trans hs5).trans hs6)
  have I6:Inv X pins σ1 H2 { s2 with heap:=h6 }:=Inv.untry ok (Inv.call' (s':={ s2 with heap:=h6 }) (ch:=[]) I1 y.os mv6.1 mv6.2 y.bare λ b z=>absurd z (by simp))
  have lc:∀ b o,s1.heap.get? b=some o->b ≠ a:=λ b o e z=>by rw [z,y.new] at e; cases e
  have I7:Inv X pins σ1 (upd H2 a (excO a R)) { s2 with heap:=h6 }:=by
   refine I6.adopt y.gone ?_ ?_ (λ x c e=>?_) (λ p hp=>?_) ?_
   ·cases q:X.s₀.heap.get? a with
    | none=>rfl
    | some o =>
      by_cases hx:a ∈ X.ex
      ·rw [hex] at hx; exact absurd hx (by simp)
      ·obtain ⟨o1,e1⟩:=I1.base.there a o q hx
       exact absurd rfl (lc a o1 e1)
   ·obtain ⟨m,⟨o,_,_,ho,_⟩,_⟩:=I1.loc
    exact lc _ o ho
   ·obtain ⟨v,o,ho,_⟩:=I1.cell x c e
    exact lc _ o ho
   ·exact lc _ _ (I1.pin p (List.mem_append_left _ hp)).1
   ·obtain ⟨o6,ho6,hc6⟩:=hf6.there
    exact ⟨⟨o6,ho6,hc6⟩,⟨o6,ho6⟩,λ h1 h2 ⟨o,e1,e2⟩ k=>⟨o,k o e1,e2⟩⟩
  refine store_ok (X:=X.handX pins (.ref a)) (v:=.ref a) (I7.handX (.ref a)) hN hi (.inl hk) rfl (λ s8 I8=>?_) (.inr hk)
  refine wpAny_mono (hh pins (.ref a) [] s8 _ _ _ I8 (hΦ a y.gone _ _)) (λ f s9 z=>?_) λ _ _ z=>z.elim
  cases f with
  | next=>obtain ⟨σ',H',J,q⟩:=z; exact name_gone (X:=X) (J.unhand ok) hN hi hk λ s' J'=>⟨_,H',J',q⟩
  | brk=>obtain ⟨σ',H',J,q⟩:=z; exact name_gone (X:=X) (J.unhand ok) hN hi hk λ s' J'=>⟨_,H',J',q⟩
  | cont=>obtain ⟨σ',H',J,q⟩:=z; exact name_gone (X:=X) (J.unhand ok) hN hi hk λ s' J'=>⟨_,H',J',q⟩
  | ret u=>obtain ⟨v,σ',H',J,r,q⟩:=z; exact name_gone (X:=X) (J.unhand ok) hN hi hk λ s' J'=>⟨v,_,H',J',r,q⟩
 ·cases f with
  | next=>exact wpAny_execs_nil (SP.untry ok z)
  | brk=>exact SP.untry ok z
  | cont=>exact SP.untry ok z
  | ret u=>exact SP.untry ok z
end
end L2
namespace PySem
namespace F
theorem owner_rev:Manifest.owners.lookup (String.ofList ['d','e','s','r','e','v','e','r'].reverse)=some Manifest.sig_reversed:=by kernel_rfl
theorem slot_rev_next:Slot "reversed" "__next__" "reversed.__next__" :=
 .of (owner := "reversed") (n := "__next__") (by rw [typeLookup_type,builtinLookup_eq_fast]; kernel_rfl) (by decide +kernel) (by decide +kernel) (by decide +kernel)
  (by first | exact .inl (by decide +kernel) | exact .inr (by decide +kernel)) (by rw [isSubtype_type]; kernel_rfl)
theorem entry_rev_next:entryFor table "reversed.__next__" = some Builtin.«reversed.__next__»:=entryFor_of_tree (by kernel_rfl)
theorem args_rev_next_1 (a:Value):argsOk "reversed.__next__" ⟨[a],[]⟩:=by
 unfold argsOk; rw [signature?_of (id := "reversed.__next__") (n:=['_','_','t','x','e','n','_','_']) (o:=['d','e','s','r','e','v','e','r']) (by kernel_rfl) owner_rev]; kernel_rfl
theorem slot_rev_iter:Slot "reversed" "__iter__" "reversed.__iter__" :=
 .of (owner := "reversed") (n := "__iter__") (by rw [typeLookup_type,builtinLookup_eq_fast]; kernel_rfl) (by decide +kernel) (by decide +kernel) (by decide +kernel)
  (by first | exact .inl (by decide +kernel) | exact .inr (by decide +kernel)) (by rw [isSubtype_type]; kernel_rfl)
theorem args_rev_iter_1 (a:Value):argsOk "reversed.__iter__" ⟨[a],[]⟩:=by
 unfold argsOk; rw [signature?_of (id := "reversed.__iter__") (n:=['_','_','r','e','t','i','_','_']) (o:=['d','e','s','r','e','v','e','r']) (by kernel_rfl) owner_rev]; kernel_rfl
theorem entry_rev_iter:entryFor table "reversed.__iter__" = some Builtin.«dict_keyiterator.__iter__» :=
 entryFor_alias (id' := "dict_keyiterator.__iter__") (by kernel_rfl) (by first | rfl | decide +kernel | (unfold String.splitOn; simp +decide [String.splitOnAux])) (by decide +kernel) (by kernel_rfl)
theorem slot_rev_hint:Slot "reversed" "__length_hint__" "reversed.__length_hint__" :=
 .of (owner := "reversed") (n := "__length_hint__") (by rw [typeLookup_type,builtinLookup_eq_fast]; kernel_rfl) (by decide +kernel) (by decide +kernel) (by decide +kernel)
  (by first | exact .inl (by decide +kernel) | exact .inr (by decide +kernel)) (by rw [isSubtype_type]; kernel_rfl)
theorem entry_rev_hint:entryFor table "reversed.__length_hint__" = some Builtin.«reversed.__length_hint__»:=entryFor_of_tree (by kernel_rfl)
theorem args_rev_hint_1 (a:Value):argsOk "reversed.__length_hint__" ⟨[a],[]⟩:=by
 unfold argsOk; rw [signature?_of (id := "reversed.__length_hint__") (n:=['_','_','t','n','i','h','_','h','t','g','n','e','l','_','_']) (o:=['d','e','s','r','e','v','e','r']) (by kernel_rfl) owner_rev]; kernel_rfl
theorem slot_rev_init:Slot "reversed" "__init__" "object.__init__" :=
 .of (owner := "object") (n := "__init__") (by rw [typeLookup_type,builtinLookup_eq_fast]; kernel_rfl) (by decide +kernel) (by decide +kernel) (by decide +kernel)
  (by first | exact .inl (by decide +kernel) | exact .inr (by decide +kernel)) (by rw [isSubtype_type]; kernel_rfl)
theorem called_rev:TypeCalled "reversed" "reversed.__new__" "object.__init__" :=
 ⟨by decide +kernel,by decide +kernel,⟨_,_,mro_reversed⟩,made_reversed,by decide +kernel,by rw [isSubtype_type]; kernel_rfl,slot_rev_init⟩
theorem str_no_rev:typeLookup (.type "str") "__reversed__" = pure none:=by rw [typeLookup_type,builtinLookup_eq_fast]; kernel_rfl
theorem rev_no_len:typeLookup (.type "reversed") "__len__" = pure none:=by rw [typeLookup_type,builtinLookup_eq_fast]; kernel_rfl
theorem lri_no_len:typeLookup (.type "list_reverseiterator") "__len__" = pure none:=by rw [typeLookup_type,builtinLookup_eq_fast]; kernel_rfl
theorem lri_hint:typeLookup (.type "list_reverseiterator") "__length_hint__" = pure (some (.builtin "list_reverseiterator.__length_hint__")):=by rw [typeLookup_type,builtinLookup_eq_fast]; kernel_rfl
theorem str_getitem:typeLookup (.type "str") "__getitem__" = pure (some (.builtin "str.__getitem__")):=by rw [typeLookup_type,builtinLookup_eq_fast]; kernel_rfl
end F
section
variable {prog:Program} {w:World} {A:Around} {E:Value->Shared->Prop} {s:Shared}
def revStrObj (x:Str) (t:Tok) (i:Int):Obj:={ cls:=.type "reversed",data:=.fields #[.str x t,rawInt i] }
theorem code_reversed_str {x:Str} {t:Tok} {Q₁:Value->Shared->Prop} (hx:x.length<=sizeLine)
 (h:∀ tk,Q₁ (.ref s.heap.objs.size) { s with heap:=s.heap.push (revStrObj x t ((x.length:Int)-1)),toks:=tk }):
 codeAny (model prog w) A (.call (.builtin "reversed.__new__") ⟨[.type "reversed",.str x t],[]⟩) (wants Q₁ E) s:=by
 refine codeAny_of_tree ?_
 show wpAny _ A.in1 (do checkBuiltinCall "reversed.__new__" ⟨[.type "reversed",.str x t],[]⟩; again (.builtin "reversed.__new__" ⟨[.type "reversed",.str x t],[]⟩)) _ _ s
 refine wpAny_bind (wpAny_of_eq (F.newCall_reversed_1 _) (wpAny_pure ⟨plainId_quiet F.plain_reversed_new _,codeAny_builtin F.entry_reversed_new ?_⟩))
 rw [Around.under_plainId F.plain_reversed_new _]
 unfold Builtin.«reversed.__new__»
 refine wpAny_bind (wpAny_of_eq (newClass_reversed _) ?_)
 try dsimp only
 refine wpAny_bind (wpAny_of_eq (a:=()) (by first | rfl | kernel_rfl) ?_)
 refine wpAny_bind (wpAny_of_eq (a:=()) (by first | rfl | kernel_rfl) ?_)
 try dsimp only
 refine wpAny_bind (wpAny_specialOf (T := "str") (v:=.str x t) rfl F.str_no_rev ?_)
 try dsimp only
 refine wpAny_bind (wpAny_bind (wpAny_isInstance (T := "str") (v:=.str x t) (b:=false) rfl F.sub_str_dict ?_))
 rw [if_neg Bool.false_ne_true]
 refine wpAny_bind (wpAny_specialOf (T := "str") (v:=.str x t) rfl F.str_getitem ?_)
 dsimp only
 rw [if_pos (by decide)]
 refine wpAny_pure ?_
 rw [if_neg (by decide)]
 refine wpAny_bind (PyProof.Rows.len_str (by have:=sizeLine_eq; omega) ?_)
 refine wpAny_bind (m:=asInt? (.int _ _)) (wpAny_pure ?_)
 dsimp only
 unfold Builtin.SmallTypes.newRecord
 dsimp only
 refine wpAny_bind (wpAny_newObj_type ?_)
 exact wpAny_pure (h _)
theorem call_reversed_str {x:Str} {t:Tok} {Q:Value->Shared->Prop} (hx:x.length<=sizeLine)
 (h:∀ tk,Q (.ref s.heap.objs.size) { s with heap:=s.heap.push (revStrObj x t ((x.length:Int)-1)),toks:=tk }):wpAny (model prog w) A (call (.type "reversed") [.str x t]) Q E s:=by
 refine callType_codes (Q₁:=λ obj s₁=>obj=.ref s.heap.objs.size/\∃ tk,s₁={ s with heap:=s.heap.push (revStrObj x t ((x.length:Int)-1)),toks:=tk }) F.called_rev (F.typeCall_reversed_1 _) F.entry_object_init (code_reversed_str hx λ tk=>⟨rfl,tk,rfl⟩) λ obj s₁ h₁=>?_
 obtain ⟨rfl,tk,rfl⟩:=h₁
 have ty:({ s with heap:=s.heap.push (revStrObj x t ((x.length:Int)-1)),toks:=tk }:Shared).TypeIs (.ref s.heap.objs.size) "reversed":=⟨_,Heap.get?_push_size _ rfl,rfl⟩
 exact ⟨ty,F.args_object_init_2 _ _,object_init_meets F.called_rev.init.lookup F.called_rev.made (by decide) prog w A.in1 _ _ ⟨ty,rfl,h tk⟩⟩
def Heap.IsRevStr (h:Heap) (a:Addr) (x:Str) (t:Tok) (i:Int):Prop:=∃ o,h.get? a=some o/\o.cls=.type "reversed" /\ o.data=.fields #[.str x t,rawInt i]
theorem Heap.IsRevStr.typeIs {a:Addr} {x:Str} {t:Tok} {i:Int} (z:s.heap.IsRevStr a x t i):s.TypeIs (.ref a) "reversed":=let ⟨o,ho,hc,_⟩:=z; ⟨o,ho,hc⟩
theorem Heap.IsRevStr.at {h h':Heap} {a:Addr} {x:Str} {t:Tok} {i:Int} (z:h.IsRevStr a x t i) (e:∀ o,h.get? a=some o->h'.get? a=some o):h'.IsRevStr a x t i:=let ⟨o,ho,r⟩:=z; ⟨o,e _ ho,r⟩
theorem next_revStr_item {it:Addr} {x:Str} {t:Tok} {i c:Nat} {Q:Option Value->Shared->Prop} (hit:s.heap.IsRevStr it x t (i:Int)) (hc:x.cps[i]?=some c) (hx:x.length<=sizeLine)
 (hQ:∀ h' u tk,h'.IsRevStr it x t ((i:Int)-1)->Heap.SameBut it s.heap h'->Q (some (.str ⟨#[c]⟩ u)) { s with heap:=h',toks:=tk }):wpAny (model prog w) A (pyNext (.ref it)) Q E s:=by
 obtain ⟨o,ho,hcl,hd⟩:=id hit
 unfold pyNext
 refine wpAny_bind (wpAny_attempt (wpAny_callSpecial?_slot (name:=Str.ofString "__next__") hit.typeIs F.slot_rev_next
  (wpAny_call_entry F.slot_rev_next hit.typeIs F.entry_rev_next ?_ (F.args_rev_next_1 _))))
 unfold Builtin.«reversed.__next__»
 refine wpAny_bind (wpAny_of_eq (a:=(Value.ref it,[])) rfl ?_)
 try dsimp only
 refine wpAny_bind (wpAny_field ho hd (x:=.str x t) rfl ?_)
 refine wpAny_bind (wpAny_field ho hd (x:=rawInt (i:Int)) rfl ?_)
 show wpAny _ _ (if (i:Int)<0 then _ else _) _ _ s
 rw [if_neg (by omega)]
 refine wpAny_bind (wpAny_specialOf (T := "str") (v:=.str x t) rfl F.str_getitem ?_)
 rw [if_neg (by decide)]
 refine wpAny_bind (wpAny_mkInt ?_)
 have hi:i<x.cps.size:=by
  rcases Nat.lt_or_ge i x.cps.size with h | h
  ·exact h
  ·rw [Array.getElem?_eq_none h] at hc; cases hc
 have hs:=sizeLine_eq
 have hl:x.length=x.cps.size:=rfl
 refine wpAny_bind (wpAny_attempt (PyProof.Rows.getItem_str (c:=c) (i:=(i:Int)) (by
  have e1:decide ((i:Int)< -(2^63:Int))=false:=decide_eq_false (by omega)
  have e2:decide ((i:Int)>=2^63)=false:=decide_eq_false (by omega)
  rw [e1,e2,Bool.or_false]) (by rw [seqIndex_of (by omega) (by omega),Int.toNat_natCast]; exact hc) ?_))
 dsimp only
 refine wpAny_bind (wpAny_field ho hd (x:=rawInt (i:Int)) rfl ?_)
 try dsimp only
 refine wpAny_bind (wpAny_setField ho hd (by simp) ?_)
 refine wpAny_pure ⟨_,rfl,wpAny_pure (hQ _ _ _ ?_ (Heap.SameBut.update ..))⟩
 exact ⟨_,Heap.get?_update_self _ ho (Obj.isFreed_of_fields (Obj.data_mapFields hd _)),(Obj.cls_mapFields ..).trans hcl,by
  rw [Obj.data_mapFields hd]; simp⟩
theorem next_revStr_end {it:Addr} {x:Str} {t:Tok} {Q:Option Value->Shared->Prop} (hh:A.handled=none) (hit:s.heap.IsRevStr it x t (-1))
 (hQ:∀ h',Heap.ExtBut it s.heap h'->Q none { s with heap:=h' }):wpAny (model prog w) A (pyNext (.ref it)) Q E s:=by
 obtain ⟨o,ho,hc,hd⟩:=id hit
 unfold pyNext
 refine wpAny_bind (wpAny_attempt (wpAny_callSpecial?_slot (name:=Str.ofString "__next__") hit.typeIs F.slot_rev_next
  (wpAny_call_entry F.slot_rev_next hit.typeIs F.entry_rev_next ?_ (F.args_rev_next_1 _))))
 unfold Builtin.«reversed.__next__»
 refine wpAny_bind (wpAny_of_eq (a:=(Value.ref it,[])) rfl ?_)
 try dsimp only
 refine wpAny_bind (wpAny_field ho hd (x:=.str x t) rfl ?_)
 refine wpAny_bind (wpAny_field ho hd (x:=rawInt (-1)) rfl ?_)
 show wpAny _ _ (if (-1:Int)<0 then _ else _) _ _ s
 rw [if_pos (by decide)]
 refine wpAny_bind (wpAny_rule ?_)
 refine wpAny_bind ?_
 refine wpAny_bind (wpAny_setField ho hd (by simp) ?_)
 have ho2:=Heap.get?_update_self (Obj.mapFields λ f=>f.setIfInBounds 1 (rawInt (-1))) ho (Obj.isFreed_of_fields (Obj.data_mapFields hd _))
 refine wpAny_setField ho2 (Obj.data_mapFields hd _) (by simp) ?_
 refine wpAny_bind ?_
 first
 | show wpAny _ _ (newExc (.type "StopIteration") [] >>= _) _ _ _
 | (refine wpAny_bind ?_; show wpAny _ _ (newExc (.type "StopIteration") [] >>= _) _ _ _)
 refine wpAny_bind ?_
 simp only [newExc,newTuple]
 refine wpAny_bind (wpAny_newObj_type ?_ (by size_fits))
 refine wpAny_bind (m:=firstArgMember _ _) (wpAny_of_eq (a:=Value.none) (by first | rfl | (simp only [firstArgMember]; rfl)) ?_)
 refine wpAny_newObj_type ?_ (by size_fits)
 simp only [raiseNew]
 refine wpAny_bind (wpAny_handled ?_)
 first | rw [show A.in1.handled=none from hh] | rw [hh]
 refine wpAny_bind (wpAny_pure (wpAny_throw ?_))
 refine wpAny_bind (wpAny_isInstance (T := "StopIteration") (b:=true) ⟨_,Heap.get?_push_size _ rfl,rfl⟩ isSubtype_stop ?_)
 refine wpAny_pure (hQ _ ?_)
 refine Heap.ExtBut.push (Heap.ExtBut.push ?_ _) _
 intro b u hb e
 rw [Heap.get?_update_other _ _ (Ne.symm hb),Heap.get?_update_other _ _ (Ne.symm hb)]; exact e
theorem iter_revStr {it:Addr} {x:Str} {t:Tok} {i:Int} {Q:Value->Shared->Prop} (hit:s.heap.IsRevStr it x t i) (h:Q (.ref it) s):wpAny (model prog w) A (pyIter (.ref it)) Q E s:=by
 refine wpAny_pyIter_slot hit.typeIs F.slot_rev_iter (wpAny_call_entry F.slot_rev_iter hit.typeIs F.entry_rev_iter ?_ (F.args_rev_iter_1 _))
 show wpAny _ _ (ret (.ref it)) _ _ s
 exact wpAny_pure ⟨_,rfl, "reversed",_,hit.typeIs,F.slot_rev_next.lookup,h⟩
end
theorem Walks.strRev {prog:Program} {w:World} {A:Around} (hh:A.handled=none) (I:Addr) (x:Str) (t:Tok) (hx:x.length<=sizeLine):
 Walks prog w A I [I] [I] x.cps.size (λ i v=>∃ c u,x.cps[x.cps.size-1-i]?=some c/\v=.str ⟨#[c]⟩ u) (λ i h=>i<=x.cps.size/\h.IsRevStr I x t ((x.cps.size:Int)-1-(i:Int))) where
 sub:=λ b hb=>by simp at hb; simp [hb]
 frame:=λ _ _ _ z hk=>⟨z.1,z.2.at λ o e=>hk I (by simp) o e⟩
 item:=λ i s Q E hi z hQ=>by
  have e:(x.cps.size:Int)-1-(i:Int)=((x.cps.size-1-i:Nat):Int):=by omega
  have hit:=z.2
  rw [e] at hit
  have hc:x.cps[x.cps.size-1-i]?=some (x.cps[x.cps.size-1-i]'(by omega)):=Array.getElem?_eq_getElem (by omega)
  refine next_revStr_item hit hc hx λ h' u tk hit' hs'=>?_
  have e2:((x.cps.size-1-i:Nat):Int)-1=(x.cps.size:Int)-1-((i+1:Nat):Int):=by omega
  rw [e2] at hit'
  exact hQ _ h' tk ⟨_,u,hc,rfl⟩ ⟨hi,hit'⟩ λ b o hb eo=>hs'.extBut b o (λ h=>hb (by simp [h])) eo
 done:=λ s Q E z hQ=>by
  have e:(x.cps.size:Int)-1-(x.cps.size:Int)=-1:=by omega
  have hit:=z.2
  rw [e] at hit
  exact next_revStr_end hh hit λ h' he'=>hQ h' s.toks λ b o hb eo=>he' b o (λ h=>hb (by simp [h])) eo
 self:=λ _ _ _ _ z hQ=>iter_revStr z.2 hQ
section
variable {prog:Program} {w:World} {A:Around} {E:Value->Shared->Prop} {s:Shared}
theorem call_hint_rev {it:Addr} {x:Str} {t:Tok} {i:Int} {Q:Value->Shared->Prop} (hit:s.heap.IsRevStr it x t i) (hx:x.length<=sizeLine) (hi:i+1<=x.length)
 (h:∀ u tk,s.toks<=tk->Q (.int (i+1) u) { s with toks:=tk }):wpAny (model prog w) A (call (.builtin "reversed.__length_hint__") [.ref it]) Q E s:=by
 obtain ⟨o,ho,hc,hd⟩:=id hit
 refine wpAny_call_entry F.slot_rev_hint hit.typeIs F.entry_rev_hint ?_ (F.args_rev_hint_1 _)
 unfold Builtin.«reversed.__length_hint__»
 refine wpAny_bind (wpAny_of_eq (a:=Value.ref it) (by first | rfl | kernel_rfl) ?_)
 refine wpAny_bind (wpAny_field ho hd (x:=.str x t) rfl ?_)
 rw [if_neg (show ¬ ((Value.str x t == Value.none)=true) from Bool.false_ne_true)]
 refine wpAny_bind (PyProof.Rows.len_str (by have:=sizeLine_eq; omega) ?_)
 refine wpAny_bind (m:=asInt? (.int _ _)) (wpAny_pure ?_)
 dsimp only
 refine wpAny_bind (wpAny_field ho hd (x:=rawInt i) rfl ?_)
 show wpAny _ A.in1 (if (x.length:Int)<i+1 then _ else retInt (i+1)) _ _ _
 rw [if_neg (by omega)]
 unfold retInt
 refine wpAny_bind (wpAny_mkInt ?_)
 exact wpAny_pure ⟨_,rfl,h _ _ (by show s.toks<=s.toks+1+1+1; omega)⟩
theorem collect_rev {Q:List Value->Shared->Prop} {I:Addr} {x:Str} {t:Tok} (hh:A.handled=none) (hx:x.length<=sizeLine) (hit:s.heap.IsRevStr I x t ((x.length:Int)-1))
 (hQ:∀ s' acc,Moved [I] (λ a b=>b=a) s s'->ItemsOf (λ i v=>∃ c u,x.cps[x.cps.size-1-i]?=some c/\v=.str ⟨#[c]⟩ u) acc x.cps.size->Q acc.toList s'):wpAny (model prog w) A (collect (.ref I)) Q E s:=by
 have hn:x.cps.size<=sizeLine:=hx
 have W:=(Walks.strRev (prog:=prog) (w:=w) (A:=A.in1) hh I x t hx).toS
 obtain ⟨o0,ho0,_⟩:=id hit
 have hlt:=Heap.lt_size ho0
 have hSI:s.heap.objs.size ≠ I:=Ne.symm (Nat.ne_of_lt hlt)
 have hSf:s.heap.objs.size ∉ [I]:=λ hm=>hSI (List.mem_singleton.mp hm)
 have e0:(x.cps.size:Int)-1-((0:Nat):Int)=(x.length:Int)-1:=by show (x.cps.size:Int)-1-0=(x.cps.size:Int)-1; omega
 have hst:(λ (i:Nat) (s:Shared)=>i<=x.cps.size/\s.heap.IsRevStr I x t ((x.cps.size:Int)-1-(i:Int))) 0 s:=⟨Nat.zero_le _,by rw [e0]; exact hit⟩
 unfold collect
 refine wpAny_bind (wpAny_runValue (codeAny_builtin F.entry_proto_collect ?_))
 rw [Around.under_plainId F.plain_proto_collect _]
 show wpAny _ A.in1 (newList [] >>= λ l=>again (.builtin "list.__iadd__" ⟨[l,.ref I],[]⟩)) _ _ s
 refine wpAny_bind (wpAny_newObj_type ?_)
 refine wpAny_pure ⟨plainId_quiet F.plain_list_iadd _,codeAny_builtin F.entry_list_iadd ?_⟩
 rw [Around.under_plainId F.plain_list_iadd _]
 have hst₁:=W.frame 0 s (s.heap.push { cls:=.type "list",data:=.seq ([]:List Value).toArray }) s.toks hst (Nat.le_refl _) λ b _ o e=>Heap.get?_push_of_some _ e
 have hit₁:(s.heap.push { cls:=.type "list",data:=.seq ([]:List Value).toArray }).IsRevStr I x t ((x.length:Int)-1):=hit.at λ o e=>Heap.get?_push_of_some _ e
 have hS₁:(s.heap.push { cls:=.type "list",data:=.seq ([]:List Value).toArray }).get? s.heap.objs.size=some { cls:=.type "list",data:=.seq ([]:List Value).toArray }:=Heap.get?_push_size _ rfl
 have h1:Builtin.List.listSameRef (.ref s.heap.objs.size) (.ref I)=false:=by simp [Builtin.List.listSameRef,hSI]
 show wpAny _ A.in1 (Builtin.List.listExtendWith (.ref s.heap.objs.size) (.ref I) (.ref s.heap.objs.size)) _ _ _
 unfold Builtin.List.listExtendWith
 have hT₁:({ s with heap:=s.heap.push { cls:=.type "list",data:=.seq ([]:List Value).toArray } }:Shared).TypeIs (.ref I) "reversed":=Heap.IsRevStr.typeIs (s:={ s with heap:=s.heap.push { cls:=.type "list",data:=.seq ([]:List Value).toArray } }) hit₁
 refine wpAny_bind (wpAny_typeOf hT₁ ?_)
 rw [if_neg (by rw [h1]; decide)]
 refine wpAny_bind (iter_revStr (s:={ s with heap:=s.heap.push { cls:=.type "list",data:=.seq ([]:List Value).toArray } }) hit₁ ?_)
 refine wpAny_bind (wpAny_holding ?_)
 unfold Builtin.List.listLengthHint
 refine wpAny_bind (wpAny_specialOf hT₁ F.rev_no_len ?_)
 show wpAny _ A.in1 (specialOf (Value.ref I) (Str.ofString "__length_hint__") >>= _) _ _ _
 refine wpAny_bind (wpAny_specialOf hT₁ F.slot_rev_hint.lookup ?_)
 (generalize hid:("reversed.__length_hint__" : String)=id0; (fail_if_success (clear hid id0)); wp_delta; rw [show splitId id0=some ("reversed", "__length_hint__") from by subst hid; decide +kernel]; subst hid)
 refine wpAny_bind (wpAny_isInstance (b:=true) hT₁ (by rw [isSubtype_type]; kernel_rfl) ?_)
 rw [if_neg (by decide)]
 refine wpAny_bind (wpAny_rule ?_)
 refine wpAny_bind (wpAny_of_eq (F.slot_rev_hint.bind _) ?_)
 dsimp only
 refine wpAny_bind (wpAny_attempt (call_hint_rev (s:={ s with heap:=s.heap.push { cls:=.type "list",data:=.seq ([]:List Value).toArray } }) hit₁ hx (by omega) λ u tk htk=>?_))
 have hk:(x.length:Int)-1+1=(x.length:Int):=by omega
 rw [hk]
 have hs:=sizeLine_eq
 dsimp only
 have ha:asInt? (Value.int (x.length:Int) u)=pure (some (x.length:Int)):=rfl
 rw [ha,pure_bind]
 dsimp only
 have hfit:Builtin.List.listFitsIndex (x.length:Int)=true:=by unfold Builtin.List.listFitsIndex; simp only [Bool.and_eq_true,decide_eq_true_eq]; omega
 have hlong:Builtin.List.listTooLong (x.length:Int).toNat=false:=by unfold Builtin.List.listTooLong; rw [Int.toNat_natCast]; exact decide_eq_false (by omega)
 rw [hfit,if_neg (by decide),if_neg (by omega),hlong,if_neg (by decide)]
 refine wpAny_pure ?_
 clear hs
 have hst₂:=W.frame 0 _ _ tk hst₁ htk λ b _ o e=>e
 by_cases hz:x.length=0
 ·rw [if_neg (by rw [hz]; decide)]
  refine wpAny_pure ⟨plainId_quiet F.plain_extend_loop _,codeAny_extend_loopS W hn _ hSf _ x.cps.size 0 _ _ _ rfl (Nat.zero_le _) hst₂ hS₁ (ItemsOf.nil _) λ s' acc' c' hm hS' hacc=>?_⟩
  show wpAny _ A (load s.heap.objs.size >>= _) _ _ s'
  refine wpAny_bind (wpAny_load hS' ?_)
  exact wpAny_pure (hQ s' acc' (Moved.drop_new (o:={ cls:=.type "list",data:=.seq ([]:List Value).toArray }) (tk:=tk) hm htk) hacc)
 ·rw [if_pos (by rw [show ((x.length:Int) != 0)=true from by simpa using hz]; rfl)]
  refine wpAny_bind (wpAny_rule ?_)
  refine wpAny_bind ?_
  show wpAny _ A.in1 (updateSeq s.heap.objs.size (·.push .none) >>= λ _=>updateSeq s.heap.objs.size (·.pop)) _ _ _
  refine wpAny_bind (wpAny_updateSeq hS₁ rfl ?_ (by show 0<=sizeLine; exact Nat.zero_le _) (by show 1<=sizeLine+1; exact Nat.le_add_left _ _))
  have hS₂:=Heap.get?_update_self (Obj.mapSeq (·.push Value.none)) hS₁ rfl
  refine wpAny_updateSeq hS₂ rfl ?_ (by show 1<=sizeLine; decide) (by show 0<=sizeLine+1; exact Nat.zero_le _)
  have hS₃:=Heap.get?_update_self (Obj.mapSeq (·.pop)) hS₂ rfl
  have oth:∀ b o,b ≠ s.heap.objs.size->(s.heap.push { cls:=.type "list",data:=.seq ([]:List Value).toArray }).get? b=some o->
   (((s.heap.push { cls:=.type "list",data:=.seq ([]:List Value).toArray }).update s.heap.objs.size (Obj.mapSeq (·.push Value.none))).update s.heap.objs.size (Obj.mapSeq (·.pop))).get? b=some o :=
   λ b o hb e=>(Heap.get?_update_other _ _ (Ne.symm hb)).trans ((Heap.get?_update_other _ _ (Ne.symm hb)).trans e)
  refine wpAny_pure ⟨plainId_quiet F.plain_extend_loop _,codeAny_extend_loopS W hn _ hSf _ x.cps.size 0 _ _ _ rfl (Nat.zero_le _)
   (W.frame 0 ({ s with heap:=s.heap.push { cls:=.type "list",data:=.seq ([]:List Value).toArray },toks:=tk }:Shared) _ tk hst₂ (Nat.le_refl _) λ b hb o e=>oth b o (λ h=>hSf (h ▸ hb)) e) hS₃ (ItemsOf.nil _) λ s' acc' c' hm hS' hacc=>?_⟩
  show wpAny _ A (load s.heap.objs.size >>= _) _ _ s'
  refine wpAny_bind (wpAny_load hS' ?_)
  refine wpAny_pure (hQ s' acc' (Moved.drop_new (o:={ cls:=.type "list",data:=.seq ([]:List Value).toArray }) (tk:=tk) (Moved.trans W.gtrans ((Moved.refl (G:=λ a b=>b=a) W.grefl).then_heap (by first | exact Nat.le_refl _ | exact Nat.le_succ _ | omega) λ b o hb e=>?_) hm) htk) hacc)
  exact oth b o (λ h=>hb (h ▸ List.mem_cons_self)) e
theorem join_rev {I:Addr} {x sep:Str} {t t2:Tok} {Q:Value->Shared->Prop} (hh:A.handled=none) (hx:x.length<=sizeLine) (hit:s.heap.IsRevStr I x t ((x.length:Int)-1))
 (hq:∀ s' (l:List (Str × Tok)),Moved [I] (λ a b=>b=a) s s'->ItemsOf (λ i v=>∃ c u,x.cps[x.cps.size-1-i]?=some c/\v=.str ⟨#[c]⟩ u) (strValues l).toArray x.cps.size->
  JoinOk sep (l.map (·.1))=true/\∀ t' k,Q (.str (Txt.join sep (l.map (·.1))) t') { s' with toks:=k }):
 wpAny (model prog w) A (call (.builtin "str.join") [.str sep t2,.ref I]) Q E s:=by
 refine wpAny_call (codeAny_call_builtin F.slot_str_join.plain F.entry_str_join (F.slot_str_join.check _ _ _ _ _ _ _ _ (typeIs_str _ _ _) (F.args_str_join_2 _ _) ?_))
 rw [join_tree_other]
 refine wpAny_bind (wpAny_typeOf hit.typeIs ?_)
 show wpAny _ A.in1 ((pyIter (.ref I)).tryCatch _ >>= λ it=>collect it >>= λ items=>joinTail sep items) _ _ s
 refine wpAny_bind (wpAny_tryCatch (iter_revStr hit ?_))
 refine wpAny_bind (collect_rev (A:=A.in1) hh hx hit λ s' acc hm hacc=>?_)
 obtain ⟨l,hl⟩:=exists_strValues acc.toList λ v hv=>by
  obtain ⟨j,hj,rfl⟩:=Array.mem_iff_getElem.mp (Array.mem_toList_iff.mp hv)
  obtain ⟨c,u,_,e⟩:=hacc.2 j _ (Array.getElem?_eq_getElem hj)
  exact ⟨_,_,e⟩
 rw [← hl]
 have hacc':ItemsOf (λ i v=>∃ c u,x.cps[x.cps.size-1-i]?=some c/\v=.str ⟨#[c]⟩ u) (strValues l).toArray x.cps.size:=by rw [hl]; simpa using hacc
 obtain ⟨hok,hpost⟩:=hq s' l hm hacc'
 unfold JoinOk at hok
 rw [Bool.not_eq_true'] at hok
 have g:Gives (joinTail sep (strValues l)) (joinMade sep l):=by
  have g0:=gives_joinTail sep l hok
  cases l with
  | nil=>exact g0
  | cons p r=>cases r with
    | nil=>exact g0
    | cons q r'=>exact g0
 exact g prog w A (wants Q E) s' (post_join l ⟨joinFit_length hok,hpost⟩)
theorem extend_lri {R:Result->Shared->Prop} {I l:Addr} {items:Array Value} (hh:A.handled=none) (hit:s.heap.IsRevIter I l ((items.size:Int)-1)) (hl:s.heap.IsList l items) (hIl:l ≠ I) (S:Addr) (hSI:S ≠ I) (hSl:S ≠ l) (res:Value) (c₀:Nat) (hS:s.heap.get? S=some { cls:=.type "list",data:=.seq #[] c₀ })
 (hR:∀ h' tk acc' c',(∀ b o,b ≠ S->b ≠ I->s.heap.get? b=some o->h'.get? b=some o)->h'.get? S=some { cls:=.type "list",dict:=none,data:=.seq acc' c',slots:=#[] }->
  ItemsOf (λ i v=>items[items.size-1-i]?=some v) acc' items.size->R (.ok (.ret res)) { s with heap:=h',toks:=tk }) (hn:items.size<=sizeLine):
 wpAny (model prog w) A.in1 (Builtin.List.listExtendWith (.ref S) (.ref I) res)
  (λ fin s'=>match fin with | .done f=>R (.ok f) s' | .again c'=>c'.quiet=true/\codeAny (model prog w) A c' R s') (λ e s'=>R (.error e) s') s:=by
 have hSf:S ∉ [I,l]:=λ hm=>by rcases List.mem_cons.mp hm with h | h; exact hSI h; exact hSl (List.mem_singleton.mp h)
 have W:=(Walks.listRev (prog:=prog) (w:=w) (A:=A.in1) hh I l hIl items).toS
 have e0:(items.size:Int)-1-((0:Nat):Int)=(items.size:Int)-1:=by show (items.size:Int)-1-0=_; omega
 unfold Builtin.List.listExtendWith
 refine wpAny_bind (wpAny_typeOf hit.typeIs ?_)
 have h1:Builtin.List.listSameRef (.ref S) (.ref I)=false:=by simp [Builtin.List.listSameRef,hSI]
 rw [if_neg (by rw [h1]; decide)]
 refine wpAny_bind (wpAny_pyIter_revIter hit ?_)
 refine wpAny_bind (wpAny_holding ?_)
 unfold Builtin.List.listLengthHint
 refine wpAny_bind (wpAny_specialOf hit.typeIs F.lri_no_len ?_)
 show wpAny _ A.in1 (specialOf (Value.ref I) (Str.ofString "__length_hint__") >>= _) _ _ _
 refine wpAny_bind (wpAny_specialOf hit.typeIs F.lri_hint ?_)
 (generalize hid:("list_reverseiterator.__length_hint__" : String)=id0; (fail_if_success (clear hid id0)); wp_delta; rw [show splitId id0=some ("list_reverseiterator", "__length_hint__") from by subst hid; decide +kernel]; subst hid)
 refine wpAny_bind (wpAny_isInstance (b:=true) hit.typeIs (by rw [isSubtype_type]; kernel_rfl) ?_)
 refine wpAny_pure ?_
 rw [if_neg (by decide)]
 refine wpAny_pure ⟨plainId_quiet F.plain_extend_loop _,codeAny_extend_loopS W hn _ hSf _ items.size 0 _ _ _ rfl (Nat.zero_le _) ⟨Nat.zero_le _,by rw [e0]; exact hit,hl⟩ hS (ItemsOf.nil _) λ s' acc' c' hm hS' hacc=>?_⟩
 rw [Moved.eq_with hm]
 refine hR s'.heap s'.toks acc' c' (λ b ob hb hb2 e=>hm.heap b ob (λ hmem=>?_) e) hS' hacc
 rcases List.mem_cons.mp hmem with e' | hmem
 ·exact hb e'
 ·exact hb2 (List.mem_singleton.mp hmem)
theorem collect_lri {Q:List Value->Shared->Prop} {I l:Addr} {items:Array Value} (hh:A.handled=none) (hn:items.size<=sizeLine) (hit:s.heap.IsRevIter I l ((items.size:Int)-1)) (hl:s.heap.IsList l items) (hIl:l ≠ I)
 (hQ:∀ h' tk acc,(∀ b o,b ≠ I->s.heap.get? b=some o->h'.get? b=some o)->ItemsOf (λ i v=>items[items.size-1-i]?=some v) acc items.size->Q acc.toList { s with heap:=h',toks:=tk }):wpAny (model prog w) A (collect (.ref I)) Q E s:=by
 obtain ⟨oi,hoi,_⟩:=id hit
 obtain ⟨ol,hol,_⟩:=id hl
 have hSI:s.heap.objs.size ≠ I:=Ne.symm (Nat.ne_of_lt (Heap.lt_size hoi))
 have hSl:s.heap.objs.size ≠ l:=Ne.symm (Nat.ne_of_lt (Heap.lt_size hol))
 have hS₁:(s.heap.push { cls:=.type "list",data:=.seq ([]:List Value).toArray }).get? s.heap.objs.size=some { cls:=.type "list",data:=.seq ([]:List Value).toArray }:=Heap.get?_push_size _ rfl
 unfold collect
 refine wpAny_bind (wpAny_runValue (codeAny_builtin F.entry_proto_collect ?_))
 rw [Around.under_plainId F.plain_proto_collect _]
 show wpAny _ A.in1 (newList [] >>= λ l=>again (.builtin "list.__iadd__" ⟨[l,.ref I],[]⟩)) _ _ s
 refine wpAny_bind (wpAny_newObj_type ?_)
 refine wpAny_pure ⟨plainId_quiet F.plain_list_iadd _,codeAny_builtin F.entry_list_iadd ?_⟩
 rw [Around.under_plainId F.plain_list_iadd _]
 show wpAny _ A.in1 (Builtin.List.listExtendWith (.ref s.heap.objs.size) (.ref I) (.ref s.heap.objs.size)) _ _ _
 refine extend_lri (R:=λ r s'=>match r with
  | .ok (.ret v)=>wpAny (model prog w) A (match v with
   | .ref a=>do
     match (← load a).data with
     | .seq xs _=>pure xs.toList
     | _=>unsupported "internal:collect"
   | _=>unsupported "internal:collect") Q E s'
  | .ok _=>False
  | .error e=>E e s') (s:={ s with heap:=s.heap.push { cls:=.type "list",data:=.seq ([]:List Value).toArray } }) hh (hit.at λ o e=>Heap.get?_push_of_some _ e) (hl.at λ o e=>Heap.get?_push_of_some _ e) hIl _ hSI hSl _ 0 hS₁ (λ h' tk acc' c' hk hS' hacc=>?_) hn
 show wpAny _ A (load s.heap.objs.size >>= _) _ _ _
 refine wpAny_bind (wpAny_load hS' ?_)
 exact wpAny_pure (hQ h' tk acc' (λ b o hb e=>hk b o (Nat.ne_of_lt (Heap.lt_size e)) hb (Heap.get?_push_of_some _ e)) hacc)
theorem join_lri {I l:Addr} {items:Array Value} {sep:Str} {t2:Tok} {Q:Value->Shared->Prop} (hh:A.handled=none) (hn:items.size<=sizeLine) (hit:s.heap.IsRevIter I l ((items.size:Int)-1)) (hl:s.heap.IsList l items) (hIl:l ≠ I)
 (hstr:∀ v ∈ items.toList,∃ y u,v=Value.str y u)
 (hq:∀ (h':Heap) (ps:List (Str × Tok)),(∀ b o,b ≠ I->s.heap.get? b=some o->h'.get? b=some o)->strValues ps=items.toList.reverse->
  JoinOk sep (ps.map (·.1))=true/\∀ t' k,Q (.str (Txt.join sep (ps.map (·.1))) t') { s with heap:=h',toks:=k }):
 wpAny (model prog w) A (call (.builtin "str.join") [.str sep t2,.ref I]) Q E s:=by
 refine wpAny_call (codeAny_call_builtin F.slot_str_join.plain F.entry_str_join (F.slot_str_join.check _ _ _ _ _ _ _ _ (typeIs_str _ _ _) (F.args_str_join_2 _ _) ?_))
 rw [join_tree_other]
 refine wpAny_bind (wpAny_typeOf hit.typeIs ?_)
 show wpAny _ A.in1 ((pyIter (.ref I)).tryCatch _ >>= λ it=>collect it >>= λ items=>joinTail sep items) _ _ s
 refine wpAny_bind (wpAny_tryCatch (wpAny_pyIter_revIter hit ?_))
 refine wpAny_bind (collect_lri (A:=A.in1) hh hn hit hl hIl λ h' tk acc hk hacc=>?_)
 have hacc':acc.toList=items.toList.reverse:=by
  have hz:acc.size=items.size:=hacc.1
  refine List.ext_getElem? λ i=>?_
  by_cases hi:i<items.size
  ·have ha:acc[i]?=some acc[i]:=Array.getElem?_eq_getElem (by omega)
   have:=hacc.2 i _ ha
   rw [List.getElem?_reverse (by simpa using hi)]
   simp only [Array.length_toList]
   rw [Array.getElem?_toList,Array.getElem?_toList,ha]
   exact this.symm
  ·rw [List.getElem?_eq_none (by simpa [hz] using hi),List.getElem?_eq_none (by rw [List.length_reverse]; simpa using hi)]
 obtain ⟨ps,hps⟩:=exists_strValues acc.toList λ v hv=>hstr v (by rw [hacc'] at hv; exact List.mem_reverse.mp hv)
 obtain ⟨hok,hpost⟩:=hq h' ps hk (by rw [hps,hacc'])
 rw [← hps]
 unfold JoinOk at hok
 rw [Bool.not_eq_true'] at hok
 have g:Gives (joinTail sep (strValues ps)) (joinMade sep ps):=by
  have g0:=gives_joinTail sep ps hok
  cases ps with
  | nil=>exact g0
  | cons p r=>cases r with
    | nil=>exact g0
    | cons q r'=>exact g0
 exact g prog w A (wants Q E) _ (post_join ps ⟨joinFit_length hok,λ t' k=>hpost t' k⟩)
end
end PySem
namespace L2
open PySem PySem.Spec PyProof.Rows
section
variable {X:Cx}
theorem rev_items {l:List Nat} {ps:List (Str × Tok)} (h:ItemsOf (λ i v=>∃ c u,(tx l).cps[(tx l).cps.size-1-i]?=some c/\v=Value.str ⟨#[c]⟩ u) (strValues ps).toArray (tx l).cps.size):ps.map (·.1)=(l.reverse.map λ c=>[c]).map tx:=by
 have hz:(tx l).cps.size=l.length:=List.size_toArray ..
 have hlen:ps.length=l.length:=by have:=h.1; rw [List.size_toArray,hz] at this; simpa [strValues] using this
 refine List.ext_getElem? λ i=>?_
 rw [List.getElem?_map,List.getElem?_map,List.getElem?_map]
 by_cases hi:i<l.length
 ·have hp:i<ps.length:=by omega
  have e1:(strValues ps).toArray[i]?=some (Value.str ps[i].1 ps[i].2):=by simp [strValues,hp]
  obtain ⟨c,u,hc,e⟩:=h.2 i _ e1
  rw [hz] at hc
  have hc':l[l.length-1-i]?=some c:=by simpa [tx] using hc
  rw [List.getElem?_reverse hi,hc',List.getElem?_eq_getElem hp]
  have e2:ps[i].1=(⟨#[c]⟩:Str):=(Value.str.inj e).1
  show some ps[i].1=some (tx [c])
  rw [e2]; rfl
 ·rw [List.getElem?_eq_none (by omega),List.getElem?_eq_none (by rw [List.length_reverse]; omega)]; rfl
variable {o e:Expr} {to te:TE} {apos cpos rpos p2:Pos}
def tJoinRev (to te:TE):TE:=λ σ H Q=>to σ H λ x H1=>∃ sep,x=vt sep/\te σ H1 λ y H2=>∃ l,y=vt l/\(l.length<=4000/\sep.length<=1000)/\Q (vt (between sep (l.reverse.map λ c=>[c]))) H2
theorem pe_joinRev (hc:X.calm=true) (hg:Gl X "reversed") (hmg:X.mg "reversed" = none) (hv:bootBuiltins "reversed" = some (.type "reversed")) (ho:PE X o to) (he:PE X e te)
 (hbase:attributeBase o "join" X.env (eval o X.env)=eval o X.env:=by rfl)
 (hfew:((backTo cpos (starEach [.Call (.Name "reversed" p2) [e] [] rpos] X.env)).all (λ x=>!x.1) && (backToKw cpos (keywordEach [] X.env)).all (λ x=>x.1.isSome)
  && decide ([Expr.Call (.Name "reversed" p2) [e] [] rpos].length+([]:List Keyword).length+(if ([]:List Keyword).isEmpty then 0 else 1)<30))=true:=by rfl)
 (hline:(apos.endLine == cpos.line)=true:=by rfl) (hs:starEach [Expr.Call (.Name "reversed" p2) [e] [] rpos] X.env=[(false,eval (.Call (.Name "reversed" p2) [e] [] rpos) X.env)]:=by rfl)
 (hs2:starEach [e] X.env=[(false,eval e X.env)]:=by rfl):
 PE X (.Call (.Attribute o "join" apos) [.Call (.Name "reversed" p2) [e] [] rpos] [] cpos) (tJoinRev to te):=by
 intro pins s σ H Q I h
 refine wpAny_Call_method_late hbase hfew hline rfl (thn (ho pins s σ H _ I h) λ v s1 ⟨x,H1,I1,r1,sep,ex,q1⟩=>?_)
 subst ex
 obtain ⟨t1,rfl⟩:=r1
 obtain ⟨h1,h2⟩:=tyV_is (T := "str") I1 (x:=vt sep) ⟨t1,rfl⟩ rfl
 refine ⟨"str", "str.join",PySem.F.plainAttrs_str,PySem.F.slot_str_join,PySem.F.type_str_join,h1,h2,?_⟩
 rw [hs]
 refine Calls.callWith_builtin rfl (Calls.evalArgs_plain ?_)
 show wpAny _ _ (spliced ((false,eval (.Call (.Name "reversed" p2) [e] [] rpos) X.env)::backTo cpos [])) _ _ s1
 refine Calls.spliced_cons (wpAny_Call_Name_kw (ld_blt I1 hg hmg hv ?_ (by decide) (by decide)))
 refine PyProof.Rows.callWith_type1 (rest:=[]) ?_ hs2 rfl
 rw [hs2]
 show wpAny _ _ (spliced ((false,eval e X.env)::backTo rpos [])) _ _ s1
 refine Calls.spliced_cons (thn (he pins s1 σ H1 _ I1 q1) λ u s2 ⟨y,H2,I2,r2,l,el,hz,q2⟩=>?_)
 subst el
 obtain ⟨t2,rfl⟩:=r2
 refine Calls.spliced_nil ?_
 have sz:(tx l).length=l.length:=tx_len l
 have hs0:=sizeLine_eq
 have hl:l.length<=sizeLine:=by omega
 refine call_reversed_str (by rw [sz]; exact hl) λ tk=>?_
 refine Calls.spliced_nil ?_
 refine join_rev (x:=tx l) (t:=t2) (I2.ok.hd hc) (by rw [sz]; exact hl) ⟨_,Heap.get?_push_size _ rfl,rfl,rfl⟩ λ s' ps hm hit'=>?_
 have ee:=rev_items hit'
 rw [ee]
 have hok:(((l.reverse.map λ c=>[c]).map tx).map (·.length)).sum+((l.reverse.map λ c=>[c]).map tx).length*(tx sep).length<=16777216:=by
  rw [sum_lens,List.length_map,List.length_map,List.length_reverse,tx_len]
  have e1:(l.reverse.map λ c=>[c]).flatten.length=l.length:=by
   rw [List.length_flatten,List.map_map]
   show (l.reverse.map λ _=>1).sum=_
   rw [List.map_const',List.sum_replicate_nat,List.length_reverse]; omega
  rw [e1]
  have:l.length*sep.length<=4000*1000:=Nat.mul_le_mul hz.1 hz.2
  omega
 refine ⟨joinOk_of hok,λ t' k=>?_⟩
 rw [tx_join]
 obtain ⟨h',g',d',tk',os'⟩:=s'
 have e1:g'=s2.gens:=hm.gens
 have e2:d'=s2.drawn:=hm.drawn
 have e3:os'=s2.os:=hm.os
 subst e1 e2 e3
 exact ⟨.str _,H2,I2.kept (t':=k) λ b u e=>hm.heap b u (λ hb=>absurd (Heap.lt_size e) ((List.mem_singleton.mp hb) ▸ Nat.lt_irrefl _)) (Heap.get?_push_of_some _ e),⟨_,rfl⟩,q2⟩
def tJoinRevL (K:PySem.W.Frag) (to te:TE):TE:=λ σ H Q=>to σ H λ x H1=>∃ sep,x=vt sep/\te σ H1 λ y H2=>∃ (a:Addr) (ls:List (List Nat)),y=.ref a/\SqL K H2 a (ls.map vt)/\(ls.flatten.length<=1000000/\ls.length<=10000/\sep.length<=100)/\Q (vt (between sep ls.reverse)) H2
theorem strs_rev {ls:List (List Nat)} {its:List Value} (r:Vals (ls.map vt) its) {ps:List (Str × Tok)} (h:strValues ps=its.reverse):ps.map (·.1)=ls.reverse.map tx:=by
 have hr:Vals ((ls.reverse).map vt) its.reverse:=by rw [List.map_reverse]; exact Vals.reverse r
 rw [← h] at hr
 generalize ls.reverse=ms at hr
 clear h r
 induction ps generalizing ms with
 | nil =>
   cases ms with
   | nil=>rfl
   | cons m ms=>cases hr
 | cons p ps ih =>
   cases ms with
   | nil=>cases hr
   | cons m ms =>
     cases hr with
     | cons a r =>
       obtain ⟨t,e⟩:=a
       rw [List.map_cons,List.map_cons,ih ms r]
       have:p.1=tx m:=(Value.str.inj e).1
       rw [this]
theorem pe_joinRevL (hc:X.calm=true) (hg:Gl X "reversed") (hmg:X.mg "reversed" = none) (hv:bootBuiltins "reversed" = some (.type "reversed")) (ho:PE X o to) (he:PE X e te)
 (hbase:attributeBase o "join" X.env (eval o X.env)=eval o X.env:=by rfl)
 (hfew:((backTo cpos (starEach [.Call (.Name "reversed" p2) [e] [] rpos] X.env)).all (λ x=>!x.1) && (backToKw cpos (keywordEach [] X.env)).all (λ x=>x.1.isSome)
  && decide ([Expr.Call (.Name "reversed" p2) [e] [] rpos].length+([]:List Keyword).length+(if ([]:List Keyword).isEmpty then 0 else 1)<30))=true:=by rfl)
 (hline:(apos.endLine == cpos.line)=true:=by rfl) (hs:starEach [Expr.Call (.Name "reversed" p2) [e] [] rpos] X.env=[(false,eval (.Call (.Name "reversed" p2) [e] [] rpos) X.env)]:=by rfl)
 (hs2:starEach [e] X.env=[(false,eval e X.env)]:=by rfl):
 PE X (.Call (.Attribute o "join" apos) [.Call (.Name "reversed" p2) [e] [] rpos] [] cpos) (tJoinRevL X.K to te):=by
 intro pins s σ H Q I h
 refine wpAny_Call_method_late hbase hfew hline rfl (thn (ho pins s σ H _ I h) λ v s1 ⟨x,H1,I1,r1,sep,ex,q1⟩=>?_)
 subst ex
 obtain ⟨t1,rfl⟩:=r1
 obtain ⟨h1,h2⟩:=tyV_is (T := "str") I1 (x:=vt sep) ⟨t1,rfl⟩ rfl
 refine ⟨"str", "str.join",PySem.F.plainAttrs_str,PySem.F.slot_str_join,PySem.F.type_str_join,h1,h2,?_⟩
 rw [hs]
 refine Calls.callWith_builtin rfl (Calls.evalArgs_plain ?_)
 show wpAny _ _ (spliced ((false,eval (.Call (.Name "reversed" p2) [e] [] rpos) X.env)::backTo cpos [])) _ _ s1
 refine Calls.spliced_cons (wpAny_Call_Name_kw (ld_blt I1 hg hmg hv ?_ (by decide) (by decide)))
 refine PyProof.Rows.callWith_type1 (rest:=[]) ?_ hs2 rfl
 rw [hs2]
 show wpAny _ _ (spliced ((false,eval e X.env)::backTo rpos [])) _ _ s1
 refine Calls.spliced_cons (thn (he pins s1 σ H1 _ I1 q1) λ u s2 ⟨y,H2,I2,r2,a,ls,el,hS,hz,q2⟩=>?_)
 subst el
 cases (show u=Value.ref a from r2)
 refine Calls.spliced_nil ?_
 obtain ⟨its,rv,pl,hzz⟩:=I2.list hS
 have hl:=pl.isList
 obtain ⟨ob,hob,_⟩:=id hl
 have hne:a ≠ s2.heap.objs.size:=Nat.ne_of_lt (Heap.lt_size hob)
 have hln:=rv.length
 rw [List.length_map] at hln
 have hs0:=sizeLine_eq
 refine call_reversed_list hl ?_
 refine Calls.spliced_nil ?_
 refine join_lri (items:=its.toArray) (s:={ s2 with heap:=s2.heap.push (revObj a ((its.toArray.size:Int)-1)) }) (I2.ok.hd hc) (by rw [List.size_toArray]; omega) ⟨_,Heap.get?_push_size _ rfl,rfl,rfl⟩ (hl.push _) hne (λ v hv=>?_) λ h' ps hk hps=>?_
 ·obtain ⟨j,hj,ej⟩:=List.getElem_of_mem (show v ∈ its from hv)
  have hjl:j<(ls.map vt).length:=by rw [List.length_map]; omega
  obtain ⟨w,ew,rw'⟩:=rv.get (List.getElem?_eq_getElem hjl)
  rw [List.getElem?_eq_getElem hj] at ew
  rw [List.getElem_map] at rw'
  obtain ⟨t,e'⟩:=rw'
  exact ⟨_,t,by rw [← ej,Option.some.inj ew]; exact e'⟩
 have ee:=strs_rev rv (ps:=ps) hps
 rw [ee]
 have hok:((ls.reverse.map tx).map (·.length)).sum+(ls.reverse.map tx).length*(tx sep).length<=16777216:=by
  rw [sum_lens,List.length_map,List.length_reverse,tx_len]
  have e1:ls.reverse.flatten.length=ls.flatten.length:=by
   rw [List.length_flatten,List.length_flatten,List.map_reverse,List.sum_reverse]
  rw [e1]
  have:ls.length*sep.length<=10000*100:=Nat.mul_le_mul hz.2.1 hz.2.2
  omega
 refine ⟨joinOk_of hok,λ t' k=>?_⟩
 rw [tx_join]
 exact ⟨.str _,H2,I2.kept (t':=k) λ b u e=>hk b u (Nat.ne_of_lt (Heap.lt_size e)) (Heap.get?_push_of_some _ e),⟨_,rfl⟩,q2⟩
def rNeL (K:PySem.W.Frag):R2:=λ x y H Q=>∃ a b xs ys,x=.ref a/\y=.ref b/\SqL K H a xs/\SqL K H b ys/\xs.all flatV=true/\ys.all flatV=true/\Q (.bl (!eqVs xs ys)) H
theorem op_neL (hu:X.A.units<cLine):OpR X (compareOp .NotEq) (rNeL X.K):=by
 intro pins s σ H x y v u Q I rx ry h
 obtain ⟨a,b,xs,ys,rfl,rfl,ha,hb,fx,fy,q⟩:=h
 cases (show v=Value.ref a from rx)
 cases (show u=Value.ref b from ry)
 obtain ⟨its,rv,p,_⟩:=I.list ha
 obtain ⟨its2,rv2,p2,_⟩:=I.list hb
 have l1:=rv.length
 have l2:=rv2.length
 by_cases hz:xs.length=ys.length
 ·refine SeqAt.RcNeAt.lists (e:=λ j=>eqV (xs.getD j .non) (ys.getD j .non)) p.isList p2.isList (by simp [← l1,← l2,hz]) hu (λ j h1 h2=>eqAt_items rv rv2 fx fy j h1 h2) X.prog X.w X.xe _ ?_
  have e:(List.range its.toArray.size).all (λ j=>eqV (xs.getD j .non) (ys.getD j .non))=eqVs xs ys:=by
   rw [← eqVs_all hz]; simp [← l1]
  rw [e]
  exact ⟨.bl _,H,I,rfl,q⟩
 ·rw [eqVs_len hz] at q
  exact SeqAt.RcNeAt.lists_lengths p.isList p2.isList (by simp [← l1,← l2,hz]) hu X.prog X.w X.xe _ ⟨.bl _,H,I,rfl,q⟩
def oNeN (hu:X.A.units<cLine):=(op_ne (X:=X)).or ((op_neT hu).or (op_neL hu))
end
end L2
namespace L2
open PySem PySem.Spec PyProof.Rows
section
variable {κ:Type} [DecidableEq κ]
def valV (kvs:List (κ × V)) (k:κ):Option V:=(kvs.find? λ kv=>decide (kv.1=k)).map (·.2)
def putK (kvs:List (κ × V)) (k:κ) (v:V):List (κ × V) :=
 if (kvs.any λ kv=>decide (kv.1=k))=true then kvs.map (λ kv=>if kv.1=k then (kv.1,v) else kv) else kvs++[(k,v)]
def dropK (kvs:List (κ × V)) (k:κ):List (κ × V):=kvs.filter λ kv=>decide (kv.1 ≠ k)
theorem valV_pos {p:κ × V} {r:List (κ × V)} {k:κ} (e:p.1=k):valV (p::r) k=some p.2:=by simp [valV,List.find?_cons,e]
theorem valV_neg {p:κ × V} {r:List (κ × V)} {k:κ} (e:¬ p.1=k):valV (p::r) k=valV r k:=by simp [valV,List.find?_cons,e]
theorem valV_any (k:κ):∀ kvs:List (κ × V),(kvs.any λ kv=>decide (kv.1=k))=(valV kvs k).isSome
 | []=>rfl
 | p::r=>by
   rw [List.any_cons]
   by_cases e:p.1=k
   ·simp only [valV_pos e,decide_eq_true e,Bool.true_or,Option.isSome_some]
   ·rw [valV_neg e,decide_eq_false e,Bool.false_or]; exact valV_any k r
theorem valV_map (k j:κ) (y:V):∀ kvs:List (κ × V),valV (kvs.map λ kv=>if kv.1=k then (kv.1,y) else kv) j=(valV kvs j).map λ x=>if j=k then y else x
 | []=>rfl
 | p::r=>by
   have ih:=valV_map k j y r
   rw [List.map_cons]
   by_cases h:p.1=k
   ·rw [if_pos h]
    by_cases e:p.1=j
    ·rw [valV_pos (p:=(p.1,y)) e,valV_pos e,Option.map_some,if_pos (e.symm.trans h)]
    ·rw [valV_neg (p:=(p.1,y)) e,valV_neg e,ih]
   ·rw [if_neg h]
    by_cases e:p.1=j
    ·rw [valV_pos (p:=p) e,valV_pos e,Option.map_some,if_neg (λ z=>h (e.trans z))]
    ·rw [valV_neg (p:=p) e,valV_neg e,ih]
theorem valV_snoc (k j:κ) (y:V):∀ kvs:List (κ × V),valV kvs k=none->valV (kvs++[(k,y)]) j=if j=k then some y else valV kvs j
 | [],_=>by
   by_cases e:k=j
   ·rw [if_pos e.symm]; exact valV_pos (p:=(k,y)) e
   ·rw [if_neg (λ z=>e z.symm)]; exact valV_neg (p:=(k,y)) e
 | p::r,hn=>by
   rw [List.cons_append]
   have hk:¬ p.1=k:=λ z=>by rw [valV_pos z] at hn; cases hn
   rw [valV_neg hk] at hn
   have ih:=valV_snoc k j y r hn
   by_cases e:p.1=j
   ·rw [valV_pos e,valV_pos e,if_neg (λ z=>hk (e.trans z))]
   ·rw [valV_neg e,valV_neg e,ih]
theorem valV_put (kvs:List (κ × V)) (k j:κ) (y:V):valV (putK kvs k y) j=if j=k then some y else valV kvs j:=by
 unfold putK
 by_cases a:(kvs.any λ kv=>decide (kv.1=k))=true
 ·rw [if_pos a,valV_map]
  rw [valV_any] at a
  by_cases e:j=k
  ·obtain ⟨x,hx⟩:=Option.isSome_iff_exists.mp a
   rw [if_pos e,e,hx,Option.map_some,if_pos rfl]
  ·rw [if_neg e]
   cases valV kvs j with
   | none=>rfl
   | some x=>rw [Option.map_some,if_neg e]
 ·rw [if_neg a]
  refine valV_snoc k j y kvs ?_
  rw [valV_any] at a
  cases q:valV kvs k with
  | none=>rfl
  | some x=>rw [q] at a; exact (a rfl).elim
theorem length_putK (kvs:List (κ × V)) (k:κ) (v:V):(putK kvs k v).length<=kvs.length+1:=by
 unfold putK
 split
 ·rw [List.length_map]; omega
 ·rw [List.length_append,List.length_cons,List.length_nil]; omega
theorem RelO.isSome_eq {o:Option V} {u:Option Value} (r:RelO o u):o.isSome=u.isSome:=by
 cases o with
 | none=>cases u with
   | none=>rfl
   | some _=>exact (show False from r).elim
 | some _=>cases u with
   | none=>exact (show False from r).elim
   | some _=>rfl
theorem RelO.getD {o:Option V} {u:Option Value} {d:V} {d':Value} (r:RelO o u) (rd:RelV d d'):RelV (o.getD d) (u.getD d'):=by
 cases o with
 | none=>cases u with
   | none=>exact rd
   | some _=>exact (show False from r).elim
 | some _=>cases u with
   | none=>exact (show False from r).elim
   | some _=>exact r
theorem KV.val {kvs:List (κ × V)} {vs:List (κ × Value)} (r:KV kvs vs) (k:κ):RelO (valV kvs k) (valueAt vs k):=by
 unfold KV at r
 induction r with
 | nil=>exact True.intro
 | @cons p q ps qs h t ih =>
   obtain ⟨h1,h2⟩:=h
   by_cases e:p.1=k
   ·have e':q.1=k:=h1.symm.trans e
    have b:valueAt (q::qs) k=some q.2:=by simp [valueAt,List.find?_cons,e']
    rw [valV_pos e,b]; exact h2
   ·have e':¬ q.1=k:=λ z=>e (h1.trans z)
    have b:valueAt (q::qs) k=valueAt qs k:=by simp [valueAt,List.find?_cons,e']
    rw [valV_neg e,b]; exact ih
theorem KV.any {kvs:List (κ × V)} {vs:List (κ × Value)} (r:KV kvs vs) (k:κ):(kvs.any λ kv=>decide (kv.1=k))=vs.any λ kv=>decide (kv.1=k):=by
 unfold KV at r
 induction r with
 | nil=>rfl
 | cons h t ih=>rw [List.any_cons,List.any_cons,ih,h.1]
theorem KV.repl {kvs:List (κ × V)} {vs:List (κ × Value)} (r:KV kvs vs) (k:κ) {y:V} {u:Value} (ry:RelV y u):
 KV (kvs.map λ kv=>if kv.1=k then (kv.1,y) else kv) (vs.map λ kv=>if kv.1=k then (kv.1,u) else kv):=by
 unfold KV at r ⊢
 induction r with
 | nil=>exact .nil
 | @cons p q ps qs h t ih =>
   rw [List.map_cons,List.map_cons]
   refine .cons ?_ ih
   obtain ⟨h1,h2⟩:=h
   by_cases e:p.1=k
   ·rw [if_pos e,if_pos (h1.symm.trans e)]; exact ⟨h1,ry⟩
   ·rw [if_neg e,if_neg (λ z=>e (h1.trans z))]; exact ⟨h1,h2⟩
theorem KV.put {kvs:List (κ × V)} {vs:List (κ × Value)} (r:KV kvs vs) (k:κ) {y:V} {u:Value} (ry:RelV y u):KV (putK kvs k y) (stored vs k u):=by
 unfold putK stored
 rw [r.any k]
 by_cases e:(vs.any λ kv=>decide (kv.1=k))=true
 ·rw [if_pos e,if_pos e]; exact r.repl k ry
 ·rw [if_neg e,if_neg e]; exact Paired.snoc r ⟨rfl,ry⟩
theorem KV.drop {kvs:List (κ × V)} {vs:List (κ × Value)} (r:KV kvs vs) (k:κ):KV (dropK kvs k) (without vs k):=by
 unfold KV at r ⊢
 unfold dropK without
 induction r with
 | nil=>exact .nil
 | @cons p q ps qs h t ih =>
   obtain ⟨h1,h2⟩:=h
   rw [List.filter_cons,List.filter_cons]
   by_cases e:p.1=k
   ·have a:¬ decide (p.1 ≠ k)=true:=by simp [e]
    have b:¬ decide (q.1 ≠ k)=true:=by simp [h1.symm.trans e]
    rw [if_neg a,if_neg b]; exact ih
   ·have e':¬ q.1=k:=λ z=>e (h1.trans z)
    have a:decide (p.1 ≠ k)=true:=by simp [e]
    have b:decide (q.1 ≠ k)=true:=by simp [e']
    rw [if_pos a,if_pos b]; exact .cons ⟨h1,h2⟩ ih
theorem KV.keys {kvs:List (κ × V)} {vs:List (κ × Value)} (r:KV kvs vs):kvs.map (·.1)=vs.map (·.1):=by
 unfold KV at r
 induction r with
 | nil=>rfl
 | cons h t ih=>rw [List.map_cons,List.map_cons,ih,h.1]
theorem KV.length {kvs:List (κ × V)} {vs:List (κ × Value)} (r:KV kvs vs):kvs.length=vs.length:=Paired.length r
end
theorem kV_is {P:Program} {w:World} {k:Key} {u:Value} (r:RelV (kV k) u):(mixKind P w).is k u=true:=by
 cases k with
 | inl i=>obtain ⟨t,e⟩:=(show ∃ t,u=Value.int i t from r); subst e; exact mixKind_int P w i t
 | inr x=>obtain ⟨t,e⟩:=(show ∃ t,u=Value.str x t from r); subst e; exact mixKind_str P w x t
theorem items_are {P:Program} {w:World}:∀ {ks:List Key} {us:List Value},Vals (ks.map kV) us->ItemsAre (mixKind P w) ks us
 | [],_,r=>by rw [List.map_nil] at r; cases r; exact .nil
 | k::ks,_,r=>by
   rw [List.map_cons] at r
   cases r with
   | cons h t=>exact .cons (kV_is h) (items_are t)
abbrev KT (H:Hp):List (List Key × V)->List (List Key × Addr × Value)->Prop:=Paired λ p q=>p.1=q.1/\H q.2.1=some (.tup (p.1.map kV))/\RelV p.2 q.2.2
theorem KT.val {H:Hp} {kvs:List (List Key × V)} {xs:List (List Key × Addr × Value)} (r:KT H kvs xs) (k:List Key):RelO (valV kvs k) ((atKey xs k).map (·.2)):=by
 induction r with
 | nil=>exact True.intro
 | @cons p q ps qs h t ih =>
   obtain ⟨h1,_,h2⟩:=h
   by_cases e:p.1=k
   ·have e':q.1=k:=h1.symm.trans e
    have b:atKey (q::qs) k=some q.2:=by simp [atKey,List.find?_cons,e']
    rw [valV_pos e,b]; exact h2
   ·have e':¬ q.1=k:=λ z=>e (h1.trans z)
    have b:atKey (q::qs) k=atKey qs k:=by simp [atKey,List.find?_cons,e']
    rw [valV_neg e,b]; exact ih
theorem KT.repl {H:Hp} {kvs:List (List Key × V)} {xs:List (List Key × Addr × Value)} (r:KT H kvs xs) (k:List Key) {y:V} {u:Value} (ry:RelV y u):
 KT H (kvs.map λ kv=>if kv.1=k then (kv.1,y) else kv) (xs.map (putAt k u)):=by
 induction r with
 | nil=>exact .nil
 | @cons p q ps qs h t ih =>
   rw [List.map_cons,List.map_cons]
   refine .cons ?_ ih
   obtain ⟨h1,h2,h3⟩:=h
   unfold putAt
   by_cases e:p.1=k
   ·rw [if_pos e,if_pos (h1.symm.trans e)]; exact ⟨h1,h2,ry⟩
   ·rw [if_neg e,if_neg (λ z=>e (h1.trans z))]; exact ⟨h1,h2,h3⟩
theorem KT.put {H:Hp} {kvs:List (List Key × V)} {xs:List (List Key × Addr × Value)} (r:KT H kvs xs) (k:List Key) {b:Addr} {y:V} {u:Value} (hb:H b=some (.tup (k.map kV))) (ry:RelV y u):
 KT H (putK kvs k y) (storedH xs k b u):=by
 have e:(kvs.any λ kv=>decide (kv.1=k))=(atKey xs k).isSome:=by
  rw [valV_any,(r.val k).isSome_eq,Option.isSome_map]
 unfold putK storedH
 rw [e]
 by_cases q:(atKey xs k).isSome=true
 ·rw [if_pos q,if_pos q]; exact r.repl k ry
 ·rw [if_neg q,if_neg q]; exact Paired.snoc r ⟨rfl,hb,ry⟩
theorem KT.keeps {H H':Hp} {kvs:List (List Key × V)} {xs:List (List Key × Addr × Value)} (r:KT H kvs xs) (ht:∀ b ys,H b=some (.tup ys)->H' b=some (.tup ys)):KT H' kvs xs :=
 Paired.mapP r λ _ _ z=>⟨z.1,ht _ _ z.2.1,z.2.2⟩
section
variable {P:Program} {w:World} {H:Hp} {h:Heap} {a:Addr}
theorem rd_of {u:HO} (ok:HOk P w H h) (e:Rd H a u):ObjOk P w H h a u:=e.ok ok
theorem dk_rd {kvs:List (Key × V)} (ok:HOk P w H h) (e:Rd H a (.dK kvs)):kvs.length<=sizeLine/\(a == sysModules)=false/\∃ vs,KV kvs vs/\h.DictOf (mixKind P w) a vs :=
 show ObjOk P w H h a (.dK kvs) from rd_of ok e
theorem dk_of {kvs:List (Key × V)} (ok:HOk P w H h) (e:H a=some (.dK kvs)):kvs.length<=sizeLine/\(a == sysModules)=false/\∃ vs,KV kvs vs/\h.DictOf (mixKind P w) a vs:=dk_rd ok (.inl e)
theorem key_of {ks:List Key} (ok:HOk P w H h) (e:H a=some (.tup (ks.map kV))):(tupleKind (mixKind P w)).is h ks a:=by
 obtain ⟨_,its,r,o,h1,h2,n,h3⟩:=(show ObjOk P w H h a (.tup (ks.map kV)) from ok a _ e)
 exact ⟨o,its.toArray,n,h1,h2,h3,by simpa using items_are r⟩
theorem dt_rd {kvs:List (List Key × V)} (ok:HOk P w H h) (e:Rd H a (.dT kvs)):kvs.length<=sizeLine/\(a == sysModules)=false/\
 ∃ xs,KT H kvs xs/\h.DictOfH (tupleKind (mixKind P w)) a xs:=by
 obtain ⟨z,y,xs,r,o,es,ep,h1,h2,h3,h4,h5⟩:=(show ObjOk P w H h a (.dT kvs) from rd_of ok e)
 refine ⟨z,y,xs,r,o,es,ep,h1,h2,h3,h4,λ x hx=>?_,h5⟩
 have all:∀ {l:List (List Key × V)} {m:List (List Key × Addr × Value)},KT H l m->∀ x ∈ m,(tupleKind (mixKind P w)).is h x.1 x.2.1:=by
  intro l m q
  induction q with
  | nil=>intro x hx; exact nomatch hx
  | @cons p q ps qs hq t ih =>
    intro x hx
    rcases List.mem_cons.mp hx with e | hx
    ·subst e
     exact key_of ok (by rw [← hq.1]; exact hq.2.1)
    ·exact ih x hx
 exact all r x hx
theorem dt_of {kvs:List (List Key × V)} (ok:HOk P w H h) (e:H a=some (.dT kvs)):kvs.length<=sizeLine/\(a == sysModules)=false/\
 ∃ xs,KT H kvs xs/\h.DictOfH (tupleKind (mixKind P w)) a xs:=dt_rd ok (.inl e)
end
def DGet (H:Hp) (a:Addr) (y:V) (r:Option V):Prop :=
 (∃ kvs k,Rd H a (.dK kvs)/\y=kV k/\r=valV kvs k)\/∃ kvs k b,Rd H a (.dT kvs)/\y=.ref b/\H b=some (.tup (k.map kV))/\r=valV kvs k
def DPut (H:Hp) (a:Addr) (y v:V) (H':Hp):Prop :=
 (∃ kvs k,H a=some (.dK kvs)/\y=kV k/\kvs.length<sizeLine/\H'=upd H a (.dK (putK kvs k v)))\/
 ∃ kvs k b,H a=some (.dT kvs)/\y=.ref b/\H b=some (.tup (k.map kV))/\kvs.length<sizeLine/\H'=upd H a (.dT (putK kvs k v))
theorem DGet.k {H:Hp} {a:Addr} {kvs:List (Key × V)} {k:Key} (e:H a=some (.dK kvs)):DGet H a (kV k) (valV kvs k):=.inl ⟨kvs,k,.inl e,rfl,rfl⟩
theorem DGet.t {H:Hp} {a b:Addr} {kvs:List (List Key × V)} {k:List Key} (e:H a=some (.dT kvs)) (eb:H b=some (.tup (k.map kV))):DGet H a (.ref b) (valV kvs k):=.inr ⟨kvs,k,b,.inl e,rfl,eb,rfl⟩
theorem DPut.k {H:Hp} {a:Addr} {kvs:List (Key × V)} {k:Key} {v:V} (e:H a=some (.dK kvs)) (hl:kvs.length<sizeLine):DPut H a (kV k) v (upd H a (.dK (putK kvs k v))):=.inl ⟨kvs,k,e,rfl,hl,rfl⟩
theorem DPut.t {H:Hp} {a b:Addr} {kvs:List (List Key × V)} {k:List Key} {v:V} (e:H a=some (.dT kvs)) (eb:H b=some (.tup (k.map kV))) (hl:kvs.length<sizeLine):
 DPut H a (.ref b) v (upd H a (.dT (putK kvs k v))):=.inr ⟨kvs,k,b,e,rfl,eb,hl,rfl⟩
section
variable {X:Cx} {pins:List (Addr × Obj)} {σ:St} {H:Hp} {s:Shared} {a:Addr} {y v:V} {u r:Value} {o:Option V} {A:Around} {E:Value->Shared->Prop}
theorem d_write {h':Heap} {t':Nat} {ob:HO} (I:Inv X pins σ H s) (mu:Mut (H a)) (hs:Heap.SameBut a s.heap h') (he:∃ q,h'.get? a=some q) (new:ObjOk X.prog X.w (upd H a ob) h' a ob):
 Inv X pins σ (upd H a ob) { s with heap:=h',toks:=t' } :=
 I.write (x:=a) (e:=a) mu (.inl rfl) (λ b q hb z=>(hs.2 b hb).trans z) he new
theorem dk_new {P:Program} {w:World} {H':Hp} {h':Heap} {kvs:List (Key × V)} {vs:List (Key × Value)} (z:kvs.length<=sizeLine) (hd:(a == sysModules)=false) (rel:KV kvs vs) (dd:h'.DictOf (mixKind P w) a vs):
 ObjOk P w H' h' a (.dK kvs):=⟨z,hd,vs,rel,dd⟩
theorem d_setItem {H':Hp} {Q:Unit->Shared->Prop} (hu:A.units+1<cLine) (I:Inv X pins σ H s) (g:DPut H a y v H') (ry:RelV y u) (rv:RelV v r) (h:∀ s',Inv X pins σ H' s'->Q () s'):
 wpAny (model X.prog X.w) A (setItem (.ref a) u r) Q E s:=by
 rcases g with ⟨kvs,k,e,ey,l,eH⟩ | ⟨kvs,k,b,e,ey,eb,l,eH⟩
 ·subst ey eH
  obtain ⟨z,hd,vs,rel,dd⟩:=dk_of I.hok e
  have hz:vs.length<=sizeLine:=by rw [← rel.length]; exact z
  have hl:(putK kvs k v).length<=sizeLine:=by have:=length_putK kvs k v; omega
  refine wpAny_setItem_pairs (hsz:=hz) (kV_is ry) dd λ h' dd' hs=>h _ ?_
  have he:∃ q,h'.get? a=some q:=let ⟨q,_,_,hq,_⟩:=dd'; ⟨q,hq⟩
  exact d_write I (by rw [e]; exact True.intro) hs he (dk_new hl hd (rel.put k rv) dd')
 ·subst ey eH
  cases (show u=Value.ref b from ry)
  obtain ⟨z,hd,xs,rel,dd⟩:=dt_of I.hok e
  have hz:xs.length<=sizeLine:=by rw [← Paired.length rel]; exact z
  have hl:(putK kvs k v).length<=sizeLine:=by have:=length_putK kvs k v; omega
  refine wpAny_setItem_heap (hsz:=hz) (tupleKind_room_in1 hu) (key_of I.hok eb) dd λ h' dd' hs=>h _ ?_
  obtain ⟨q,es,ep,hq,h2,h3,h4,_,h5⟩:=dd'
  refine d_write I (by rw [e]; exact True.intro) hs ⟨q,hq⟩ ⟨hl,hd,_,(rel.put k eb rv).keeps λ c ys ec=>?_,q,es,ep,hq,h2,h3,h4,h5⟩
  rw [upd_ne (ne_of ec e (λ z=>nomatch z))]
  exact ec
end
section
variable {X:Cx} {pins:List (Addr × Obj)} {σ:St} {H:Hp} {s:Shared} {a:Addr} {kvs:List (Key × V)} {k:Key} {u:Value} {A:Around} {E:Value->Shared->Prop}
end
def sDPut (td ty tv:TE):TS:=λ D σ H=>tv σ H λ v H1=>td σ H1 λ x H2=>ty σ H2 λ y H3=>∃ a H4,x=.ref a/\DPut H3 a y v H4/\D.nx σ H4
section
variable {X:Cx} {o i e value:Expr} {pos pos' tpos:Pos} {td ty tv:TE}
theorem ps_dput (hu:X.A.units+1<cLine) (ho:PE X o td) (hi:PE X i ty) (hv:PE X value tv) (hs:swapsWith value (some (.Subscript o i pos')) pos.line X.env=pure false):
 PS X (.Assign [.Subscript o i pos'] value pos) (sDPut td ty tv):=by
 intro pins s σ H D I h
 refine wpAny_Assign_Subscript (thn (hv pins s σ H _ I h) λ r s1 ⟨v,H1,I1,rv,q1⟩=>thn (ho pins s1 σ H1 _ I1 q1) λ u s2 ⟨x,H2,I2,rx,q2⟩=>thn (hi pins s2 σ H2 _ I2 q2) λ iv s3 ⟨y,H3,I3,ry,a,H4,ex,g,q3⟩=>?_) hs
 subst ex
 obtain rfl:u=Value.ref a:=rx
 exact d_setItem hu I3 g ry rv λ s4 I4=>⟨σ,H4,I4,q3⟩
end
section
variable {X:Cx} {pos:Pos}
end
structure M1 (X:Cx) (o:Expr) (m:Str) (apos:Pos) (e:Expr) (cpos:Pos):Prop where
 base:attributeBase o m X.env (eval o X.env)=eval o X.env
 few:((backTo cpos (starEach [e] X.env)).all (λ x=>!x.1) && (backToKw cpos (keywordEach [] X.env)).all (λ x=>x.1.isSome)
  && decide (([e]:List Expr).length+([]:List Keyword).length+(if ([]:List Keyword).isEmpty then 0 else 1)<30))=true
 line:(apos.endLine == cpos.line)=true
 trees:backTo cpos (starEach [e] X.env)=[(false,eval e X.env)]
structure M2 (X:Cx) (o:Expr) (m:Str) (apos:Pos) (e f:Expr) (cpos:Pos):Prop where
 base:attributeBase o m X.env (eval o X.env)=eval o X.env
 few:((backTo cpos (starEach [e,f] X.env)).all (λ x=>!x.1) && (backToKw cpos (keywordEach [] X.env)).all (λ x=>x.1.isSome)
  && decide (([e,f]:List Expr).length+([]:List Keyword).length+(if ([]:List Keyword).isEmpty then 0 else 1)<30))=true
 line:(apos.endLine == cpos.line)=true
 trees:backTo cpos (starEach [e,f] X.env)=[(false,eval e X.env),(false,eval f X.env)]
def IsD (H:Hp) (a:Addr):Prop:=(∃ kvs,Rd H a (.dK kvs))\/∃ kvs,Rd H a (.dT kvs)
theorem isD_at {X:Cx} {pins:List (Addr × Obj)} {σ:St} {H:Hp} {s:Shared} {a:Addr} (I:Inv X pins σ H s) (d:IsD H a):
 s.TypeIs (.ref a) "dict" /\ (∀ b,Value.ref a=.ref b->∃ ob,s.heap.get? b=some ob/\ob.dict=none)/\(a == sysModules)=false:=by
 rcases d with ⟨kvs,e⟩ | ⟨kvs,e⟩
 ·obtain ⟨_,hd,vs,_,dd⟩:=dk_rd I.hok e
  refine ⟨dd.typeIs,λ b q=>?_,hd⟩
  cases q
  obtain ⟨ob,_,_,h1,h2,_⟩:=dd
  exact ⟨ob,h1,h2.2.1⟩
 ·obtain ⟨_,hd,xs,_,dd⟩:=dt_rd I.hok e
  refine ⟨dd.typeIs,λ b q=>?_,hd⟩
  cases q
  obtain ⟨ob,_,_,h1,h2,_⟩:=dd
  exact ⟨ob,h1,h2.2.1⟩
section
variable {X:Cx} {pins:List (Addr × Obj)} {σ:St} {H:Hp} {s:Shared} {a:Addr} {y d:V} {u r:Value} {o:Option V} {A:Around} {E:Value->Shared->Prop}
theorem d_get1 {Q:Value->Shared->Prop} (hu:A.units+1<cLine) (I:Inv X pins σ H s) (g:DGet H a y o) (ry:RelV y u) (h:∀ w' s',Inv X pins σ H s'->RelV (o.getD .non) w'->Q w' s'):
 wpAny (model X.prog X.w) A (call (.builtin "dict.get") [.ref a,u]) Q E s:=by
 rcases g with ⟨kvs,k,e,ey,l⟩ | ⟨kvs,k,b,e,ey,eb,l⟩
 ·subst ey
  obtain ⟨z,hd,vs,rel,dd⟩:=dk_rd I.hok e
  refine call_meetsIn PySem.F.slot_dict_get dd.typeIs PySem.F.entry_dict_get (PySem.F.args_dict_get_2 _ _) (meets_dict_get (mixKind X.prog X.w) a (kV_is ry) hd) ⟨_,dd.mapOf,h _ _ (I.tok _) ?_⟩
  rw [l]
  exact (rel.val k).getD rfl
 ·subst ey
  cases (show u=Value.ref b from ry)
  obtain ⟨z,hd,xs,rel,dd⟩:=dt_rd I.hok e
  refine call_meetsIn PySem.F.slot_dict_get dd.typeIs PySem.F.entry_dict_get (PySem.F.args_dict_get_2 _ _) (meetsH_dict_get (tupleKind (mixKind X.prog X.w)) a b hd) ⟨tupleKind_room_in1 hu,k,xs,key_of I.hok eb,dd,h _ _ (I.tok _) ?_⟩
  rw [l]
  exact (rel.val k).getD rfl
theorem d_get2 {Q:Value->Shared->Prop} (hu:A.units+1<cLine) (I:Inv X pins σ H s) (g:DGet H a y o) (ry:RelV y u) (rd:RelV d r) (h:∀ w' s',Inv X pins σ H s'->RelV (o.getD d) w'->Q w' s'):
 wpAny (model X.prog X.w) A (call (.builtin "dict.get") [.ref a,u,r]) Q E s:=by
 rcases g with ⟨kvs,k,e,ey,l⟩ | ⟨kvs,k,b,e,ey,eb,l⟩
 ·subst ey
  obtain ⟨z,hd,vs,rel,dd⟩:=dk_rd I.hok e
  refine call_meetsIn PySem.F.slot_dict_get dd.typeIs PySem.F.entry_dict_get (PySem.F.args_dict_get_3 _ _ _) (meets_dict_get_default (mixKind X.prog X.w) a (kV_is ry) hd r) ⟨_,dd.mapOf,h _ _ (I.tok _) ?_⟩
  rw [l]
  exact (rel.val k).getD rd
 ·subst ey
  cases (show u=Value.ref b from ry)
  obtain ⟨z,hd,xs,rel,dd⟩:=dt_rd I.hok e
  refine call_meetsIn PySem.F.slot_dict_get dd.typeIs PySem.F.entry_dict_get (PySem.F.args_dict_get_3 _ _ _) (meetsH_dict_get_default (tupleKind (mixKind X.prog X.w)) a b hd r) ⟨tupleKind_room_in1 hu,k,xs,key_of I.hok eb,dd,h _ _ (I.tok _) ?_⟩
  rw [l]
  exact (rel.val k).getD rd
end
def tDGet1 (td ty:TE):TE:=λ σ H Q=>td σ H λ x H1=>∃ a,x=.ref a/\IsD H1 a/\ty σ H1 λ y H2=>∃ o,DGet H2 a y o/\Q (o.getD .non) H2
def tDGet2 (td ty tx:TE):TE:=λ σ H Q=>td σ H λ x H1=>∃ a,x=.ref a/\IsD H1 a/\ty σ H1 λ y H2=>tx σ H2 λ z H3=>∃ o,DGet H3 a y o/\Q (o.getD z) H3
section
variable {X:Cx} {o e f:Expr} {apos cpos:Pos} {td ty tx:TE}
theorem pe_dget1 (hu:X.A.units+1<cLine) (ho:PE X o td) (he:PE X e ty) (m:M1 X o "get" apos e cpos):PE X (.Call (.Attribute o "get" apos) [e] [] cpos) (tDGet1 td ty):=by
 intro pins s σ H Q I h
 refine wpAny_Call_method m.base m.few m.line PySem.F.plainAttrs_dict PySem.F.slot_dict_get PySem.F.type_dict_get (thn (ho pins s σ H _ I h) λ u s1 ⟨x,H1,I1,rx,a,ex,d,q1⟩=>?_)
 subst ex
 obtain rfl:u=Value.ref a:=rx
 obtain ⟨t1,t2,_⟩:=isD_at I1 d
 refine ⟨t1,t2,?_⟩
 rw [m.trees]
 refine Calls.callWith_builtin rfl (Calls.evalArgs_plain (Calls.spliced_cons (thn (he pins s1 σ H1 _ I1 q1) λ iv s2 ⟨y,H2,I2,ry,ov,g,q2⟩=>Calls.spliced_nil ?_)))
 exact d_get1 hu I2 g ry λ w' s3 I3 rw'=>⟨_,H2,I3,rw',q2⟩
theorem pe_dget2 (hu:X.A.units+1<cLine) (ho:PE X o td) (he:PE X e ty) (hf:PE X f tx) (m:M2 X o "get" apos e f cpos):PE X (.Call (.Attribute o "get" apos) [e,f] [] cpos) (tDGet2 td ty tx):=by
 intro pins s σ H Q I h
 refine wpAny_Call_method m.base m.few m.line PySem.F.plainAttrs_dict PySem.F.slot_dict_get PySem.F.type_dict_get (thn (ho pins s σ H _ I h) λ u s1 ⟨x,H1,I1,rx,a,ex,d,q1⟩=>?_)
 subst ex
 obtain rfl:u=Value.ref a:=rx
 obtain ⟨t1,t2,_⟩:=isD_at I1 d
 refine ⟨t1,t2,?_⟩
 rw [m.trees]
 refine Calls.callWith_builtin rfl (Calls.evalArgs_plain (Calls.spliced_cons (thn (he pins s1 σ H1 _ I1 q1) λ iv s2 ⟨y,H2,I2,ry,q2⟩ =>
  Calls.spliced_cons (thn (hf pins s2 σ H2 _ I2 q2) λ fv s3 ⟨z,H3,I3,rz,ov,g,q3⟩=>Calls.spliced_nil ?_))))
 exact d_get2 hu I3 g ry rz λ w' s4 I4 rw'=>⟨_,H3,I4,rw',q3⟩
end
section
variable {X:Cx} {pins:List (Addr × Obj)} {σ:St} {H:Hp} {s:Shared} {a:Addr} {kvs:List (Key × V)} {A:Around} {E:Value->Shared->Prop}
end
section
variable {X:Cx} {pins:List (Addr × Obj)} {σ:St} {H:Hp} {s:Shared} {a:Addr} {y:V} {u:Value} {A:Around} {E:Value->Shared->Prop}
end
end L2
namespace L2
open PySem PySem.Spec PyProof.Rows
section
variable {X:Cx}
end
section
variable {κ:Type} [DecidableEq κ]
end
end L2
namespace L2
open PySem PySem.Spec PyProof.Rows
section
variable {X:Cx} {pins:List (Addr × Obj)} {σ:St} {H:Hp} {s:Shared} {h':Heap}
theorem Inv.turned2 {t':Nat} {i1 i2:Addr} (I:Inv X pins σ H s) (k:∀ b o,b ≠ i1->b ≠ i2->s.heap.get? b=some o->h'.get? b=some o) (f1:FpOk X pins H i1) (f2:FpOk X pins H i2):Inv X pins σ H { s with heap:=h',toks:=t' }:=by
 obtain ⟨a0,a1,a2,a3,a4,a5⟩:=f1
 obtain ⟨b0,b1,b2,b3,b4,b5⟩:=f2
 have n1:∀ b u,H b=some u->b ≠ i1:=λ b u e z=>by rw [z,a0] at e; cases e
 have n2:∀ b u,H b=some u->b ≠ i2:=λ b u e z=>by rw [z,b0] at e; cases e
 refine I.step (g':=s.gens) (d':=s.drawn) (ch:=[i1,i2]) (λ b hb=>?_) (λ b o _ _ hc e _=>k b o (λ z=>hc (by simp [z])) (λ z=>hc (by simp [z])) e) (λ b o _ _ hc e _=>⟨o.slots,k b o (λ z=>hc (by simp [z])) (λ z=>hc (by simp [z])) e⟩) (λ _ _ _ _ n=>n)
  (λ b o hc e=>⟨o,k b o (λ z=>hc (by simp [z])) (λ z=>hc (by simp [z])) e⟩) (λ _ _ e=>e) (λ _ _ _ e=>e) (λ b ps e=>⟨#[],by rw [e]; simp⟩) (λ m hm=>?_) (λ b u e=>?_) I.bare
 ·rcases List.mem_cons.mp hb with e | e
  ·subst e; exact ⟨a3,a1,a4,a5⟩
  ·have e:=List.mem_singleton.mp e
   subst e; exact ⟨b3,b1,b4,b5⟩
 ·obtain ⟨o,es,ep,ho,r⟩:=hm
  exact ⟨o,es,ep,k _ o (Ne.symm a1) (Ne.symm b1) ho,r⟩
 ·refine (I.hok b u e).stay (λ c v hc q=>k c v ?_ ?_ q) (λ _ q=>q) λ _ _ q=>q
  ·rcases hc with z | z
   ·rw [z]; exact n1 b u e
   ·exact n1 c _ z
  ·rcases hc with z | z
   ·rw [z]; exact n2 b u e
   ·exact n2 c _ z
end
section
variable {X:Cx}
end
end L2
namespace L2
open PySem PySem.Spec PyProof.Rows
section
variable {X:Cx}
def rIndex:V->List V->Hp->VK->Prop:=λ x vs H Q=>∃ l c,x=vt l/\vs=[vt [c]]/\c ∈ l/\∀ j:Nat,l[j]?=some c->Q (.int (j:Int)) H
theorem mt_index:MtR X "str.index" rIndex:=by
 intro pins s σ H x vs v us Q I rx rs h
 obtain ⟨l,c,rfl,rfl,hc,q⟩:=h
 obtain ⟨t,rfl⟩:=rx
 obtain ⟨u,rfl,ru⟩:=vals1 rs
 obtain ⟨t2,rfl⟩:=ru
 have hf:=StrLaws.found_one (tx l) c
 rw [show (tx l).cps.toList=l from rfl,decide_eq_true hc] at hf
 cases ho:Builtin.Str.occurrences (tx l) (tx [c]) 0 (tx l).length 1 with
 | nil =>
   have:(Builtin.Str.occurrences (tx l) ⟨#[c]⟩ 0 (tx l).length 1)=[]:=ho
   rw [this] at hf; cases hf
 | cons i rest =>
   have hi:i ∈ Builtin.Str.occurrences (tx l) ⟨#[c]⟩ 0 (tx l).length 1:=by
    rw [show Builtin.Str.occurrences (tx l) ⟨#[c]⟩ 0 (tx l).length 1=i::rest from ho]; exact List.mem_cons_self
   have hat:=(StrLaws.subAt_one (tx l) c i).mp (StrLaws.occ_spec _ _ _ _ _ i hi)
   exact call_gives PySem.F.slot_str_index (typeIs_str _ _ _) PySem.F.entry_str_index (PySem.F.args_str_index_2 _ _) (gives_str_index (tx l) (tx [c]) t t2 i rest ho) ⟨.int i,H,I.tok _,⟨_,rfl⟩,q i hat⟩
def rGetL (K:PySem.W.Frag):V->V->Hp->VK->Prop:=λ x y H Q=>∃ p xs i v,x=.ref p/\y=.int i/\SqL K H p xs/\0<=i/\atI xs i=some v/\Q v H
theorem get_list:PGet X (rGetL X.K):=by
 intro pins s σ H x y v u Q I rx ry h
 obtain ⟨p,xs,i,z,rfl,rfl,hq,h0,he,q⟩:=h
 cases rx
 obtain ⟨t,rfl⟩:=ry
 obtain ⟨its,r,pl,hz⟩:=I.list hq
 obtain ⟨j,h1,h2,h3,h4,h5⟩:=atI_get he
 obtain ⟨w,ew,rw'⟩:=r.get h2
 have hl:=r.length
 have hn:=line63
 have hj:i.toNat=j:=by
  rw [seqIndex_of h0 h5] at h1
  exact Option.some.inj h1
 exact wpAny_getItem_list pl.isList h0 (by omega) (by rw [hj]; simpa using ew) ⟨z,H,I,rw',q⟩
end
end L2
namespace L2
open PySem PySem.Spec PyProof.Rows
structure DEnt (o:Obj) (es:Array DictEntry) (ep:Nat):Prop where
 ex:o.ExactDict
 da:o.data=.dict es ep
section
variable {prog:Program} {w:World} {A:Around} {E:Value->Shared->Prop} {s:Shared} {o:Obj} {es:Array DictEntry} {ep:Nat} {it d:Addr} {i:Nat}
theorem DEnt.typeIs (D:DEnt o es ep) (ho:s.heap.get? d=some o):s.TypeIs (.ref d) "dict":=⟨o,ho,D.ex.1⟩
end
section
variable {X:Cx}
end
end L2
namespace L2
open PySem PySem.Spec PyProof.Rows
section
variable {X:Cx}
end
end L2
namespace L2
open PySem PySem.Spec PyProof.Rows
section
variable {X:Cx}
end
end L2
namespace L2
open PySem PySem.Spec PyProof.Rows
section
variable {prog:Program} {w:World} {A:Around} {E:Value->Shared->Prop} {s:Shared} {it t:Addr} {i:Nat} {items:Array Value} {x:Value}
structure ZApart (z TI TO i1 i2:Addr):Prop where
 a1:TI ≠ z
 a2:TO ≠ z
 a3:i1 ≠ z
 a4:i2 ≠ z
 a5:TI ≠ TO
 a6:TI ≠ i1
 a7:TI ≠ i2
 a8:TO ≠ i1
 a9:TO ≠ i2
 a0:i1 ≠ i2
end
section
variable {X:Cx} {pins:List (Addr × Obj)} {σ:St} {H:Hp} {s:Shared} {h':Heap}
end
section
variable {X:Cx}
theorem zn {n:Nat} {a b:Nat} (h:a ≠ b):n+a ≠ n+b:=by omega
end
end L2
namespace L2
open PySem PySem.Spec PyProof.Rows
section
variable {X:Cx}
def iRngD (ta:TA):TI:=λ σ H R=>ta σ H λ vs H1=>∃ i:Int,vs=[.int i,.int (-1),.int (-1)]/\(-1<=i/\i<2^60)/\R (Itrs i (-1) (i+1).toNat) H1
theorem rangeSize_dn {i:Int} (h1:-1<=i) (h2:i<2^60):Builtin.Range.rangeSize i (-1) (-1)=i+1/\Builtin.Range.small i (-1) (-1)=true:=by
 have e:Builtin.Range.rangeSize i (-1) (-1)=i+1:=by
  unfold Builtin.Range.rangeSize
  rw [if_neg (by decide)]
  split<;>(try simp)<;>omega
 refine ⟨e,?_⟩
 unfold Builtin.Range.small
 rw [e]
 simp only [Builtin.Range.rangeFitsLong,Bool.and_eq_true,Bool.or_eq_true,decide_eq_true_eq,beq_iff_eq]
 simp
 omega
variable {tg:Expr}
theorem pi_rangeD {a b c:Expr} {ta:TA} {p pos:Pos} (hg:Gl X "range") (hm:X.mg "range" = none) (ha:PA X [a,b,c] ta) (hs:starEach [a,b,c] X.env=(false,eval a X.env)::starEach [b,c] X.env:=by rfl) (hs2:(backTo pos (starEach [b,c] X.env)).any (·.1)=false:=by rfl):
 PI X tg (.Call (.Name "range" p) [a,b,c] [] pos) (iRngD ta):=by
 intro pins s σ H R I h
 refine Call_ (ld_blt I hg hm boot_range (PyProof.Rows.callWith_type1 (thn (ha pos pins s σ H _ I h) λ us s1 ⟨vs,H1,I1,r1,q1⟩=>?_) hs hs2))
 obtain ⟨i,e,⟨h1,h2⟩,q⟩:=q1
 subst e
 cases r1 with
 | cons r rr =>
   cases rr with
   | cons r' rr =>
     cases rr with
     | cons r'' rr =>
       cases rr
       obtain ⟨t,rfl⟩:=r
       obtain ⟨t',rfl⟩:=r'
       obtain ⟨t'',rfl⟩:=r''
       have z:=rangeSize_dn h1 h2
       refine call_range_3 (by decide) ?_ (.inl (PyProof.noPylong_small (by omega)))
       refine wpAny_pyIter_range (IsRange.new ..) z.2 ?_
       have I2:Inv X pins σ H1 { s1 with heap:=s1.heap.push { cls:=.type "range",data:=.fields #[.int i t,.int (-1) t',.int (-1) t''] },toks:=s1.toks }:=I1.kept λ b o e=>Heap.get?_push_of_some _ e
       refine ⟨(s1.heap.push { cls:=.type "range",data:=.fields #[.int i t,.int (-1) t',.int (-1) t''] }).objs.size,[(s1.heap.push { cls:=.type "range",data:=.fields #[.int i t,.int (-1) t',.int (-1) t''] }).objs.size],_,_,H1,rfl,
        I2.kept (t':=s1.toks) λ b o e=>Heap.get?_push_of_some _ e,turn_ranges _ i (-1) (i+1).toNat,?_,λ b hb=>?_,q⟩
       ·have e1:i+((0:Nat):Int)*(-1)=i:=by simp
        have e2:(((i+1).toNat:Nat):Int)-((0:Nat):Int)=Builtin.Range.rangeSize i (-1) (-1):=by rw [z.1]; omega
        show IsRangeIter _ _ (i+((0:Nat):Int)*(-1)) ((((i+1).toNat:Nat):Int)-((0:Nat):Int)) (-1)
        rw [e1,e2]
        exact Heap.get?_push_size _ rfl
       ·have e:b=(s1.heap.push { cls:=.type "range",data:=.fields #[.int i t,.int (-1) t',.int (-1) t''] }).objs.size:=by simpa using hb
        subst e
        exact I2.fpOk (Nat.le_refl _) (I2.hok.fresh (Nat.le_refl _))
end
end L2
namespace L2
open PySem PySem.Spec PyProof.Rows
section
variable {X:Cx}
end
end L2
namespace L2
open PySem PySem.Spec PyProof.Rows
section
variable {X:Cx}
end
end L2
namespace L2
open PySem PySem.Spec PyProof.Rows
section
variable {X:Cx}
end
end L2
namespace L2
open PySem PySem.Spec PyProof.Rows
end L2
namespace L2
open PySem PySem.Spec PyProof.Rows
section
variable {X:Cx}
end
end L2
namespace L2
open PySem PySem.Spec PyProof.Rows
structure FunD (K:PySem.W.Frag) (x qual:Str) (st:Stmt) (f:Addr) (fd:FuncData) (D:Addr):Prop where
 ex:∃ (oc:Value) (od:Option Addr) (kV doc pm:Value) (an:Option Addr) (cdv ct:Value) (osl:Array (Option Value)),
  fd=PySem.W.fnOf x qual (defArgs st) (defBody st) (defScope st) (.ref D) kV doc pm an cdv ct/\K.lookup f=some ⟨oc,od,.func fd,osl⟩/\PySem.W.codeIn K cdv qual=true
 kp:PySem.W.keepIn K (.ref f)=true
section
variable {P:Program} {w:World} {K:PySem.W.Frag} {mg:Str->Option Value} {base:Heap}
theorem FunD.okx {x qual:Str} {st:Stmt} {f D:Addr} {fd:FuncData} {N ps:List Str} {k:Nat} {sp:Sp} (F:FunD K x qual st f fd D) (S:FnScope N ps (defScope st)) (len:∀ vs H Q E,sp vs H Q E->vs.length=ps.length)
 (hbody:∀ (cdv:Value) (A:Around) (outer:List Env) (s:Shared) (H:Hp) (vs:List V) (Q:VK) (E:XK),Room k (A.deeper (envOfC qual (defScope st) s.heap.objs.size f cdv))->sp vs H Q E->
  ∃ t,PSs (cxOf (CX1 P w) P w K mg base N qual (defScope st) f cdv A outer s H E) (defBody st) t/\t { nx:=λ _ H'=>Q .non H',rt:=Q } (start N vs) H):FnOk P w K mg base (CX1 P w) (k+1) f fd ps sp:=by
 obtain ⟨oc,od,kV,doc,pm,an,cdv,ct,osl,rfl,lk,hcd⟩:=F.ex
 refine fn_of lk hcd S len λ A outer s H vs Q E hr hsp=>?_
 exact hbody cdv A outer s H vs Q E hr hsp
theorem FunD.binds {x qual:Str} {st:Stmt} {f D:Addr} {fd:FuncData} {ps:List Str} {ds:List Value} {oc':Value} {od':Option Addr} {items:Array Value} {n:Nat} {sl':Array (Option Value)} (F:FunD K x qual st f fd D) (ld:K.lookup D=some ⟨oc',od',.seq items n,sl'⟩)
 (h:∀ (kV doc pm:Value) (an:Option Addr) (cdv ct:Value) (us:List Value),(us++ds).length=ps.length->(∃ k,bindArgs (PySem.W.fnOf x qual (defArgs st) (defBody st) (defScope st) (.ref D) kV doc pm an cdv ct) ⟨us,[]⟩=seqItems? (.ref D) >>= k/\k (some items)=pure (ps.zip (us++ds)))\/bindArgs (PySem.W.fnOf x qual (defArgs st) (defBody st) (defScope st) (.ref D) kV doc pm an cdv ct) ⟨us,[]⟩=pure (ps.zip (us++ds))):Binds K fd ps ds:=by
 obtain ⟨oc,od,kV,doc,pm,an,cdv,ct,osl,rfl,lk,hcd⟩:=F.ex
 intro s us KX hl
 rcases h kV doc pm an cdv ct us hl with ⟨k,h1,h2⟩ | h1
 ·exact BindsTo.of_defaults (T:=D) rfl (KX _ _ ld) rfl h1 h2
 ·exact .of_eq h1
theorem fund_mk {x qual:Str} {st:Stmt} {f D:Addr} {oc:Value} {od an:Option Addr} {osl:Array (Option Value)} {kV doc pm cdv ct:Value} (l:K.lookup f=some ⟨oc,od,.func (PySem.W.fnOf x qual (defArgs st) (defBody st) (defScope st) (.ref D) kV doc pm an cdv ct),osl⟩)
 (c:PySem.W.codeIn K cdv qual=true) (k:PySem.W.keepIn K (.ref f)=true):FunD K x qual st f (PySem.W.fnOf x qual (defArgs st) (defBody st) (defScope st) (.ref D) kV doc pm an cdv ct) D:=⟨⟨oc,od,kV,doc,pm,an,cdv,ct,osl,rfl,l,c⟩,k⟩
end
section
variable {X:Cx}
end
end L2
namespace L2
open PySem PySem.Spec PyProof.Rows
def tTryN (K:PySem.W.Frag) (C:Addr) (tb:Pins->(Value->Shared->Prop)->XS->TS) (th:Pins->Value->TS):TS:=λ D σ H=>∀ pins xe,
 tb pins xe (λ c σ' H'=>∃ R,c=.ref R/\PySem.W.mroIn K R (.ref C)=some true/\∀ ps e,th ps e D σ' H') D σ H
section
variable {X:Cx} {C:Addr} {x:Str} {body:List Stmt} {b₀:Stmt} {suite:List Stmt} {np hpos pos:Pos} {tb:Pins->(Value->Shared->Prop)->XS->TS} {th:Pins->Value->TS} {bmB:List Value} {newId:String}
theorem ps_tryN (hA:X.calm=true) (hex:X.ex=[]) (hst:X.stack=X.env::X.outer) (hfr:X.env.frame=some X.env.locals) (hg:Gl X x) (hm:X.mg x=some (.ref C))
 (hq:PySem.W.excIn X.K C bmB newId=true) (hbase:bmB.contains (.type "BaseException")=true)
 (hb:∀ (pins:List (Addr × Obj)) (xe:Value->Shared->Prop) (Φ:XS),PassX X.prog X.w (X.tryX pins xe) Φ->PSs (X.tryX pins xe) body (tb pins xe Φ))
 (hh:∀ (pins:List (Addr × Obj)) (e:Value),PSs (X.handX pins e) (b₀::suite) (th pins e)) (hdb:(x == ("__debug__" : Str))=false:=by decide):
 PS X (.Try body [.ExceptHandler (some (.Name x np)) none (b₀::suite) hpos] [] [] pos) (tTryN X.K C tb th):=by
 intro pins s σ H D I h
 have ok:=I.ok
 refine wpAny_Try_except (thn (hb pins _ _ ?_ [] s σ H D (I.tryX _) (h _ _)) λ f s1 z=>?_)
 ·intro pins' σ1 H1 s1 e s2 I1 hc
  obtain ⟨a,Cv,H2,rfl,y,R,rfl,hup,hΦ⟩:=hc
  obtain ⟨B,a0,hf,k1,k2,k3⟩:=y.ex
  have hf:Heap.FlyingW B (X.env::X.outer) a (.ref R) a0 s2.heap:=hst ▸ hf
  show wpAny _ _ (noteFrame _ _) _ _ _
  refine wpAny_looks_onW (by rw [ok.frames,hst]) hfr hf λ h4 hh4 hs4=>?_
  refine wpAny_landsW hh4 λ h5 hf5 hs5=>?_
  have mv:=Fly.move y.un y.hok (hst ▸ hf) k1 k2 k3 hf5.1 (hs4.trans hs5)
  have I5:Inv X pins σ1 H2 { s2 with heap:=h5 }:=Inv.untry ok (Inv.call' (s':={ s2 with heap:=h5 }) (ch:=[]) I1 y.os mv.1 mv.2 y.bare λ b z=>absurd z (by simp))
  have J5:=I5.handX (.ref a)
  obtain ⟨ob,hob,hobc⟩:=hf5.there
  refine wpAny_handleBy_cons (codeAny_handlers_test ?_) (by intro q; cases q)
  refine ld_glob (X:=X.handX pins (.ref a)) J5 hg hm ?_ hdb
  obtain ⟨bm,N,nm,qn,bs,hdct,sn,sub,ab,col,dd,k0,k1',k2',k3',k5,mN,hC,hNs,hni,T⟩:=exc_obj I5.kIn hq
  refine wpAny_excMatches_up I5.kIn hup hC hob hobc (T.hasType hbase) (codeAny_handlers_suite ?_)
  refine lands_againW hf5 λ h6 hf6 hs6=>?_
  have mv6:=Fly.move y.un y.hok (hst ▸ hf) k1 k2 k3 hf6.1 ((hs4.trans hs5).trans hs6)
  have I6:Inv X pins σ1 H2 { s2 with heap:=h6 }:=Inv.untry ok (Inv.call' (s':={ s2 with heap:=h6 }) (ch:=[]) I1 y.os mv6.1 mv6.2 y.bare λ b z=>absurd z (by simp))
  refine wpAny_mono (hh pins (.ref a) [] _ _ _ _ (I6.handX (.ref a)) (hΦ _ _)) (λ f s9 z=>?_) λ _ _ z=>z.elim
  cases f with
  | next=>obtain ⟨σ',H',J,q⟩:=z; exact ⟨_,H',J.unhand ok,q⟩
  | brk=>obtain ⟨σ',H',J,q⟩:=z; exact ⟨_,H',J.unhand ok,q⟩
  | cont=>obtain ⟨σ',H',J,q⟩:=z; exact ⟨_,H',J.unhand ok,q⟩
  | ret u=>obtain ⟨v,σ',H',J,r,q⟩:=z; exact ⟨v,_,H',J.unhand ok,r,q⟩
 ·cases f with
  | next=>exact wpAny_execs_nil (SP.untry ok z)
  | brk=>exact SP.untry ok z
  | cont=>exact SP.untry ok z
  | ret u=>exact SP.untry ok z
end
end L2
namespace L2
open PySem PySem.Spec PyProof.Rows
def put (A' H A:Hp):Hp:=λ b=>match A' b with
 | some o=>some o
 | none=>match A b with
   | some _=>none
   | none=>H b
theorem put_new {A' H A:Hp} {b:Addr} {o:HO} (h:A' b=some o):put A' H A b=some o:=by unfold put; rw [h]
theorem put_old {A' H A:Hp} {b:Addr} (h:A' b=none) (h2:A b=none):put A' H A b=H b:=by unfold put; rw [h,h2]
structure Part (A H:Hp):Prop where
 sub:Same A H
 tup:∀ b xs,H b=some (.tup xs)->A b=some (.tup xs)
 own:∀ a b o,H b=some (.own a)->A a=some o->A b=some (.own a)
 wno:∀ a b o,H a=some o->A a=none->(∀ xs,o ≠ .lst xs)->H b=some (.own a)->A b=none
structure Aft (A A' H:Hp):Prop where
 free:∀ b o,H b=some o->A b=none->A' b=none
 tup:∀ b xs,A b=some (.tup xs)->A' b=some (.tup xs)
section
variable {P:Program} {w:World} {K:PySem.W.Frag} {mg:Str->Option Value} {base:Heap} {A A' H:Hp} {h h':Heap}
theorem Part.none (p:Part A H) {b:Addr} (e:H b=none):A b=none:=by
 cases q:A b with
 | none=>rfl
 | some o=>rw [p.sub b o q] at e; cases e
theorem Part.hok (p:Part A H) (x:HOk P w H h):HOk P w A h:=λ a o e =>
 (x a o (p.sub a o e)).stay (λ _ _ _ q=>q) (λ b q=>p.own a b o q e) p.tup
theorem Aft.sub (x:Aft A A' H):Same A' (put A' H A):=λ b o e=>put_new e
theorem Aft.rest (x:Aft A A' H) {b:Addr} {o:HO} (e:H b=some o) (n:A b=none):put A' H A b=some o:=by
 rw [put_old (x.free b o e n) n]; exact e
end
end L2
namespace L2
open PySem PySem.Spec PyProof.Rows
section
variable {X:Cx}
end
end L2
namespace L2
open PySem PySem.Spec PyProof.Rows
def isIns:HO->Bool
 | .ins ..=>true
 | .frz _ u=>isIns u
 | _=>false
section
variable {P:Program} {w:World} {K:PySem.W.Frag} {mg:Str->Option Value} {base:Heap} {A A' H H':Hp} {h h':Heap}
theorem ObjOk.swap {a:Addr}:∀ {o:HO},ObjOk P w H h a o->isIns o=false->(∀ b xs,H b=some (.tup xs)->H' b=some (.tup xs))->ObjOk P w H' h a o
 | .lst _,x,_,_=>x
 | .tup _,x,_,_=>x
 | .dK _,x,_,_=>x
 | .dT _,x,_,ht=>by
   obtain ⟨z,y,xs,r,ob,es,ep,e,c⟩:=x
   exact ⟨z,y,xs,Paired.mapP r λ p q z=>⟨z.1,ht _ _ z.2.1,z.2.2⟩,ob,es,ep,e,c⟩
 | .set _ _,x,_,_=>x
 | .ins ..,_,h,_=>by cases h
 | .own _,x,_,_=>x
 | .xd _,x,_,_=>x
 | .rng _ _,x,_,_=>x
 | .frz _ u,x,h,ht=>⟨x.1,ObjOk.swap (o:=u) x.2 h ht⟩
 | .tbl _,x,_,_=>x
 | .met _ _,x,_,_=>x
 | .ext _,x,_,_=>x
def noOwn (H:Hp):Hp:=λ b=>match H b with
 | some (.own _)=>none
 | o=>o
theorem noOwn_tup {b:Addr} {xs:List V} (h:H b=some (.tup xs)):noOwn H b=some (.tup xs):=by unfold noOwn; rw [h]
theorem noOwn_back {b:Addr} {o:HO} (h:noOwn H b=some o):H b=some o:=by
 unfold noOwn at h
 cases q:H b with
 | none=>rw [q] at h; cases h
 | some u=>rw [q] at h; cases u<;>first | exact h | cases h
theorem noOwn_own {b x:Addr} (h:noOwn H b=some (.own x)):False:=by
 have:=noOwn_back h
 unfold noOwn at h
 rw [this] at h; cases h
theorem ObjOk.stay3 {a:Addr} {o:HO} (x:ObjOk P w H h a o) (k:∀ u,h.get? a=some u->h'.get? a=some u) (ki:isIns o=true->∀ b u,H b=some (.own a)->h.get? b=some u->h'.get? b=some u)
 (ho:isIns o=true->∀ b,H b=some (.own a)->H' b=some (.own a)) (ht:∀ b xs,H b=some (.tup xs)->H' b=some (.tup xs)):ObjOk P w H' h' a o:=by
 by_cases z:isIns o=true
 ·exact x.stay (λ b u hb q=>by
   rcases hb with rfl | hb
   ·exact k u q
   ·exact ki z b u hb q) (ho z) ht
 ·have z':isIns o=false:=by simpa using z
  have x2:ObjOk P w (noOwn H) h a o:=x.swap z' λ b xs e=>noOwn_tup e
  have x3:ObjOk P w (noOwn H) h' a o:=x2.stay (λ b u hb q=>by
   rcases hb with rfl | hb
   ·exact k u q
   ·exact (noOwn_own hb).elim) (λ b q=>q) λ b xs q=>q
  exact x3.swap z' λ b xs e=>ht b xs (noOwn_back e)
structure Prt (A H:Hp):Prop where
 sub:Same A H
 tup:∀ b xs,H b=some (.tup xs)->A b=some (.tup xs)
 own:∀ a b o,isIns o=true->H b=some (.own a)->A a=some o->A b=some (.own a)
 wno:∀ a b o,isIns o=true->H a=some o->A a=none->H b=some (.own a)->A b=none
theorem Prt.none (p:Prt A H) {b:Addr} (e:H b=none):A b=none:=by
 cases q:A b with
 | none=>rfl
 | some o=>rw [p.sub b o q] at e; cases e
theorem Prt.hok (p:Prt A H) (x:HOk P w H h):HOk P w A h:=λ a o e =>
 (x a o (p.sub a o e)).stay3 (λ _ q=>q) (λ _ _ _ _ q=>q) (λ i b q=>p.own a b o i q e) p.tup
end
def Alk (K:PySem.W.Frag) (H:Hp):Nat->V->V->Prop
 | 0,u,v=>u=v/\(flatV u=true\/∃ p,u=.ref p)
 | n+1,u,v=>Alk K H n u v\/∃ p q xs ys,u=.ref p/\v=.ref q/\((SqT K H p xs/\SqT K H q ys)\/(SqL K H p xs/\SqL K H q ys))/\xs.length=ys.length/\∀ (i:Nat) u' v',xs[i]?=some u'->ys[i]?=some v'->Alk K H n u' v'
section
variable {X:Cx}
theorem all_true (n:Nat):(List.range n).all (λ _=>true)=true:=by simp
theorem items_at {n:Nat} {s:Shared} {A:Around} {H:Hp} {xs ys:List V} {us ws:List Value} (r:Vals xs us) (q:Vals ys ws) (hz:xs.length=ys.length)
 (hi:∀ (i:Nat) u v,xs[i]?=some u->ys[i]?=some v->Alk X.K H n u v) (ih:∀ u v u' v',RelV u u'->RelV v v'->Alk X.K H n u v->SeqAt.EqAt A s u' v' true) (j:Nat) (h1:j<us.toArray.size) (h2:j<ws.toArray.size):SeqAt.EqAt A s us.toArray[j] ws.toArray[j] true:=by
 have l1:=r.length
 have l2:=q.length
 have h1':j<xs.length:=by simpa [l1] using h1
 have h2':j<ys.length:=by simpa [l2] using h2
 obtain ⟨u,hu,ru⟩:=r.get (i:=j) (x:=xs[j]) (List.getElem?_eq_getElem h1')
 obtain ⟨v,hv,rv⟩:=q.get (i:=j) (x:=ys[j]) (List.getElem?_eq_getElem h2')
 have e1:us.toArray[j]=u:=by
  obtain ⟨_,z⟩:=List.getElem?_eq_some_iff.mp hu; simpa using z
 have e2:ws.toArray[j]=v:=by
  obtain ⟨_,z⟩:=List.getElem?_eq_some_iff.mp hv; simpa using z
 rw [e1,e2]
 exact ih _ _ _ _ ru rv (hi j _ _ (List.getElem?_eq_getElem h1') (List.getElem?_eq_getElem h2'))
theorem alk_at {pins:List (Addr × Obj)} {s:Shared} {σ:St} {H:Hp} (I:Inv X pins σ H s):∀ (n:Nat) (A:Around) (u v:V) (u' v':Value),A.units+n<cLine->RelV u u'->RelV v v'->Alk X.K H n u v->SeqAt.EqAt A s u' v' true
 | 0,A,u,v,u',v',hu,ru,rv,h=>by
   obtain ⟨rfl,hf⟩:=h
   rcases hf with hf | ⟨p,rfl⟩
   ·have h1:=eqAt_V (A:=A) (s:=s) ru rv hf hf
    have h2:=eqVs_refl (xs:=[u]) (by simp [hf])
    have h3:eqV u u=true:=by simpa [eqVs] using h2
    rw [h3] at h1; exact h1
   ·cases (show u'=Value.ref p from ru)
    cases (show v'=Value.ref p from rv)
    exact SeqAt.EqAt.same _
 | n+1,A,u,v,u',v',hu,ru,rv,h=>by
   rcases h with h | ⟨p,q,xs,ys,rfl,rfl,hh,hz,hi⟩
   ·exact alk_at I n A u v u' v' (by omega) ru rv h
   cases (show u'=Value.ref p from ru)
   cases (show v'=Value.ref q from rv)
   by_cases z:p=q
   ·subst z; exact SeqAt.EqAt.same _
   have hu1:A.in1.units+n<cLine:=by rw [units_in1]; omega
   rcases hh with ⟨h1,h2⟩ | ⟨h1,h2⟩
   ·obtain ⟨t1,r1,k1,_⟩:=I.tuple h1
    obtain ⟨t2,r2,k2,_⟩:=I.tuple h2
    have m1:=r1.length
    have m2:=r2.length
    have hR:=SeqAt.RcAt.tuples (A:=A) (e:=λ _=>true) k1 k2 (by omega) (items_at r1 r2 hz hi λ a b a' b' ra rb hab=>alk_at I n A.in1 a b a' b' hu1 ra rb hab)
    have e:((List.range (min t1.toArray.size t2.toArray.size)).all (λ _=>true) && t1.toArray.size == t2.toArray.size)=true:=by
     simp [← m1,← m2,hz]
    rw [e] at hR
    exact SeqAt.EqAt.of_refs z hR
   ·obtain ⟨t1,r1,k1,_⟩:=I.list h1
    obtain ⟨t2,r2,k2,_⟩:=I.list h2
    have m1:=r1.length
    have m2:=r2.length
    have hR:=SeqAt.RcAt.lists (A:=A) (e:=λ _=>true) k1.isList k2.isList (by simp [← m1,← m2,hz]) (by omega) (items_at r1 r2 hz hi λ a b a' b' ra rb hab=>alk_at I n A.in1 a b a' b' hu1 ra rb hab)
    rw [all_true] at hR
    exact SeqAt.EqAt.of_refs z hR
def rAlk (K:PySem.W.Frag) (b:Bool):R2:=λ x y H Q=>∃ p q xs ys,x=.ref p/\y=.ref q/\((SqT K H p xs/\SqT K H q ys)\/(SqL K H p xs/\SqL K H q ys))/\xs.length=ys.length/\(∀ (i:Nat) u' v',xs[i]?=some u'->ys[i]?=some v'->Alk K H 3 u' v')/\Q (.bl b) H
theorem op_eqK (hu:X.A.units+9<cLine):OpR X (compareOp .Eq) (rAlk X.K true):=by
 intro pins s σ H x y v u Q I rx ry h
 obtain ⟨p,q,xs,ys,rfl,rfl,hh,hz,hi,qq⟩:=h
 cases (show v=Value.ref p from rx)
 cases (show u=Value.ref q from ry)
 have hu1:X.A.in1.units+3<cLine:=by rw [units_in1]; omega
 rcases hh with ⟨h1,h2⟩ | ⟨h1,h2⟩
 ·obtain ⟨t1,r1,k1,_⟩:=I.tuple h1
  obtain ⟨t2,r2,k2,_⟩:=I.tuple h2
  have m1:=r1.length
  have m2:=r2.length
  refine SeqAt.eq_tupleAt (e:=λ _=>true) k1 k2 (by omega) (items_at r1 r2 hz hi λ a b a' b' ra rb hab=>alk_at I 3 X.A.in1 a b a' b' hu1 ra rb hab) ⟨.bl true,H,I,?_,qq⟩
  show Value.bool _=Value.bool true
  congr 1
  simp [← m1,← m2,hz]
 ·obtain ⟨t1,r1,k1,_⟩:=I.list h1
  obtain ⟨t2,r2,k2,_⟩:=I.list h2
  have m1:=r1.length
  have m2:=r2.length
  refine SeqAt.eq_listAt (e:=λ _=>true) k1.isList k2.isList (by simp [← m1,← m2,hz]) (by omega) (items_at r1 r2 hz hi λ a b a' b' ra rb hab=>alk_at I 3 X.A.in1 a b a' b' hu1 ra rb hab) ⟨.bl true,H,I,?_,qq⟩
  show Value.bool _=Value.bool true
  rw [all_true]
theorem op_neK (hu:X.A.units+9<cLine):OpR X (compareOp .NotEq) (rAlk X.K false):=by
 intro pins s σ H x y v u Q I rx ry h
 obtain ⟨p,q,xs,ys,rfl,rfl,hh,hz,hi,qq⟩:=h
 cases (show v=Value.ref p from rx)
 cases (show u=Value.ref q from ry)
 have hu1:X.A.in1.units+3<cLine:=by rw [units_in1]; omega
 rcases hh with ⟨h1,h2⟩ | ⟨h1,h2⟩
 ·obtain ⟨t1,r1,k1,_⟩:=I.tuple h1
  obtain ⟨t2,r2,k2,_⟩:=I.tuple h2
  have m1:=r1.length
  have m2:=r2.length
  refine SeqAt.RcNeAt.tuples (e:=λ _=>true) k1 k2 (by omega) (items_at r1 r2 hz hi λ a b a' b' ra rb hab=>alk_at I 3 X.A.in1 a b a' b' hu1 ra rb hab) X.prog X.w X.xe _ ⟨.bl false,H,I,?_,qq⟩
  show Value.bool _=Value.bool false
  congr 1
  simp [← m1,← m2,hz]
 ·obtain ⟨t1,r1,k1,_⟩:=I.list h1
  obtain ⟨t2,r2,k2,_⟩:=I.list h2
  have m1:=r1.length
  have m2:=r2.length
  refine SeqAt.RcNeAt.lists (e:=λ _=>true) k1.isList k2.isList (by simp [← m1,← m2,hz]) (by omega) (items_at r1 r2 hz hi λ a b a' b' ra rb hab=>alk_at I 3 X.A.in1 a b a' b' hu1 ra rb hab) X.prog X.w X.xe _ ⟨.bl false,H,I,?_,qq⟩
  show Value.bool _=Value.bool false
  congr 1
  simp
theorem hu9 {A:Around} {k:Nat} (hr:Room k A):A.units+9<cLine:=Nat.lt_of_le_of_lt (Nat.add_le_add_left (by decide:9<=64) _) hr.units
def oEqK (hu:X.A.units+9<cLine):=(oEqA (X:=X) (by omega)).or (op_eqK hu)
def oNeK (hu:X.A.units+9<cLine):=(oNeN (X:=X) (by omega)).or (op_neK hu)
variable {e st:Expr} {te tst:TE} {pos p2:Pos}
end
end L2
namespace L2
open PySem PySem.Spec PyProof.Rows
section
variable {X:Cx} {P:Program} {w:World} {k:Nat} {f C:Addr} {fd:FuncData} {ps:List Str} {sp:Sp} {dvs:List V} {ds:List Value} {Φ:XS} {m:Str} {apos pos:Pos} {o e:Expr} {es:List Expr} {t:TA} {ta:TE}
end
end L2
namespace L2
open PySem PySem.Spec PyProof.Rows
section
variable {X:Cx} {o e f:Expr} {apos cpos:Pos} {td ty tx:TE}
end
end L2
namespace L2
open PySem PySem.Spec PyProof.Rows
theorem draws_shift {P:Program} {w:World} {A:Around} {it:Addr} {fp:List Addr} {n:Nat} {Pv:Nat->Value->Prop} {St:Nat->Heap->Prop} (D:Draws P w A it fp n Pv St):
 Draws P w A it fp (n+1) (λ i v=>Pv (i-1) v) (λ i h=>1<=i/\St (i-1) h) where
 live:=λ i h st=>D.live _ h st.2
 frame:=λ i h h' st k=>⟨st.1,D.frame _ h h' st.2 k⟩
 item:=λ i s Q E hi st k=>D.item (i-1) s Q E (by have:=st.1; omega) st.2 λ x h' tk px st' sb=>k x h' tk px ⟨by omega,by rw [show i+1-1=i-1+1 by have:=st.1; omega]; exact st'⟩ sb
 done:=λ s Q E st k=>D.done s Q E (by have:=st.2; simpa using this) k
def Iten1 (z:Str):It:=⟨λ i _=>i<z.length,λ i H x H'=>∃ p c,H p=none/\H'=upd H p (.tup [.int ((i+1:Nat):Int),.str ⟨#[c]⟩])/\z.cps.toList[i]?=some c/\x=.ref p,λ i _=>z.length<=i⟩
theorem turn_enum1 {P:Program} {w:World} {K:PySem.W.Frag} {elts:List Expr} {k} {tpos:Pos} {ty:String} (e it:Addr) (z:Str) (t:Tok) (hei:e ≠ it)
 (D:∀ A:Around,A.handled=none->Draws P w A it [it] z.cps.size (λ i v=>∃ c u,z.cps[i]?=some c/\v=.str ⟨#[c]⟩ u) (λ i h=>h.IsStrIter it ty z t i)):
 Turn P w K (.Tuple elts k tpos) (Iten1 z) [e,it] e (λ i h=>(∃ old,IsEnum h e it ((i+1:Nat):Int) old)/\h.IsStrIter it ty z t i/\i<=z.cps.size) where
 mem:=by simp
 obj:=λ i h st b hb=>by
  obtain ⟨⟨old,he⟩,⟨o,ho,_,hd⟩,_⟩:=st
  rcases List.mem_cons.mp hb with q | q
  ·subst q; exact ⟨_,he,λ v q=>by cases q⟩
  ·have q:=List.mem_singleton.mp q
   subst q; exact ⟨o,ho,λ v q=>by rw [hd] at q; cases q⟩
 keep:=λ i h h' st kk=>by
  obtain ⟨⟨old,he⟩,⟨o,ho,r⟩,hle⟩:=st
  exact ⟨⟨old,kk e (by simp) _ he⟩,⟨o,kk it (by simp) o ho,r⟩,hle⟩
 item:=by
  intro X hP hw hK hc i pins s σ H E I hf st hg
  subst hP hw hK
  obtain ⟨⟨old,he⟩,hit,_⟩:=st
  have hg':i<z.cps.size:=hg
  have helt:e<s.heap.objs.size:=Heap.lt_size he
  obtain ⟨oi,hoi,_⟩:=id hit
  have hilt:it<s.heap.objs.size:=Heap.lt_size hoi
  have hef:e ∉ [it]:=λ q=>hei (List.mem_singleton.mp q)
  refine wpAny_pyNext_enum_itemD (i:=i+1) (draws_shift (D X.A.in1 (I.ok.hd hc))) he ⟨by omega,hit⟩ (by omega) hei hef λ x h1 tk hPx heo hst hT hsz hk=>?_
  obtain ⟨c,u,hcz,rfl⟩:=hPx
  replace hcz:z.cps[i]?=some c:=hcz
  obtain ⟨_,hst⟩:=hst
  replace hst:h1.IsStrIter it ty z t (i+1):=hst
  refine ⟨_,rfl,?_⟩
  refine wpAny_letOwnedTupleGo_enum (s:={ s with heap:=h1,toks:=tk+1 }) heo λ h2 he2 hs2=>?_
  replace hs2:Heap.SameBut e h1 h2:=hs2
  have hpn:H s.heap.objs.size=none:=I.hok.fresh (Nat.le_refl _)
  have hTe:s.heap.objs.size ≠ e:=Nat.ne_of_gt helt
  have hT2:h2.get? s.heap.objs.size=some { cls:=.type "tuple",data:=.seq #[.int ((i+1:Nat):Int) tk,.str ⟨#[c]⟩ u] }:=(hs2.2 _ hTe).trans hT
  have I1:Inv X pins σ H { s with heap:=h2,toks:=tk+1 }:=I.turned2 (λ b o h1 h2 q=>(hs2.2 b h1).trans (hk b o h1 h2 q)) (hf e (by simp)) (hf it (by simp))
  have f:=I.fpOk (H':=H) (Nat.le_refl _) hpn
  have I2:Inv X pins σ (upd H s.heap.objs.size (.tup [.int ((i+1:Nat):Int),.str ⟨#[c]⟩])) { s with heap:=h2,toks:=tk+1 }:=by
   refine I1.adopt hpn ?_ (Ne.symm f.2.1) f.2.2.2.2.1 f.2.2.2.2.2 ⟨by show 2<=sizeLine; decide,[.int ((i+1:Nat):Int) tk,.str ⟨#[c]⟩ u],.cons ⟨_,rfl⟩ (.cons ⟨_,rfl⟩ .nil),?_⟩
   ·cases q:X.s₀.heap.get? s.heap.objs.size with
    | none=>rfl
    | some o=>exact absurd (Nat.lt_of_lt_of_le (Heap.lt_size q) I.sz) (Nat.lt_irrefl _)
   ·exact ⟨_,hT2,rfl,_,rfl⟩
  refine ⟨.ref s.heap.objs.size,_,I2,rfl,⟨_,c,hpn,rfl,by rw [Array.getElem?_toList]; exact hcz,rfl⟩,⟨⟨_,by simpa using he2⟩,?_,hg'⟩,λ b hb=>?_⟩
  ·obtain ⟨o,ho,r⟩:=hst
   exact ⟨o,(hs2.2 it (Ne.symm hei)).trans ho,r⟩
  ·rcases List.mem_cons.mp hb with q | q
   ·subst q; rw [upd_ne (Nat.ne_of_lt helt)]; exact (hf _ (by simp)).1
   ·have q:=List.mem_singleton.mp q
    subst q; rw [upd_ne (Nat.ne_of_lt hilt)]; exact (hf _ (by simp)).1
 done:=by
  intro X hP hw hK hc i pins s σ H E I hf st hg
  subst hP hw hK
  obtain ⟨⟨old,he⟩,hit,hle⟩:=st
  have hg':z.cps.size<=i:=hg
  have e1:i=z.cps.size:=Nat.le_antisymm hle hg'
  subst e1
  obtain ⟨f0,f1,f2,f3,f4,f5⟩:=hf it (by simp)
  exact wpAny_pyNext_enum_endD (draws_shift (D X.A.in1 (I.ok.hd hc))) he ⟨by omega,hit⟩ λ h' eb=>⟨rfl,I.turned (t':=s.toks) (λ b o hb e=>eb b o hb e) f0 f1 f3 f4 f5⟩
 self:=λ A i s Q E st h=>wpAny_pyIter_enum st.1.choose_spec h
theorem typeCall_enumerate_s (a b:Value):checkTypeCall "enumerate" ⟨[a],[("start",b)]⟩=pure ():=by kernel_rfl
theorem newCall_enumerate_s (a b:Value):checkBuiltinCall "enumerate.__new__" ⟨[.type "enumerate",a],[("start",b)]⟩=pure ():=by kernel_rfl
set_option maxHeartbeats 1000000 in
theorem meets_enumerate_newS1 (x:Str) (t u:Tok):
 Meets (Builtin.«enumerate.__new__» ⟨[.type "enumerate",.str x t],[("start",.int 1 u)]⟩) (λ _ R s =>
  R (.ok (.ret (.ref (s.heap.push { cls:=.type (strIterType x),data:=.fields #[.str x t,.int 0 0] }).objs.size)))
    { s with heap:=(s.heap.push { cls:=.type (strIterType x),data:=.fields #[.str x t,.int 0 0] }).push { cls:=.type "enumerate",data:=.fields #[.none,.bool false,.ref s.heap.objs.size,rawInt 1,.none,.none] } }) :=
 .of_wp λ prog w A R s h=>by
  obtain ⟨hp,g,d,tk,os⟩:=s
  have hsub:=sub_enumerate
  wp_walk
  refine wpAny_stack_any λ st=>wpAny_pure ?_
  split
  ·rename_i c _ _ _ _ _
   cases (c == Value.type "enumerate")
   ·wp_walk using wpAny_pyIter_strU
    exact ⟨_,rfl,h⟩
   ·wp_walk using wpAny_pyIter_strU
    exact ⟨_,rfl,h⟩
  ·wp_walk using wpAny_pyIter_strU
   exact ⟨_,rfl,h⟩
section
variable {pr:Program} {wl:World} {B:Around} {Ex:Value->Shared->Prop} {z:Shared}
theorem argsOk_init_kw (a b c:Value):argsOk "object.__init__" ⟨[a,b],[("start",c)]⟩:=by
 unfold argsOk
 rw [signature?_of (id := "object.__init__") (n:=['_','_','t','i','n','i','_','_']) (o:=['t','c','e','j','b','o']) (by kernel_rfl) F.owner_object]
 kernel_rfl
theorem init_kw {T nid:String} {self a c:Value} (hl:typeLookup (.type T) "__init__" = pure (some (.builtin "object.__init__")))
 (hm:Bind.madeBy (.type T)=pure (some nid)) (hne:(some nid != some "object.__new__")=true):
 Meets (Builtin.«object.__init__» ⟨[self,a],[("start",c)]⟩) (λ _ R s=>s.TypeIs self T/\R (.ok (.ret .none)) s):=by
 refine Meets.of_wp λ _ _ _ R s ⟨hT,hq⟩=>?_
 repeat (any_goals (first | assumption | wp_step))
 exact ⟨_,rfl,hq⟩
theorem called_kw {T nid:String} {Bn:Builtin} {a c:Value} {S:PySem.Spec} {Q:Value->Shared->Prop} (ft:TypeCalled T nid "object.__init__")
 (hne:(some nid != some "object.__new__")=true) (hct:checkTypeCall T ⟨[a],[("start",c)]⟩=pure ()) (hcn:checkBuiltinCall nid ⟨[.type T,a],[("start",c)]⟩=pure ())
 (en:entryFor table nid=some Bn) (g:Meets (Bn ⟨[.type T,a],[("start",c)]⟩) S)
 (h:S B.in1 (wants (λ ob s1=>s1.TypeIs ob T/\Q ob s1) Ex) z):wpAny (model pr wl) B (call (.type T) [a] [("start",c)]) Q Ex z:=by
 obtain ⟨k,tl,hmro⟩:=ft.mro
 have m1:=ft.made
 have m2:=ft.sub
 have m3:=ft.notType
 have m4:=ft.canCreate
 refine wpAny_call (codeAny_of_tree ?_)
 show wpAny _ _ (PySem.callAny (.type T) _) _ _ _
 refine wpAny_pure ⟨Code.quiet_builtin _ (by decide +kernel),codeAny_builtin F.entry_type_call ?_⟩
 rw [Around.under_plain (weight_type_call_type T _ _) (units_type_call_type T _ _)]
 repeat (any_goals (first | assumption | wp_step))
 refine codeAny_mono (codeAny_call_builtin ft.plain en (wpAny_of_eq hcn (g pr wl B.in1 _ z h))) λ r s1 hr=>?_
 cases r with
 | error e=>exact hr
 | ok fl =>
   cases fl with
   | ret ob =>
     obtain ⟨hT,hQ⟩:=hr
     have n1:=ft.init.lookup
     have n2:=ft.init.bind ob
     repeat (any_goals (first | assumption | wp_step))
     refine codeAny_mono (codeAny_call_builtin ft.init.plain F.entry_object_init (ft.init.check _ _ _ _ _ _ _ _ hT (argsOk_init_kw ob a c) ((init_kw ft.init.lookup ft.made hne) pr wl B.in1 (wants (λ r s2=>r=.none/\Q ob s2) Ex) s1 ⟨hT,rfl,hQ⟩))) λ r2 s2 hr2=>?_
     cases r2 with
     | error e=>exact hr2
     | ok fl2 =>
       cases fl2 with
       | ret r =>
         obtain ⟨rfl,hq⟩:=hr2
         repeat (any_goals (first | assumption | wp_step))
       | _=>exact hr2.elim
   | _=>exact hr.elim
end
section
variable {pr:Program} {wl:World} {B:Around} {Ex:Value->Shared->Prop} {z:Shared}
def ewalk (x:Str) (t:Tok):Obj:={ cls:=.type (strIterType x),data:=.fields #[.str x t,.int 0 0] }
def ecount (a:Addr):Obj:={ cls:=.type "enumerate",data:=.fields #[.none,.bool false,.ref a,rawInt 1,.none,.none] }
theorem call_enumerate_str1 {x:Str} {t u:Tok} {Q:Value->Shared->Prop}
 (h:∀ g,IsEnum g (z.heap.objs.size+1) z.heap.objs.size 1 .none->g.IsStrIter z.heap.objs.size (strIterType x) x t 0->
  (∀ b o,z.heap.get? b=some o->g.get? b=some o)->Q (.ref (z.heap.objs.size+1)) { z with heap:=g }):
 wpAny (model pr wl) B (call (.type "enumerate") [.str x t] [("start",.int 1 u)]) Q Ex z:=by
 refine called_kw PySem.F.called_enumerate (by decide) (typeCall_enumerate_s _ _) (newCall_enumerate_s _ _) PySem.F.entry_enumerate_new (meets_enumerate_newS1 x t u) ?_
 have e1:(z.heap.push (ewalk x t)).objs.size=z.heap.objs.size+1:=Heap.size_push ..
 have e2:((z.heap.push (ewalk x t)).push (ecount z.heap.objs.size)).get? (z.heap.objs.size+1)=some (ecount z.heap.objs.size):=by
  rw [← e1]; exact Heap.get?_push_size _ rfl
 show _/\Q (.ref (z.heap.push (ewalk x t)).objs.size) { z with heap:=(z.heap.push (ewalk x t)).push (ecount z.heap.objs.size) }
 rw [e1]
 have e3:((z.heap.push (ewalk x t)).push (ecount z.heap.objs.size)).get? (z.heap.push (ewalk x t)).objs.size=some (ecount z.heap.objs.size):=Heap.get?_push_size _ rfl
 exact ⟨⟨_,e3,rfl⟩,h _ e2 ⟨ewalk x t,Heap.get?_push_of_some _ (Heap.get?_push_size _ rfl),rfl,rfl⟩ λ b o y=>Heap.get?_push_of_some _ (Heap.get?_push_of_some _ y)⟩
end
section
variable {X:Cx}
def iEnum1 (te t2:TE):TI:=λ σ H R=>te σ H λ x H1=>t2 σ H1 λ y H2=>∃ l,x=vt l/\y=.int 1/\R (Iten1 (tx l)) H2
theorem callWith_type_kw {M:Model} {A:Around} {E:Value->Shared->Prop} {s:Shared} {pos:Pos} {T:String} {args:List (Bool × Sem Value)} {kws:List (Option Str × Sem Value)} {Q:Value->Shared->Prop}
 (hplain:(args.any (·.1) || kws.any (·.1.isNone))=false)
 (h:wpAny M A (evalArgs (.type T) true args kws) (λ a s₁=>wpAny M A (call (.type T) a.pos a.kw) Q E s₁) E s):
 wpAny M A (callWith pos (.type T) [] args kws) Q E s:=by
 unfold callWith
 refine wpAny_bind (wpAny_holding (wpAny_mono h (λ a s₁ h₁=>wpAny_bind (wpAny_standAt ?_)) λ _ _ x=>x))
 simp only [hplain]
 refine wpAny_bind (wpAny_pure ?_)
 exact wpAny_bind (wpAny_mono h₁ (λ r s₂ hr=>wpAny_bind (wpAny_holding (wpAny_point (wpAny_pure hr)))) λ _ _ x=>x)
theorem pi_enum1 {e v:Expr} {te t2:TE} {elts:List Expr} {k} {tpos p2 p4 pos:Pos} (hg:Gl X "enumerate") (hm:X.mg "enumerate" = none) (hv:bootBuiltins "enumerate" = some (.type "enumerate")) (he:PE X e te) (h2:PE X v t2)
 (hs2:starEach [e] X.env=[(false,eval e X.env)]:=by rfl):PI X (.Tuple elts k tpos) (.Call (.Name "enumerate" p2) [e] [⟨some "start",v,p4⟩] pos) (iEnum1 te t2):=by
 intro pins s σ H R I h
 refine wpAny_Call_Name_kw (ld_blt I hg hm hv ?_ (by decide) (by decide))
 refine callWith_type_kw (by rw [hs2]; rfl) ?_
 refine evalArgs_kw2 rfl ?_ hs2
 rw [hs2]
 show wpAny _ _ (spliced ((false,eval e X.env)::backTo pos [])) _ _ s
 refine Calls.spliced_cons (thn (he pins s σ H _ I h) λ u s1 ⟨y,H1,I1,r1,q1⟩=>?_)
 refine Calls.spliced_nil ?_
 refine kwAll_cons (thn (h2 pins s1 σ H1 _ I1 q1) λ u2 s2 ⟨y2,H2,I2,r2,l,el,e2,q2⟩=>kwAll_nil ?_)
 subst el e2
 obtain ⟨t,rfl⟩:=r1
 obtain ⟨t',rfl⟩:=r2
 show wpAny _ _ (call (.type "enumerate") [.str (tx l) t] [("start",.int 1 t')]) _ _ s2
 refine call_enumerate_str1 λ h' hen hit hk=>?_
 refine wpAny_pyIter_enum (s:={ s2 with heap:=h' }) hen ?_
 have I3:Inv X pins σ H2 { s2 with heap:=h' }:=I2.kept (t':=s2.toks) hk
 have hei:s2.heap.objs.size+1 ≠ s2.heap.objs.size:=Nat.succ_ne_self _
 have fp:∀ b ∈ [s2.heap.objs.size+1,s2.heap.objs.size],FpOk X pins H2 b:=λ b hb=>by
  have hle:s2.heap.objs.size<=b:=by
   rcases List.mem_cons.mp hb with q | q
   ·rw [q]; exact Nat.le_succ _
   ·rw [List.mem_singleton.mp q]; exact Nat.le_refl _
  exact I2.fpOk hle (I2.hok.fresh hle)
 have D:∀ A:Around,A.handled=none->Draws X.prog X.w A s2.heap.objs.size [s2.heap.objs.size] (tx l).cps.size (λ i v=>∃ c u,(tx l).cps[i]?=some c/\v=.str ⟨#[c]⟩ u) (λ i h=>h.IsStrIter s2.heap.objs.size (strIterType (tx l)) (tx l) t i):=λ A hA=>by
  unfold strIterType
  cases (tx l).cps.all (·<128)
  ·exact Draws.strWide hA _ _ _
  ·exact Draws.strAscii hA _ _ _
 exact ⟨s2.heap.objs.size+1,[s2.heap.objs.size+1,s2.heap.objs.size],_,_,H2,rfl,I3,turn_enum1 _ _ (tx l) t hei D,⟨⟨_,hen⟩,hit,Nat.zero_le _⟩,fp,q2⟩
theorem for_enum1 {l:List Nat} {K:PySem.W.Frag} {a b:Nat} {tb:TS} {D:Ends} {σ:St} {H:Hp} (Pv:Nat->St->Hp->Prop) (h0:Pv 0 σ H)
 (hs:∀ i c σ H p,l[i]?=some c->Pv i σ H->H p=none->tb { D with nx:=Pv (i+1),ct:=Pv (i+1),bk:=D.nx } ((σ.set a (some (.int ((i+1:Nat):Int)))).set b (some (vt [c]))) (upd H p (.tup [.int ((i+1:Nat):Int),vt [c]]))) (hd:∀ σ H,Pv l.length σ H->D.nx σ H):
 ∃ W:Nat->Nat->St->Hp->Prop,(∃ m,W 0 m σ H)/\∀ i m σ H,W i m σ H->
   ((Iten1 (tx l)).stop i H/\D.nx σ H)\/((Iten1 (tx l)).go i H/\∃ N:St->Hp->Prop,(∀ σ' H',N σ' H'->∃ m',m'<m/\W (i+1) m' σ' H')/\∀ x H',(Iten1 (tx l)).yld i H x H'->gTup K 2 (gCons (gName a) (gCons (gName b) gNil)) x σ H' λ σ2 H2=>tb { D with nx:=N,ct:=N,bk:=D.nx } σ2 H2):=by
 have hz:(tx l).length=l.length:=tx_len l
 refine ⟨λ i m σ H=>m=l.length-i/\i<=l.length/\Pv i σ H,⟨l.length,by simp,Nat.zero_le _,h0⟩,?_⟩
 rintro i m σ H ⟨rfl,hi,p⟩
 by_cases hlt:i<l.length
 ·refine .inr ⟨by show i<(tx l).length; omega,Pv (i+1),λ σ' H' p'=>⟨l.length-(i+1),by omega,rfl,hlt,p'⟩,?_⟩
  rintro x H' ⟨q,c,hq,rfl,hc,rfl⟩
  exact ⟨q,_,rfl,SqT.of upd_same,rfl,_,_,rfl,_,_,rfl,rfl,hs i c σ H q hc p hq⟩
 ·have e:i=l.length:=by omega
  subst e
  exact .inl ⟨by show (tx l).length<=l.length; omega,hd σ H p⟩
def rLjust:V->List V->Hp->VK->Prop:=λ x vs H Q=>∃ (l:List Nat) (n c:Nat),x=vt l/\vs=[.int (n:Int),vt [c]]/\n<=1000/\Q (vt (l++List.replicate (n-l.length) c)) H
theorem pad_ok {n:Nat} (h:n<=1000):PadOk (n:Int)=true:=by
 unfold PadOk fitsSsize
 have h1:Builtin.Str.tooLong ((n:Int).toNat)=false:=by
  unfold Builtin.Str.tooLong
  exact decide_eq_false (by rw [sizeLine_eq,Int.toNat_natCast]; omega)
 rw [h1]
 have h2:decide ((n:Int)< -(2^63:Int))=false:=decide_eq_false (by omega)
 have h3:decide ((n:Int)>=2^63)=false:=decide_eq_false (by omega)
 simp [h2,h3]
 omega
theorem tx_ljust (l:List Nat) (n c:Nat):Txt.ljustF (tx l) (n:Int) c=tx (l++List.replicate (n-l.length) c):=by
 unfold Txt.ljustF
 have hl:=tx_len l
 by_cases h:n<=l.length
 ·rw [if_pos (by rw [hl]; omega),Nat.sub_eq_zero_of_le h,List.replicate_zero,List.append_nil]
 ·rw [if_neg (by rw [hl]; omega),hl,Int.toNat_natCast]
  unfold Builtin.Str.padded tx
  congr 1
  simp
theorem mt_ljust:MtR X "str.ljust" rLjust:=by
 intro pins s σ H x vs v us Q I rx rs h
 obtain ⟨l,n,c,rfl,rfl,hn,q⟩:=h
 obtain ⟨t,rfl⟩:=rx
 cases rs with
 | cons r rr =>
   cases rr with
   | cons r' rr =>
     cases rr
     obtain ⟨t2,rfl⟩:=r
     obtain ⟨t3,rfl⟩:=r'
     refine ljust_fill (pad_ok hn) (tx_len [c]) λ t' k=>?_
     refine ⟨vt (l++List.replicate (n-l.length) c),H,I.tok _,⟨t',?_⟩,q⟩
     show Value.str (Txt.ljustF (tx l) (n:Int) c) t'=_
     rw [tx_ljust]
def rZfill:V->List V->Hp->VK->Prop:=λ x vs H Q=>∃ (l:List Nat) (n:Nat),x=vt l/\vs=[.int (n:Int)]/\n<=1000/\(∀ c ∈ l,48<=c/\c<=57)/\Q (vt (List.replicate (n-l.length) 48++l)) H
theorem tx_zfill (l:List Nat) (n:Nat) (hd:∀ c ∈ l,48<=c/\c<=57):Txt.zfill (tx l) (n:Int)=tx (List.replicate (n-l.length) 48++l):=by
 unfold Txt.zfill
 have hl:=tx_len l
 by_cases h:n<=l.length
 ·rw [if_pos (by rw [hl]; omega),Nat.sub_eq_zero_of_le h,List.replicate_zero,List.nil_append]
 ·rw [if_neg (by rw [hl]; omega),hl,Int.toNat_natCast]
  have hz:zfilled (tx l) (n-l.length)=Builtin.Str.padded (tx l) (n-l.length) 0 48:=by
   unfold zfilled
   cases l with
   | nil=>rfl
   | cons c l =>
     have:=hd c List.mem_cons_self
     have e:(tx (c::l)).cps[0]?=some c:=by simp [tx]
     rw [e]
     split
     ·rename_i z; cases z; omega
     ·rename_i z; cases z; omega
     ·rfl
  rw [hz]
  unfold Builtin.Str.padded tx
  congr 1
  simp
theorem mt_zfill:MtR X "str.zfill" rZfill:=by
 intro pins s σ H x vs v us Q I rx rs h
 obtain ⟨l,n,rfl,rfl,hn,hd,q⟩:=h
 obtain ⟨t,rfl⟩:=rx
 obtain ⟨u,rfl,ru⟩:=vals1 rs
 obtain ⟨t2,rfl⟩:=ru
 refine SC.zfill (pad_ok hn) λ t' k=>?_
 refine ⟨vt (List.replicate (n-l.length) 48++l),H,I.tok _,⟨t',?_⟩,q⟩
 show Value.str (Txt.zfill (tx l) (n:Int)) t'=_
 rw [tx_zfill l n hd]
def digV (l:List Nat):Nat:=l.foldl (λ acc c=>acc*10+(c-48)) 0
theorem call_intT:CallR X (.type "int") (λ xs H Q=>∃ l:List Nat,xs=[vt l]/\l ≠ []/\l.length<=640/\(∀ c ∈ l,48<=c/\c<=57)/\Q (.int ((digV l:Nat):Int)) H):=by
 intro pins s σ H xs us Q I r h
 obtain ⟨l,rfl,h1,h2,h3,q⟩:=h
 obtain ⟨u,rfl,t,rfl⟩:=vals1 r
 have e:=PySem.intText_digits (x:=tx l) h3 h1 (by rw [tx_len]; omega)
 exact PySem.W.KIN.call_text e (by rw [tx_len]; exact h2) ⟨.int _,H,I.tok _,⟨_,rfl⟩,q⟩
end
end L2
namespace L2
open PySem PySem.Spec PyProof.Rows
section
variable {X:Cx}
def CDivQ (i j:Int):Prop:=j ≠ 0/\(j.natAbs<2^8999\/i.natAbs<2^13499)
theorem noPylong_x {x y:Int} (h:x.natAbs.log2<13500):Builtin.divisionGoesByPylong x y=false:=by
 have key:(if x == 0 then 0 else x.natAbs.log2 / 30+1)<=450:=by
  by_cases hy:(x == 0)=true
  ·rw [if_pos hy]; exact Nat.zero_le _
  ·rw [if_neg hy]; omega
 show (decide ((if y == 0 then 0 else y.natAbs.log2 / 30+1)>300) && decide ((if x == 0 then 0 else x.natAbs.log2 / 30+1)>(if y == 0 then 0 else y.natAbs.log2 / 30+1)+150))=false
 generalize (if x == 0 then 0 else x.natAbs.log2 / 30+1)=dx at key ⊢
 generalize (if y == 0 then 0 else y.natAbs.log2 / 30+1)=dy
 by_cases h3:dy>300
 ·rw [decide_eq_false (show ¬ dx>dy+150 by omega),Bool.and_false]
 ·rw [decide_eq_false h3,Bool.false_and]
theorem op_fdivQ:OpR X (binaryOp .FloorDiv) (rI CDivQ λ i j=>.int (i.fdiv j)):=opI λ _ _ _ _ _ _ _ hc q=>floordiv_int hc.1 q (.inl (by
 rcases hc.2 with h | h
 ·exact PyProof.noPylong_of_log2 (Nat.lt_trans (log2_lt_of (by decide) h) (by decide))
 ·exact noPylong_x (Nat.lt_trans (log2_lt_of (by decide) h) (by decide))))
end
end L2
namespace Bp
def gcdI (a b:Int):Int:=(Nat.gcd a.natAbs b.natAbs:Nat)
theorem gcdI_zero (a:Int) (h:0<=a):gcdI a 0=a:=by
 unfold gcdI
 rw [Int.natAbs_zero,Nat.gcd_zero_right]
 omega
theorem gcdI_step {a b:Int} (ha:0<=a) (hb:0<b):gcdI b (a % b)=gcdI a b:=by
 unfold gcdI
 have e:(a % b).natAbs=a.natAbs % b.natAbs:=by
  obtain ⟨m,rfl⟩:=Int.eq_ofNat_of_zero_le ha
  obtain ⟨n,rfl⟩:=Int.eq_ofNat_of_zero_le (Int.le_of_lt hb)
  rfl
 rw [e,Nat.gcd_comm a.natAbs b.natAbs,Nat.gcd_rec b.natAbs a.natAbs,Nat.gcd_comm]
theorem gcdI_pos {a b:Int} (h:b ≠ 0):0<gcdI a b:=by
 unfold gcdI
 have:=Nat.gcd_pos_of_pos_right a.natAbs (show 0<b.natAbs by omega)
 omega
theorem gcdI_le {a b:Int} (h:b ≠ 0):(gcdI a b).natAbs<=b.natAbs:=by
 unfold gcdI
 have:=Nat.gcd_le_right a.natAbs (show 0<b.natAbs by omega)
 omega
theorem gcdI_dvd_left (a b:Int):gcdI a b ∣ a:=by
 unfold gcdI
 exact Int.ofNat_dvd_left.mpr (Nat.gcd_dvd_left _ _)
theorem gcdI_dvd_right (a b:Int):gcdI a b ∣ b:=by
 unfold gcdI
 exact Int.ofNat_dvd_left.mpr (Nat.gcd_dvd_right _ _)
theorem gcdI_abs (a b:Int):gcdI (if a<0 then -a else a) (if b<0 then -b else b)=gcdI a b:=by
 unfold gcdI
 have e1:(if a<0 then -a else a).natAbs=a.natAbs:=by split<;>omega
 have e2:(if b<0 then -b else b).natAbs=b.natAbs:=by split<;>omega
 rw [e1,e2]
def sgn (b:Int):Int:=if b<0 then -1 else 1
def num (t b:Int):Int:=t.fdiv (sgn b*gcdI t b)
def den (t b:Int):Int:=b.fdiv (sgn b*gcdI t b)
theorem fdiv_exact {a d q:Int} (h:d ≠ 0) (e:a=d*q):a.fdiv d=q:=by
 rw [e]; exact Int.mul_fdiv_cancel_left q h
theorem num_den {t b:Int} (h:b ≠ 0):∃ n d g,num t b=n/\den t b=d/\t=g*n/\b=g*d/\0<d/\Nat.gcd n.natAbs d.natAbs=1/\g.natAbs=(gcdI t b).natAbs:=by
 have gp:=gcdI_pos (a:=t) h
 obtain ⟨n,hn⟩:=gcdI_dvd_left t b
 obtain ⟨d,hd⟩:=gcdI_dvd_right t b
 have gg:((Nat.gcd t.natAbs b.natAbs:Nat):Int)=gcdI t b:=rfl
 have cop:∀ n d:Int,t.natAbs=(gcdI t b).natAbs*n.natAbs->b.natAbs=(gcdI t b).natAbs*d.natAbs->Nat.gcd n.natAbs d.natAbs=1:=by
  intro n d e1 e2
  have k:Nat.gcd t.natAbs b.natAbs=(gcdI t b).natAbs:=by omega
  have z:Nat.gcd ((gcdI t b).natAbs*n.natAbs) ((gcdI t b).natAbs*d.natAbs)=(gcdI t b).natAbs:=by rw [← e1,← e2]; exact k
  rw [Nat.gcd_mul_left] at z
  have gp':0<(gcdI t b).natAbs:=by omega
  exact Nat.eq_of_mul_eq_mul_left gp' (by omega)
 by_cases hb:b<0
 ·refine ⟨-n,-d,-gcdI t b,?_,?_,?_,?_,?_,?_,?_⟩
  ·unfold num sgn; rw [if_pos hb]; exact fdiv_exact (by omega) (by rw [Int.neg_one_mul,Int.neg_mul_neg]; exact hn)
  ·unfold den sgn; rw [if_pos hb]; exact fdiv_exact (by omega) (by rw [Int.neg_one_mul,Int.neg_mul_neg]; exact hd)
  ·rw [Int.neg_mul_neg]; exact hn
  ·rw [Int.neg_mul_neg]; exact hd
  ·rcases (by omega:d<0\/d=0\/0<d) with z | z | z
   ·omega
   ·rw [z] at hd; omega
   ·have:=Int.mul_pos gp z; omega
  ·have:=cop n d (by rw [← Int.natAbs_mul,← hn]) (by rw [← Int.natAbs_mul,← hd])
   simpa using this
  ·omega
 ·refine ⟨n,d,gcdI t b,?_,?_,hn,hd,?_,?_,rfl⟩
  ·unfold num sgn; rw [if_neg hb]; exact fdiv_exact (by omega) (by rw [Int.one_mul]; exact hn)
  ·unfold den sgn; rw [if_neg hb]; exact fdiv_exact (by omega) (by rw [Int.one_mul]; exact hd)
  ·rcases (by omega:d<0\/d=0\/0<d) with z | z | z
   ·have:=Int.mul_neg_of_pos_of_neg gp z; omega
   ·rw [z] at hd; omega
   ·exact z
  ·exact cop n d (by rw [← Int.natAbs_mul,← hn]) (by rw [← Int.natAbs_mul,← hd])
theorem den_pos {t b:Int} (h:b ≠ 0):0<den t b:=by
 obtain ⟨n,d,g,e1,e2,_,_,p,_⟩:=num_den (t:=t) h
 omega
theorem num_cross {t b:Int} (h:b ≠ 0):num t b*b=t*den t b:=by
 obtain ⟨n,d,g,e1,e2,e3,e4,p,_⟩:=num_den (t:=t) h
 rw [e1,e2]
 conv=>lhs; rw [e4]
 conv=>rhs; rw [e3]
 rw [← Int.mul_assoc,Int.mul_comm n g]
theorem num_gcd {t b:Int} (h:b ≠ 0):gcdI (num t b) (den t b)=1:=by
 obtain ⟨n,d,g,e1,e2,e3,e4,p,c,_⟩:=num_den (t:=t) h
 unfold gcdI
 rw [e1,e2,c]; rfl
theorem natAbs_le_mul {a g n:Int} (hg:g ≠ 0) (e:a=g*n):n.natAbs<=a.natAbs:=by
 rw [e,Int.natAbs_mul]
 exact Nat.le_mul_of_pos_left _ (by omega)
theorem num_le {t b:Int} (h:b ≠ 0):(num t b).natAbs<=t.natAbs:=by
 obtain ⟨n,d,g,e1,e2,e3,e4,p,c,e5⟩:=num_den (t:=t) h
 have gp:=gcdI_pos (a:=t) h
 rw [e1]; exact natAbs_le_mul (by omega) e3
theorem den_le {t b:Int} (h:b ≠ 0):(den t b).natAbs<=b.natAbs:=by
 obtain ⟨n,d,g,e1,e2,e3,e4,p,c,e5⟩:=num_den (t:=t) h
 have gp:=gcdI_pos (a:=t) h
 rw [e2]; exact natAbs_le_mul (by omega) e4
end Bp
namespace Bp
open PySem PySem.Spec PyProof.Rows L2
def top (i:Nat):Stmt:=PySem.Challenge.pw_boughpress_k72_packets_spoilt.main.body.getD i (.Pass ⟨0,0,0,0⟩)
abbrev s_Qbc:Stmt:=top 18
abbrev s_Qm:Stmt:=top 19
abbrev s_Qbj:Stmt:=top 20
abbrev s_Qbk:Stmt:=top 21
abbrev s_Qn:Stmt:=top 22
abbrev s_Qbd:Stmt:=top 23
abbrev s_Qt:Stmt:=top 24
abbrev s_Qbl:Stmt:=top 25
abbrev s_Qb:Stmt:=top 29
abbrev s_Qbe:Stmt:=top 30
abbrev s_plus:Stmt:=top 31
abbrev s_Qby:Stmt:=top 32
abbrev s_half:Stmt:=top 33
abbrev s_over:Stmt:=top 34
abbrev s_Qbm:Stmt:=top 35
abbrev s_Qbz:Stmt:=top 36
abbrev s_Qbn:Stmt:=top 38
abbrev s_Qe:Stmt:=top 39
abbrev s_Qi:Stmt:=top 40
abbrev s_Qbo:Stmt:=top 41
abbrev s_Qo:Stmt:=top 42
abbrev s_Qbp:Stmt:=top 43
abbrev s_Qv:Stmt:=top 45
abbrev s_Qw:Stmt:=top 47
abbrev s_Qca:Stmt:=top 49
abbrev s_Qbw:Stmt:=top 54
abbrev s_Qcb:Stmt:=top 56
abbrev s_Qj:Stmt:=top 58
abbrev s_span:Stmt:=top 59
abbrev s_Qx:Stmt:=top 60
abbrev s_Qbq:Stmt:=top 61
abbrev s_Qcc:Stmt:=top 64
abbrev s_Qbr:Stmt:=top 72
abbrev s_Qbf:Stmt:=top 73
abbrev s_wrap:Stmt:=top 74
abbrev s_Qy:Stmt:=top 75
abbrev s_Qf:Stmt:=top 76
abbrev s_Qd:Stmt:=top 77
abbrev s_Qp:Stmt:=top 78
abbrev s_Qk:Stmt:=top 79
abbrev s_Qbx:Stmt:=top 80
abbrev s_Qz:Stmt:=top 82
abbrev s_Qbs:Stmt:=top 83
abbrev s_Qbt:Stmt:=top 84
abbrev s_Qbu:Stmt:=top 85
abbrev s_Qba:Stmt:=top 86
abbrev s_Qu:Stmt:=top 87
abbrev s_Qbg:Stmt:=top 88
abbrev s_Qbv:Stmt:=top 89
abbrev s_Qq:Stmt:=top 90
abbrev s_Qbh:Stmt:=top 91
abbrev s_Qbi:Stmt:=top 92
abbrev s_Qbb:Stmt:=top 93
abbrev s_law:Stmt:=top 94
abbrev s_Qr:Stmt:=inClass (top 55) 0
abbrev s_Ql:Stmt:=inClass (top 55) 1
abbrev s_Qc:Stmt:=inClass (top 55) 2
abbrev s_Qg:Stmt:=inClass (top 55) 3
abbrev s_Qh:Stmt:=inClass (top 55) 4
abbrev s_Qa:Stmt:=inClass (top 55) 5
abbrev s_Qs:Stmt:=inClass (top 55) 6
theorem sc_Qbc:FnScope ["thing"] ["thing"] (defScope s_Qbc):=⟨rfl,rfl,rfl,by decide +kernel,rfl,by decide +kernel,by decide +kernel⟩
theorem sc_Qm:FnScope ["text"] ["text"] (defScope s_Qm):=⟨rfl,rfl,rfl,by decide +kernel,rfl,by decide +kernel,by decide +kernel⟩
theorem sc_Qbj:FnScope ["thing"] ["thing"] (defScope s_Qbj):=⟨rfl,rfl,rfl,by decide +kernel,rfl,by decide +kernel,by decide +kernel⟩
theorem sc_Qbk:FnScope ["thing"] ["thing"] (defScope s_Qbk):=⟨rfl,rfl,rfl,by decide +kernel,rfl,by decide +kernel,by decide +kernel⟩
theorem sc_Qn:FnScope ["thing"] ["thing"] (defScope s_Qn):=⟨rfl,rfl,rfl,by decide +kernel,rfl,by decide +kernel,by decide +kernel⟩
theorem sc_Qbd:FnScope ["thing"] ["thing"] (defScope s_Qbd):=⟨rfl,rfl,rfl,by decide +kernel,rfl,by decide +kernel,by decide +kernel⟩
theorem sc_Qt:FnScope ["letters", "depth"] ["letters", "depth"] (defScope s_Qt):=⟨rfl,rfl,rfl,by decide +kernel,rfl,by decide +kernel,by decide +kernel⟩
theorem sc_Qbl:FnScope ["frame", "text", "letters", "sign"] ["frame", "text"] (defScope s_Qbl):=⟨rfl,rfl,rfl,by decide +kernel,rfl,by decide +kernel,by decide +kernel⟩
theorem sc_Qb:FnScope ["one", "other", "rest"] ["one", "other"] (defScope s_Qb):=⟨rfl,rfl,rfl,by decide +kernel,rfl,by decide +kernel,by decide +kernel⟩
theorem sc_Qbe:FnScope ["top", "bottom", "divisor"] ["top", "bottom"] (defScope s_Qbe):=⟨rfl,rfl,rfl,by decide +kernel,rfl,by decide +kernel,by decide +kernel⟩
theorem sc_plus:FnScope ["one", "other"] ["one", "other"] (defScope s_plus):=⟨rfl,rfl,rfl,by decide +kernel,rfl,by decide +kernel,by decide +kernel⟩
theorem sc_Qby:FnScope ["one", "other"] ["one", "other"] (defScope s_Qby):=⟨rfl,rfl,rfl,by decide +kernel,rfl,by decide +kernel,by decide +kernel⟩
theorem sc_half:FnScope ["one"] ["one"] (defScope s_half):=⟨rfl,rfl,rfl,by decide +kernel,rfl,by decide +kernel,by decide +kernel⟩
theorem sc_over:FnScope ["one", "other"] ["one", "other"] (defScope s_over):=⟨rfl,rfl,rfl,by decide +kernel,rfl,by decide +kernel,by decide +kernel⟩
theorem sc_Qbm:FnScope ["many", "told", "one"] ["many"] (defScope s_Qbm):=⟨rfl,rfl,rfl,by decide +kernel,rfl,by decide +kernel,by decide +kernel⟩
theorem sc_Qbz:FnScope ["one", "other"] ["one", "other"] (defScope s_Qbz):=⟨rfl,rfl,rfl,by decide +kernel,rfl,by decide +kernel,by decide +kernel⟩
theorem sc_Qbn:FnScope ["thing"] ["thing"] (defScope s_Qbn):=⟨rfl,rfl,rfl,by decide +kernel,rfl,by decide +kernel,by decide +kernel⟩
theorem sc_Qe:FnScope ["bits", "told", "sign"] ["bits"] (defScope s_Qe):=⟨rfl,rfl,rfl,by decide +kernel,rfl,by decide +kernel,by decide +kernel⟩
theorem sc_Qi:FnScope ["number", "many", "signs", "turn"] ["number", "many"] (defScope s_Qi):=⟨rfl,rfl,rfl,by decide +kernel,rfl,by decide +kernel,by decide +kernel⟩
theorem sc_Qbo:FnScope ["bits", "parts", "sign"] ["bits"] (defScope s_Qbo):=⟨rfl,rfl,rfl,by decide +kernel,rfl,by decide +kernel,by decide +kernel⟩
theorem sc_Qo:FnScope ["low", "parts"] ["low", "parts"] (defScope s_Qo):=⟨rfl,rfl,rfl,by decide +kernel,rfl,by decide +kernel,by decide +kernel⟩
theorem sc_Qbp:FnScope ["low", "width", "end", "many", "parts"] ["low", "width"] (defScope s_Qbp):=⟨rfl,rfl,rfl,by decide +kernel,rfl,by decide +kernel,by decide +kernel⟩
theorem sc_Qv:FnScope ["frame", "text", "at", "first_letter", "depth", "near"] ["frame", "text", "at"] (defScope s_Qv):=⟨rfl,rfl,rfl,by decide +kernel,rfl,by decide +kernel,by decide +kernel⟩
theorem sc_Qw:FnScope ["frame"] ["frame"] (defScope s_Qw):=⟨rfl,rfl,rfl,by decide +kernel,rfl,by decide +kernel,by decide +kernel⟩
theorem sc_Qca:FnScope ["counts", "place"] ["counts", "place"] (defScope s_Qca):=⟨rfl,rfl,rfl,by decide +kernel,rfl,by decide +kernel,by decide +kernel⟩
theorem sc_Qbw:FnScope ["counts", "place", "told"] ["counts", "place"] (defScope s_Qbw):=⟨rfl,rfl,rfl,by decide +kernel,rfl,by decide +kernel,by decide +kernel⟩
theorem sc_Qcb:FnScope ["frame", "text", "growth", "sign"] ["frame", "text"] (defScope s_Qcb):=⟨rfl,rfl,rfl,by decide +kernel,rfl,by decide +kernel,by decide +kernel⟩
theorem sc_Qj:FnScope ["growth", "sign", "letters", "told", "letter"] ["growth", "sign"] (defScope s_Qj):=⟨rfl,rfl,rfl,by decide +kernel,rfl,by decide +kernel,by decide +kernel⟩
theorem sc_span:FnScope ["frame", "text", "ahead", "growth", "whole", "low", "sign"] ["frame", "text", "ahead"] (defScope s_span):=⟨rfl,rfl,rfl,by decide +kernel,rfl,by decide +kernel,by decide +kernel⟩
theorem sc_Qx:FnScope ["growth", "low", "point", "letters", "letter", "high"] ["growth", "low", "point"] (defScope s_Qx):=⟨rfl,rfl,rfl,by decide +kernel,rfl,by decide +kernel,by decide +kernel⟩
theorem sc_Qbq:FnScope ["frame", "many", "point", "ahead", "growth", "low", "turn", "found"] ["frame", "many", "point", "ahead"] (defScope s_Qbq):=⟨rfl,rfl,rfl,by decide +kernel,rfl,by decide +kernel,by decide +kernel⟩
theorem sc_Qcc:FnScope ["frame", "text", "ahead", "told"] ["frame", "text", "ahead"] (defScope s_Qcc):=⟨rfl,rfl,rfl,by decide +kernel,rfl,by decide +kernel,by decide +kernel⟩
theorem sc_Qbr:FnScope ["bits", "told", "at", "group"] ["bits"] (defScope s_Qbr):=⟨rfl,rfl,rfl,by decide +kernel,rfl,by decide +kernel,by decide +kernel⟩
theorem sc_Qbf:FnScope ["body", "total", "place", "sign", "rest"] ["body"] (defScope s_Qbf):=⟨rfl,rfl,rfl,by decide +kernel,rfl,by decide +kernel,by decide +kernel⟩
theorem sc_wrap:FnScope ["frame", "text", "letters", "bits", "body"] ["frame", "text"] (defScope s_wrap):=⟨rfl,rfl,rfl,by decide +kernel,rfl,by decide +kernel,by decide +kernel⟩
theorem sc_Qy:FnScope ["text", "many"] ["text", "many"] (defScope s_Qy):=⟨rfl,rfl,rfl,by decide +kernel,rfl,by decide +kernel,by decide +kernel⟩
theorem sc_Qf:FnScope ["depth", "letters"] ["depth", "letters"] (defScope s_Qf):=⟨rfl,rfl,rfl,by decide +kernel,rfl,by decide +kernel,by decide +kernel⟩
theorem sc_Qd:FnScope ["text", "many"] ["text"] (defScope s_Qd):=⟨rfl,rfl,rfl,by decide +kernel,rfl,by decide +kernel,by decide +kernel⟩
theorem sc_Qp:FnScope ["groups"] ["groups"] (defScope s_Qp):=⟨rfl,rfl,rfl,by decide +kernel,rfl,by decide +kernel,by decide +kernel⟩
theorem sc_Qk:FnScope ["packet", "body"] ["packet"] (defScope s_Qk):=⟨rfl,rfl,rfl,by decide +kernel,rfl,by decide +kernel,by decide +kernel⟩
theorem sc_Qbx:FnScope ["packet", "body", "depth", "length_at", "frame", "groups_at", "many", "text"] ["packet"] (defScope s_Qbx):=⟨rfl,rfl,rfl,by decide +kernel,rfl,by decide +kernel,by decide +kernel⟩
theorem sc_Qz:FnScope ["script", "k"] ["script", "k"] (defScope s_Qz):=⟨rfl,rfl,rfl,by decide +kernel,rfl,by decide +kernel,by decide +kernel⟩
theorem sc_Qbs:FnScope ["some"] [] (defScope s_Qbs):=⟨rfl,rfl,rfl,by decide +kernel,rfl,by decide +kernel,by decide +kernel⟩
theorem sc_Qbt:FnScope ["cell", "some", "number", "letters", "k", "at"] ["cell"] (defScope s_Qbt):=⟨rfl,rfl,rfl,by decide +kernel,rfl,by decide +kernel,by decide +kernel⟩
theorem sc_Qbu:FnScope ["text", "total", "k"] ["text"] (defScope s_Qbu):=⟨rfl,rfl,rfl,by decide +kernel,rfl,by decide +kernel,by decide +kernel⟩
theorem sc_Qba:FnScope ["packet", "kinds", "e"] ["packet"] (defScope s_Qba):=⟨rfl,rfl,rfl,by decide +kernel,rfl,by decide +kernel,by decide +kernel⟩
theorem sc_Qu:FnScope ["frame"] ["frame"] (defScope s_Qu):=⟨rfl,rfl,rfl,by decide +kernel,rfl,by decide +kernel,by decide +kernel⟩
theorem sc_Qbg:FnScope ["packet", "told", "letters"] ["packet"] (defScope s_Qbg):=⟨rfl,rfl,rfl,by decide +kernel,rfl,by decide +kernel,by decide +kernel⟩
theorem sc_Qbv:FnScope ["frame", "cell", "letters", "depth", "lacked", "at", "other", "many", "heads", "told", "body"] ["frame", "cell"] (defScope s_Qbv):=⟨rfl,rfl,rfl,by decide +kernel,rfl,by decide +kernel,by decide +kernel⟩
theorem sc_Qq:FnScope ["text", "cell", "menu", "at", "sign"] ["text", "cell"] (defScope s_Qq):=⟨rfl,rfl,rfl,by decide +kernel,rfl,by decide +kernel,by decide +kernel⟩
theorem sc_Qbh:FnScope ["text", "cell", "at"] ["text", "cell"] (defScope s_Qbh):=⟨rfl,rfl,rfl,by decide +kernel,rfl,by decide +kernel,by decide +kernel⟩
theorem sc_Qbi:FnScope ["packet", "cell", "at", "bad", "cut"] ["packet", "cell"] (defScope s_Qbi):=⟨rfl,rfl,rfl,by decide +kernel,rfl,by decide +kernel,by decide +kernel⟩
theorem sc_Qbb:FnScope ["packet", "cell", "body", "at", "bad"] ["packet", "cell"] (defScope s_Qbb):=⟨rfl,rfl,rfl,by decide +kernel,rfl,by decide +kernel,by decide +kernel⟩
theorem sc_law:FnScope ["script", "frame", "most", "text", "packet", "cell", "body", "head", "more"] ["script"] (defScope s_law):=⟨rfl,rfl,rfl,by decide +kernel,rfl,by decide +kernel,by decide +kernel⟩
theorem sc_Qr:FnScope ["self", "frame"] ["self", "frame"] (defScope s_Qr):=⟨rfl,rfl,rfl,by decide +kernel,rfl,by decide +kernel,by decide +kernel⟩
theorem sc_Ql:FnScope ["self", "knot"] ["self", "knot"] (defScope s_Ql):=⟨rfl,rfl,rfl,by decide +kernel,rfl,by decide +kernel,by decide +kernel⟩
theorem sc_Qc:FnScope ["self", "knot", "changed", "weights", "letter"] ["self", "knot", "changed"] (defScope s_Qc):=⟨rfl,rfl,rfl,by decide +kernel,rfl,by decide +kernel,by decide +kernel⟩
theorem sc_Qg:FnScope ["self", "sign", "place", "path", "told", "size", "knot", "entry", "worth", "weight"] ["self", "sign"] (defScope s_Qg):=⟨rfl,rfl,rfl,by decide +kernel,rfl,by decide +kernel,by decide +kernel⟩
theorem sc_Qh:FnScope ["self"] ["self"] (defScope s_Qh):=⟨rfl,rfl,rfl,by decide +kernel,rfl,by decide +kernel,by decide +kernel⟩
theorem sc_Qa:FnScope ["self", "sign"] ["self", "sign"] (defScope s_Qa):=⟨rfl,rfl,rfl,by decide +kernel,rfl,by decide +kernel,by decide +kernel⟩
theorem sc_Qs:FnScope ["self", "sign", "changed", "knot", "entry"] ["self", "sign"] (defScope s_Qs):=⟨rfl,rfl,rfl,by decide +kernel,rfl,by decide +kernel,by decide +kernel⟩
theorem bt_ValueError:bootBuiltins "ValueError" = some (.type "ValueError"):=by decide +kernel
theorem bt_abs:bootBuiltins "abs" = some (.builtin "abs"):=by decide +kernel
theorem bt_all:bootBuiltins "all" = some (.builtin "all"):=by decide +kernel
theorem bt_bool:bootBuiltins "bool" = some (.type "bool"):=by decide +kernel
theorem bt_enumerate:bootBuiltins "enumerate" = some (.type "enumerate"):=by decide +kernel
theorem bt_int:bootBuiltins "int" = some (.type "int"):=by decide +kernel
theorem bt_isinstance:bootBuiltins "isinstance" = some (.builtin "isinstance"):=by decide +kernel
theorem bt_len:bootBuiltins "len" = some (.builtin "len"):=by decide +kernel
theorem bt_list:bootBuiltins "list" = some (.type "list"):=by decide +kernel
theorem bt_max:bootBuiltins "max" = some (.builtin "max"):=by decide +kernel
theorem bt_ord:bootBuiltins "ord" = some (.builtin "ord"):=by decide +kernel
theorem bt_reversed:bootBuiltins "reversed" = some (.type "reversed"):=by decide +kernel
theorem bt_set:bootBuiltins "set" = some (.type "set"):=by decide +kernel
theorem bt_str:bootBuiltins "str" = some (.type "str"):=by decide +kernel
theorem bt_sum:bootBuiltins "sum" = some (.builtin "sum"):=by decide +kernel
theorem bt_tuple:bootBuiltins "tuple" = some (.type "tuple"):=by decide +kernel
set_option genInjectivity false in
set_option genSizeOf false in
structure Adr where
 a_Qbc:Addr
 fd_Qbc:FuncData
 a_Qm:Addr
 fd_Qm:FuncData
 a_Qbj:Addr
 fd_Qbj:FuncData
 a_Qbk:Addr
 fd_Qbk:FuncData
 a_Qn:Addr
 fd_Qn:FuncData
 a_Qbd:Addr
 fd_Qbd:FuncData
 a_Qt:Addr
 fd_Qt:FuncData
 a_Qbl:Addr
 fd_Qbl:FuncData
 a_Qb:Addr
 fd_Qb:FuncData
 a_Qbe:Addr
 fd_Qbe:FuncData
 a_plus:Addr
 fd_plus:FuncData
 a_Qby:Addr
 fd_Qby:FuncData
 a_half:Addr
 fd_half:FuncData
 a_over:Addr
 fd_over:FuncData
 a_Qbm:Addr
 fd_Qbm:FuncData
 a_Qbz:Addr
 fd_Qbz:FuncData
 a_Qbn:Addr
 fd_Qbn:FuncData
 a_Qe:Addr
 fd_Qe:FuncData
 a_Qi:Addr
 fd_Qi:FuncData
 a_Qbo:Addr
 fd_Qbo:FuncData
 a_Qo:Addr
 fd_Qo:FuncData
 a_Qbp:Addr
 fd_Qbp:FuncData
 a_Qv:Addr
 fd_Qv:FuncData
 a_Qw:Addr
 fd_Qw:FuncData
 a_Qca:Addr
 fd_Qca:FuncData
 a_Qbw:Addr
 fd_Qbw:FuncData
 a_Qcb:Addr
 fd_Qcb:FuncData
 a_Qj:Addr
 fd_Qj:FuncData
 a_span:Addr
 fd_span:FuncData
 a_Qx:Addr
 fd_Qx:FuncData
 a_Qbq:Addr
 fd_Qbq:FuncData
 a_Qcc:Addr
 fd_Qcc:FuncData
 a_Qbr:Addr
 fd_Qbr:FuncData
 a_Qbf:Addr
 fd_Qbf:FuncData
 a_wrap:Addr
 fd_wrap:FuncData
 a_Qy:Addr
 fd_Qy:FuncData
 a_Qf:Addr
 fd_Qf:FuncData
 a_Qd:Addr
 fd_Qd:FuncData
 a_Qp:Addr
 fd_Qp:FuncData
 a_Qk:Addr
 fd_Qk:FuncData
 a_Qbx:Addr
 fd_Qbx:FuncData
 a_Qz:Addr
 fd_Qz:FuncData
 a_Qbs:Addr
 fd_Qbs:FuncData
 a_Qbt:Addr
 fd_Qbt:FuncData
 a_Qbu:Addr
 fd_Qbu:FuncData
 a_Qba:Addr
 fd_Qba:FuncData
 a_Qu:Addr
 fd_Qu:FuncData
 a_Qbg:Addr
 fd_Qbg:FuncData
 a_Qbv:Addr
 fd_Qbv:FuncData
 a_Qq:Addr
 fd_Qq:FuncData
 a_Qbh:Addr
 fd_Qbh:FuncData
 a_Qbi:Addr
 fd_Qbi:FuncData
 a_Qbb:Addr
 fd_Qbb:FuncData
 a_law:Addr
 fd_law:FuncData
 dt_span:Addr
 kt_span:Tok
 dt_text_at:Addr
 kt_text_at:Tok
 dt_press:Addr
 kt_press:Tok
 a_Qr:Addr
 fd_Qr:FuncData
 a_Ql:Addr
 fd_Ql:FuncData
 a_Qc:Addr
 fd_Qc:FuncData
 a_Qg:Addr
 fd_Qg:FuncData
 a_Qh:Addr
 fd_Qh:FuncData
 a_Qa:Addr
 fd_Qa:FuncData
 a_Qs:Addr
 fd_Qs:FuncData
 c_PressError:Addr
 c_NoFraction:Addr
 c_NoFrame:Addr
 c_NoText:Addr
 c_NoSign:Addr
 c_NoBits:Addr
 c_NoPress:Addr
 c_NoPacket:Addr
 c_NoRow:Addr
 c_NoNumber:Addr
 c_Growth:Addr
 q_NOUGHT:Addr
 q_ONE:Addr
 k_PER_CENT:Tok
 k_FEWEST_LETTERS:Tok
 k_MOST_LETTERS:Tok
 k_GREATEST_DEPTH:Tok
 k_FIGURES:Tok
 k_COUNTS:Tok
 k_WORTH:Tok
 k_WEIGHT:Tok
 k_MOST_SIGNS:Tok
 k_GROUP_SIGNS:Tok
 k_GROUP_SIZE:Tok
 k_CHECK_SIGNS:Tok
 k_CHECK_SIZE:Tok
 k_CHECK_DIVISOR:Tok
 k_LENGTH_SIZE:Tok
structure Txt (K:PySem.W.Frag) (mg:Str->Option Value) (t:Adr):Prop where
 F_Qbc:Fun K "is_whole" "is_whole" s_Qbc t.a_Qbc t.fd_Qbc
 b_Qbc:Binds K t.fd_Qbc ["thing"] []
 m_Qbc:mg "is_whole" = some (.ref t.a_Qbc)
 F_Qm:Fun K "are_figures" "are_figures" s_Qm t.a_Qm t.fd_Qm
 b_Qm:Binds K t.fd_Qm ["text"] []
 m_Qm:mg "are_figures" = some (.ref t.a_Qm)
 F_Qbj:Fun K "is_sign" "is_sign" s_Qbj t.a_Qbj t.fd_Qbj
 b_Qbj:Binds K t.fd_Qbj ["thing"] []
 m_Qbj:mg "is_sign" = some (.ref t.a_Qbj)
 F_Qbk:Fun K "is_text" "is_text" s_Qbk t.a_Qbk t.fd_Qbk
 b_Qbk:Binds K t.fd_Qbk ["thing"] []
 m_Qbk:mg "is_text" = some (.ref t.a_Qbk)
 F_Qn:Fun K "are_letters" "are_letters" s_Qn t.a_Qn t.fd_Qn
 b_Qn:Binds K t.fd_Qn ["thing"] []
 m_Qn:mg "are_letters" = some (.ref t.a_Qn)
 F_Qbd:Fun K "is_depth" "is_depth" s_Qbd t.a_Qbd t.fd_Qbd
 b_Qbd:Binds K t.fd_Qbd ["thing"] []
 m_Qbd:mg "is_depth" = some (.ref t.a_Qbd)
 F_Qt:Fun K "make_frame" "make_frame" s_Qt t.a_Qt t.fd_Qt
 b_Qt:Binds K t.fd_Qt ["letters", "depth"] []
 m_Qt:mg "make_frame" = some (.ref t.a_Qt)
 F_Qbl:Fun K "checked" "checked" s_Qbl t.a_Qbl t.fd_Qbl
 b_Qbl:Binds K t.fd_Qbl ["frame", "text"] []
 m_Qbl:mg "checked" = some (.ref t.a_Qbl)
 F_Qb:Fun K "greatest_divisor" "greatest_divisor" s_Qb t.a_Qb t.fd_Qb
 b_Qb:Binds K t.fd_Qb ["one", "other"] []
 m_Qb:mg "greatest_divisor" = some (.ref t.a_Qb)
 F_Qbe:Fun K "fraction" "fraction" s_Qbe t.a_Qbe t.fd_Qbe
 b_Qbe:Binds K t.fd_Qbe ["top", "bottom"] []
 m_Qbe:mg "fraction" = some (.ref t.a_Qbe)
 F_plus:Fun K "plus" "plus" s_plus t.a_plus t.fd_plus
 b_plus:Binds K t.fd_plus ["one", "other"] []
 m_plus:mg "plus" = some (.ref t.a_plus)
 F_Qby:Fun K "times" "times" s_Qby t.a_Qby t.fd_Qby
 b_Qby:Binds K t.fd_Qby ["one", "other"] []
 m_Qby:mg "times" = some (.ref t.a_Qby)
 F_half:Fun K "half" "half" s_half t.a_half t.fd_half
 b_half:Binds K t.fd_half ["one"] []
 m_half:mg "half" = some (.ref t.a_half)
 F_over:Fun K "over" "over" s_over t.a_over t.fd_over
 b_over:Binds K t.fd_over ["one", "other"] []
 m_over:mg "over" = some (.ref t.a_over)
 F_Qbm:Fun K "product" "product" s_Qbm t.a_Qbm t.fd_Qbm
 b_Qbm:Binds K t.fd_Qbm ["many"] []
 m_Qbm:mg "product" = some (.ref t.a_Qbm)
 F_Qbz:Fun K "under" "under" s_Qbz t.a_Qbz t.fd_Qbz
 b_Qbz:Binds K t.fd_Qbz ["one", "other"] []
 m_Qbz:mg "under" = some (.ref t.a_Qbz)
 F_Qbn:Fun K "is_bits" "is_bits" s_Qbn t.a_Qbn t.fd_Qbn
 b_Qbn:Binds K t.fd_Qbn ["thing"] []
 m_Qbn:mg "is_bits" = some (.ref t.a_Qbn)
 F_Qe:Fun K "number_in_twos" "number_in_twos" s_Qe t.a_Qe t.fd_Qe
 b_Qe:Binds K t.fd_Qe ["bits"] []
 m_Qe:mg "number_in_twos" = some (.ref t.a_Qe)
 F_Qi:Fun K "bits_in_twos" "bits_in_twos" s_Qi t.a_Qi t.fd_Qi
 b_Qi:Binds K t.fd_Qi ["number", "many"] []
 m_Qi:mg "bits_in_twos" = some (.ref t.a_Qi)
 F_Qbo:Fun K "stretch" "stretch" s_Qbo t.a_Qbo t.fd_Qbo
 b_Qbo:Binds K t.fd_Qbo ["bits"] []
 m_Qbo:mg "stretch" = some (.ref t.a_Qbo)
 F_Qo:Fun K "first_place" "first_place" s_Qo t.a_Qo t.fd_Qo
 b_Qo:Binds K t.fd_Qo ["low", "parts"] []
 m_Qo:mg "first_place" = some (.ref t.a_Qo)
 F_Qbp:Fun K "bits_of" "bits_of" s_Qbp t.a_Qbp t.fd_Qbp
 b_Qbp:Binds K t.fd_Qbp ["low", "width"] []
 m_Qbp:mg "bits_of" = some (.ref t.a_Qbp)
 F_Qv:Fun K "elders_at" "elders_at" s_Qv t.a_Qv t.fd_Qv
 b_Qv:Binds K t.fd_Qv ["frame", "text", "at"] []
 m_Qv:mg "elders_at" = some (.ref t.a_Qv)
 F_Qw:Fun K "no_counts" "no_counts" s_Qw t.a_Qw t.fd_Qw
 b_Qw:Binds K t.fd_Qw ["frame"] []
 m_Qw:mg "no_counts" = some (.ref t.a_Qw)
 F_Qca:Fun K "share" "share" s_Qca t.a_Qca t.fd_Qca
 b_Qca:Binds K t.fd_Qca ["counts", "place"] []
 m_Qca:mg "share" = some (.ref t.a_Qca)
 F_Qbw:Fun K "raised" "raised" s_Qbw t.a_Qbw t.fd_Qbw
 b_Qbw:Binds K t.fd_Qbw ["counts", "place"] []
 m_Qbw:mg "raised" = some (.ref t.a_Qbw)
 F_Qcb:Fun K "grown" "grown" s_Qcb t.a_Qcb t.fd_Qcb
 b_Qcb:Binds K t.fd_Qcb ["frame", "text"] []
 m_Qcb:mg "grown" = some (.ref t.a_Qcb)
 F_Qj:Fun K "weight_ahead" "weight_ahead" s_Qj t.a_Qj t.fd_Qj
 b_Qj:Binds K t.fd_Qj ["growth", "sign"] []
 m_Qj:mg "weight_ahead" = some (.ref t.a_Qj)
 F_span:FunD K "span" "span" s_span t.a_span t.fd_span t.dt_span
 b_span:Binds K t.fd_span ["frame", "text", "ahead"] []
 bd_span:Binds K t.fd_span ["frame", "text", "ahead"] [.str (Str.ofString "") t.kt_span]
 m_span:mg "span" = some (.ref t.a_span)
 F_Qx:Fun K "letter_at" "letter_at" s_Qx t.a_Qx t.fd_Qx
 b_Qx:Binds K t.fd_Qx ["growth", "low", "point"] []
 m_Qx:mg "letter_at" = some (.ref t.a_Qx)
 F_Qbq:FunD K "text_at" "text_at" s_Qbq t.a_Qbq t.fd_Qbq t.dt_text_at
 b_Qbq:Binds K t.fd_Qbq ["frame", "many", "point", "ahead"] []
 bd_Qbq:Binds K t.fd_Qbq ["frame", "many", "point", "ahead"] [.str (Str.ofString "") t.kt_text_at]
 m_Qbq:mg "text_at" = some (.ref t.a_Qbq)
 F_Qcc:FunD K "press" "press" s_Qcc t.a_Qcc t.fd_Qcc t.dt_press
 b_Qcc:Binds K t.fd_Qcc ["frame", "text", "ahead"] []
 bd_Qcc:Binds K t.fd_Qcc ["frame", "text", "ahead"] [.str (Str.ofString "") t.kt_press]
 m_Qcc:mg "press" = some (.ref t.a_Qcc)
 F_Qbr:Fun K "grouped" "grouped" s_Qbr t.a_Qbr t.fd_Qbr
 b_Qbr:Binds K t.fd_Qbr ["bits"] []
 m_Qbr:mg "grouped" = some (.ref t.a_Qbr)
 F_Qbf:Fun K "check_of" "check_of" s_Qbf t.a_Qbf t.fd_Qbf
 b_Qbf:Binds K t.fd_Qbf ["body"] []
 m_Qbf:mg "check_of" = some (.ref t.a_Qbf)
 F_wrap:Fun K "wrap" "wrap" s_wrap t.a_wrap t.fd_wrap
 b_wrap:Binds K t.fd_wrap ["frame", "text"] []
 m_wrap:mg "wrap" = some (.ref t.a_wrap)
 F_Qy:Fun K "number_in" "number_in" s_Qy t.a_Qy t.fd_Qy
 b_Qy:Binds K t.fd_Qy ["text", "many"] []
 m_Qy:mg "number_in" = some (.ref t.a_Qy)
 F_Qf:Fun K "unpacked_frame" "unpacked_frame" s_Qf t.a_Qf t.fd_Qf
 b_Qf:Binds K t.fd_Qf ["depth", "letters"] []
 m_Qf:mg "unpacked_frame" = some (.ref t.a_Qf)
 F_Qd:Fun K "unpacked_length" "unpacked_length" s_Qd t.a_Qd t.fd_Qd
 b_Qd:Binds K t.fd_Qd ["text"] []
 m_Qd:mg "unpacked_length" = some (.ref t.a_Qd)
 F_Qp:Fun K "filled_bits" "filled_bits" s_Qp t.a_Qp t.fd_Qp
 b_Qp:Binds K t.fd_Qp ["groups"] []
 m_Qp:mg "filled_bits" = some (.ref t.a_Qp)
 F_Qk:Fun K "checked_body" "checked_body" s_Qk t.a_Qk t.fd_Qk
 b_Qk:Binds K t.fd_Qk ["packet"] []
 m_Qk:mg "checked_body" = some (.ref t.a_Qk)
 F_Qbx:Fun K "unwrap" "unwrap" s_Qbx t.a_Qbx t.fd_Qbx
 b_Qbx:Binds K t.fd_Qbx ["packet"] []
 m_Qbx:mg "unwrap" = some (.ref t.a_Qbx)
 F_Qz:Fun K "_law_cell_at" "_law_cell_at" s_Qz t.a_Qz t.fd_Qz
 b_Qz:Binds K t.fd_Qz ["script", "k"] []
 m_Qz:mg "_law_cell_at" = some (.ref t.a_Qz)
 F_Qbs:Fun K "_law_signs" "_law_signs" s_Qbs t.a_Qbs t.fd_Qbs
 b_Qbs:Binds K t.fd_Qbs [] []
 m_Qbs:mg "_law_signs" = some (.ref t.a_Qbs)
 F_Qbt:Fun K "_law_frame" "_law_frame" s_Qbt t.a_Qbt t.fd_Qbt
 b_Qbt:Binds K t.fd_Qbt ["cell"] []
 m_Qbt:mg "_law_frame" = some (.ref t.a_Qbt)
 F_Qbu:Fun K "_law_check" "_law_check" s_Qbu t.a_Qbu t.fd_Qbu
 b_Qbu:Binds K t.fd_Qbu ["text"] []
 m_Qbu:mg "_law_check" = some (.ref t.a_Qbu)
 F_Qba:Fun K "_law_refused" "_law_refused" s_Qba t.a_Qba t.fd_Qba
 b_Qba:Binds K t.fd_Qba ["packet"] []
 m_Qba:mg "_law_refused" = some (.ref t.a_Qba)
 F_Qu:Fun K "_law_is_frame" "_law_is_frame" s_Qu t.a_Qu t.fd_Qu
 b_Qu:Binds K t.fd_Qu ["frame"] []
 m_Qu:mg "_law_is_frame" = some (.ref t.a_Qu)
 F_Qbg:Fun K "_law_either" "_law_either" s_Qbg t.a_Qbg t.fd_Qbg
 b_Qbg:Binds K t.fd_Qbg ["packet"] []
 m_Qbg:mg "_law_either" = some (.ref t.a_Qbg)
 F_Qbv:Fun K "_law_heads" "_law_heads" s_Qbv t.a_Qbv t.fd_Qbv
 b_Qbv:Binds K t.fd_Qbv ["frame", "cell"] []
 m_Qbv:mg "_law_heads" = some (.ref t.a_Qbv)
 F_Qq:Fun K "_law_exchanged" "_law_exchanged" s_Qq t.a_Qq t.fd_Qq
 b_Qq:Binds K t.fd_Qq ["text", "cell"] []
 m_Qq:mg "_law_exchanged" = some (.ref t.a_Qq)
 F_Qbh:Fun K "_law_put_in" "_law_put_in" s_Qbh t.a_Qbh t.fd_Qbh
 b_Qbh:Binds K t.fd_Qbh ["text", "cell"] []
 m_Qbh:mg "_law_put_in" = some (.ref t.a_Qbh)
 F_Qbi:Fun K "_law_spoilt" "_law_spoilt" s_Qbi t.a_Qbi t.fd_Qbi
 b_Qbi:Binds K t.fd_Qbi ["packet", "cell"] []
 m_Qbi:mg "_law_spoilt" = some (.ref t.a_Qbi)
 F_Qbb:Fun K "_law_checked" "_law_checked" s_Qbb t.a_Qbb t.fd_Qbb
 b_Qbb:Binds K t.fd_Qbb ["packet", "cell"] []
 m_Qbb:mg "_law_checked" = some (.ref t.a_Qbb)
 F_law:Fun K "law" "law" s_law t.a_law t.fd_law
 b_law:Binds K t.fd_law ["script"] []
 m_law:mg "law" = some (.ref t.a_law)
 F_Qr:Fun K "__init__" "Growth.__init__" s_Qr t.a_Qr t.fd_Qr
 b_Qr:Binds K t.fd_Qr ["self", "frame"] []
 mk_Growth:Mk K t.c_Growth t.a_Qr
 F_Ql:Fun K "entry" "Growth.entry" s_Ql t.a_Ql t.fd_Ql
 b_Ql:Binds K t.fd_Ql ["self", "knot"] []
 me_Ql:Meth K t.c_Growth "entry" t.a_Ql
 F_Qc:Fun K "branching" "Growth.branching" s_Qc t.a_Qc t.fd_Qc
 b_Qc:Binds K t.fd_Qc ["self", "knot", "changed"] []
 me_Qc:Meth K t.c_Growth "branching" t.a_Qc
 F_Qg:Fun K "changes" "Growth.changes" s_Qg t.a_Qg t.fd_Qg
 b_Qg:Binds K t.fd_Qg ["self", "sign"] []
 me_Qg:Meth K t.c_Growth "changes" t.a_Qg
 F_Qh:Fun K "weight" "Growth.weight" s_Qh t.a_Qh t.fd_Qh
 b_Qh:Binds K t.fd_Qh ["self"] []
 me_Qh:Meth K t.c_Growth "weight" t.a_Qh
 F_Qa:Fun K "weight_with" "Growth.weight_with" s_Qa t.a_Qa t.fd_Qa
 b_Qa:Binds K t.fd_Qa ["self", "sign"] []
 me_Qa:Meth K t.c_Growth "weight_with" t.a_Qa
 F_Qs:Fun K "grow" "Growth.grow" s_Qs t.a_Qs t.fd_Qs
 b_Qs:Binds K t.fd_Qs ["self", "sign"] []
 me_Qs:Meth K t.c_Growth "grow" t.a_Qs
 cl_Growth:Cls K t.c_Growth
 na_Growth_frame:NoAttr K t.c_Growth "frame"
 na_Growth_replaced:NoAttr K t.c_Growth "replaced"
 na_Growth_table:NoAttr K t.c_Growth "table"
 na_Growth_text:NoAttr K t.c_Growth "text"
 m_ValueError:mg "ValueError" = none
 m_abs:mg "abs" = none
 m_all:mg "all" = none
 m_bool:mg "bool" = none
 m_enumerate:mg "enumerate" = none
 m_int:mg "int" = none
 m_isinstance:mg "isinstance" = none
 m_len:mg "len" = none
 m_list:mg "list" = none
 m_max:mg "max" = none
 m_ord:mg "ord" = none
 m_range:mg "range" = none
 m_reversed:mg "reversed" = none
 m_set:mg "set" = none
 m_str:mg "str" = none
 m_sum:mg "sum" = none
 m_tuple:mg "tuple" = none
 m_PressError:mg "PressError" = some (.ref t.c_PressError)
 m_NoFraction:mg "NoFraction" = some (.ref t.c_NoFraction)
 m_NoFrame:mg "NoFrame" = some (.ref t.c_NoFrame)
 m_NoText:mg "NoText" = some (.ref t.c_NoText)
 m_NoSign:mg "NoSign" = some (.ref t.c_NoSign)
 m_NoBits:mg "NoBits" = some (.ref t.c_NoBits)
 m_NoPress:mg "NoPress" = some (.ref t.c_NoPress)
 m_NoPacket:mg "NoPacket" = some (.ref t.c_NoPacket)
 m_NoRow:mg "NoRow" = some (.ref t.c_NoRow)
 m_NoNumber:mg "NoNumber" = some (.ref t.c_NoNumber)
 m_Growth:mg "Growth" = some (.ref t.c_Growth)
 m_PER_CENT:mg "PER_CENT" = some (.int 37 t.k_PER_CENT)
 m_FEWEST_LETTERS:mg "FEWEST_LETTERS" = some (.int 2 t.k_FEWEST_LETTERS)
 m_MOST_LETTERS:mg "MOST_LETTERS" = some (.int 6 t.k_MOST_LETTERS)
 m_GREATEST_DEPTH:mg "GREATEST_DEPTH" = some (.int 6 t.k_GREATEST_DEPTH)
 m_FIGURES:mg "FIGURES" = some (.str "0123456789" t.k_FIGURES)
 m_COUNTS:mg "COUNTS" = some (.int 0 t.k_COUNTS)
 m_WORTH:mg "WORTH" = some (.int 1 t.k_WORTH)
 m_WEIGHT:mg "WEIGHT" = some (.int 2 t.k_WEIGHT)
 m_MOST_SIGNS:mg "MOST_SIGNS" = some (.int 100 t.k_MOST_SIGNS)
 m_GROUP_SIGNS:mg "GROUP_SIGNS" = some (.str "abcdefghijklmnopqrstuvwxyz234567" t.k_GROUP_SIGNS)
 m_GROUP_SIZE:mg "GROUP_SIZE" = some (.int 5 t.k_GROUP_SIZE)
 m_CHECK_SIGNS:mg "CHECK_SIGNS" = some (.str "ABCDEFGHIJ" t.k_CHECK_SIGNS)
 m_CHECK_SIZE:mg "CHECK_SIZE" = some (.int 2 t.k_CHECK_SIZE)
 m_CHECK_DIVISOR:mg "CHECK_DIVISOR" = some (.int 97 t.k_CHECK_DIVISOR)
 m_LENGTH_SIZE:mg "LENGTH_SIZE" = some (.int 3 t.k_LENGTH_SIZE)
 m_NOUGHT:mg "NOUGHT" = some (.ref t.q_NOUGHT)
 tc_NOUGHT:∃ (o:Obj) (its:Array Value) (n:Nat),K.lookup t.q_NOUGHT=some o/\o.cls=.type "tuple" /\ o.data=.seq its n/\its.size<=sizeLine/\Vals [.int 0,.int 1] its.toList
 m_ONE:mg "ONE" = some (.ref t.q_ONE)
 tc_ONE:∃ (o:Obj) (its:Array Value) (n:Nat),K.lookup t.q_ONE=some o/\o.cls=.type "tuple" /\ o.data=.seq its n/\its.size<=sizeLine/\Vals [.int 1,.int 1] its.toList
 x_NoBits:PySem.W.excIn K t.c_NoBits [.type "ValueError",.type "Exception",.type "BaseException",.type "object"] "ValueError.__new__" = true
 z_NoBits:XT.ExcK K t.c_NoBits
 x_NoFraction:PySem.W.excIn K t.c_NoFraction [.type "ValueError",.type "Exception",.type "BaseException",.type "object"] "ValueError.__new__" = true
 z_NoFraction:XT.ExcK K t.c_NoFraction
 x_NoFrame:PySem.W.excIn K t.c_NoFrame [.type "ValueError",.type "Exception",.type "BaseException",.type "object"] "ValueError.__new__" = true
 z_NoFrame:XT.ExcK K t.c_NoFrame
 x_NoPacket:PySem.W.excIn K t.c_NoPacket [.type "ValueError",.type "Exception",.type "BaseException",.type "object"] "ValueError.__new__" = true
 z_NoPacket:XT.ExcK K t.c_NoPacket
 x_NoText:PySem.W.excIn K t.c_NoText [.type "ValueError",.type "Exception",.type "BaseException",.type "object"] "ValueError.__new__" = true
 z_NoText:XT.ExcK K t.c_NoText
 x_PressError:PySem.W.excIn K t.c_PressError [.type "ValueError",.type "Exception",.type "BaseException",.type "object"] "ValueError.__new__" = true
 z_PressError:XT.ExcK K t.c_PressError
 i_NoBits_NoPacket:PySem.W.kitOne K (.ref t.c_NoBits) (.ref t.c_NoPacket)=some false
 i_NoFraction_NoPacket:PySem.W.kitOne K (.ref t.c_NoFraction) (.ref t.c_NoPacket)=some false
 i_NoFrame_NoPacket:PySem.W.kitOne K (.ref t.c_NoFrame) (.ref t.c_NoPacket)=some false
 i_NoPacket_NoPacket:PySem.W.kitOne K (.ref t.c_NoPacket) (.ref t.c_NoPacket)=some true
 i_NoText_NoPacket:PySem.W.kitOne K (.ref t.c_NoText) (.ref t.c_NoPacket)=some false
 i_NoBits_ValueError:PySem.W.kitOne K (.ref t.c_NoBits) (.type "ValueError")=some true
 i_NoFraction_ValueError:PySem.W.kitOne K (.ref t.c_NoFraction) (.type "ValueError")=some true
 i_NoFrame_ValueError:PySem.W.kitOne K (.ref t.c_NoFrame) (.type "ValueError")=some true
 i_NoPacket_ValueError:PySem.W.kitOne K (.ref t.c_NoPacket) (.type "ValueError")=some true
 i_NoText_ValueError:PySem.W.kitOne K (.ref t.c_NoText) (.type "ValueError")=some true
 it_L_refused_NoBits_0:PySem.W.kitAny K (.ref t.c_NoBits) [.ref t.c_NoBits,.ref t.c_NoFrame,.ref t.c_NoNumber,.ref t.c_NoPress,.ref t.c_NoRow,.ref t.c_NoSign,.ref t.c_NoText]=some true
 it_L_refused_NoFraction_0:PySem.W.kitAny K (.ref t.c_NoFraction) [.ref t.c_NoBits,.ref t.c_NoFrame,.ref t.c_NoNumber,.ref t.c_NoPress,.ref t.c_NoRow,.ref t.c_NoSign,.ref t.c_NoText]=some false
 it_L_refused_NoFrame_0:PySem.W.kitAny K (.ref t.c_NoFrame) [.ref t.c_NoBits,.ref t.c_NoFrame,.ref t.c_NoNumber,.ref t.c_NoPress,.ref t.c_NoRow,.ref t.c_NoSign,.ref t.c_NoText]=some true
 it_L_refused_NoPacket_0:PySem.W.kitAny K (.ref t.c_NoPacket) [.ref t.c_NoBits,.ref t.c_NoFrame,.ref t.c_NoNumber,.ref t.c_NoPress,.ref t.c_NoRow,.ref t.c_NoSign,.ref t.c_NoText]=some false
 it_L_refused_NoText_0:PySem.W.kitAny K (.ref t.c_NoText) [.ref t.c_NoBits,.ref t.c_NoFrame,.ref t.c_NoNumber,.ref t.c_NoPress,.ref t.c_NoRow,.ref t.c_NoSign,.ref t.c_NoText]=some true
 u_NoBits_PressError:PySem.W.mroIn K t.c_NoBits (.ref t.c_PressError)=some true
 u_NoFraction_PressError:PySem.W.mroIn K t.c_NoFraction (.ref t.c_PressError)=some true
 u_NoFrame_PressError:PySem.W.mroIn K t.c_NoFrame (.ref t.c_PressError)=some true
 u_NoPacket_PressError:PySem.W.mroIn K t.c_NoPacket (.ref t.c_PressError)=some true
 u_NoText_PressError:PySem.W.mroIn K t.c_NoText (.ref t.c_PressError)=some true
 u_NoPacket_NoPacket:PySem.W.mroIn K t.c_NoPacket (.ref t.c_NoPacket)=some true
 bl:∀ (s:Shared) (v:Value),BindsTo s t.fd_law ⟨[v],[]⟩ [("script",v)]
section
variable {K:PySem.W.Frag}
abbrev fnx (x qual:Str) (st:Stmt) (kV doc pm:Value) (an:Option Addr) (cdv ct:Value):FuncData:=PySem.W.fnOf x qual (defArgs st) (defBody st) (defScope st) .none kV doc pm an cdv ct
def Fx (K:PySem.W.Frag) (x:Str) (st:Stmt) (a:Addr) (fd:FuncData):Prop:=Fun K x x st a fd/\PySem.W.nsIn K mainGlobals x=some (some (.ref a))
def Mx (K:PySem.W.Frag) (x qual:Str) (st:Stmt) (c a:Addr) (fd:FuncData):Prop:=Fun K x qual st a fd/\PySem.W.findIn K (.ref c) x=some (some (.ref a))/\PySem.W.isFn K (.ref a)=true
theorem fx {x:Str} {st:Stmt} {a:Addr} {oc kV doc pm cdv ct:Value} {od an:Option Addr} {osl:Array (Option Value)} (n:PySem.W.nsIn K mainGlobals x=some (some (.ref a))) (l:K.lookup a=some ⟨oc,od,.func (PySem.W.fnOf x x (defArgs st) (defBody st) (defScope st) .none kV doc pm an cdv ct),osl⟩)
 (c:PySem.W.codeIn K cdv x=true) (k:PySem.W.keepIn K (.ref a)=true):Fx K x st a (PySem.W.fnOf x x (defArgs st) (defBody st) (defScope st) .none kV doc pm an cdv ct):=⟨fun_mk l c k,n⟩
theorem mx {x qual:Str} {st:Stmt} {b a:Addr} {oc kV doc pm cdv ct:Value} {od an:Option Addr} {osl:Array (Option Value)} (n:PySem.W.findIn K (.ref b) x=some (some (.ref a))) (i:PySem.W.isFn K (.ref a)=true) (l:K.lookup a=some ⟨oc,od,.func (PySem.W.fnOf x qual (defArgs st) (defBody st) (defScope st) .none kV doc pm an cdv ct),osl⟩)
 (c:PySem.W.codeIn K cdv qual=true) (k:PySem.W.keepIn K (.ref a)=true):Mx K x qual st b a (PySem.W.fnOf x qual (defArgs st) (defBody st) (defScope st) .none kV doc pm an cdv ct):=⟨fun_mk l c k,n,i⟩
variable {x qual:Str} {st:Stmt} {f:Addr} {fd:FuncData}
theorem b1 {p0:Str} (F:Fun K x qual st f fd) (h:∀ (kV doc pm:Value) (an:Option Addr) (cdv ct u0:Value),bindArgs (fnx x qual st kV doc pm an cdv ct) ⟨[u0],[]⟩=pure [(p0,u0)]):Binds K fd [p0] []:=F.binds λ _ _ _ _ _ _ us hl=>match us,hl with | [_],_=>h ..
theorem b2 {p0 p1:Str} (F:Fun K x qual st f fd) (h:∀ (kV doc pm:Value) (an:Option Addr) (cdv ct u0 u1:Value),bindArgs (fnx x qual st kV doc pm an cdv ct) ⟨[u0,u1],[]⟩=pure [(p0,u0),(p1,u1)]):Binds K fd [p0,p1] []:=F.binds λ _ _ _ _ _ _ us hl=>match us,hl with | [_,_],_=>h ..
theorem b3 {p0 p1 p2:Str} (F:Fun K x qual st f fd) (h:∀ (kV doc pm:Value) (an:Option Addr) (cdv ct u0 u1 u2:Value),bindArgs (fnx x qual st kV doc pm an cdv ct) ⟨[u0,u1,u2],[]⟩=pure [(p0,u0),(p1,u1),(p2,u2)]):Binds K fd [p0,p1,p2] []:=F.binds λ _ _ _ _ _ _ us hl=>match us,hl with | [_,_,_],_=>h ..
theorem b4 {p0 p1 p2 p3:Str} (F:Fun K x qual st f fd) (h:∀ (kV doc pm:Value) (an:Option Addr) (cdv ct u0 u1 u2 u3:Value),bindArgs (fnx x qual st kV doc pm an cdv ct) ⟨[u0,u1,u2,u3],[]⟩=pure [(p0,u0),(p1,u1),(p2,u2),(p3,u3)]):Binds K fd [p0,p1,p2,p3] []:=F.binds λ _ _ _ _ _ _ us hl=>match us,hl with | [_,_,_,_],_=>h ..
theorem b5 {p0 p1 p2 p3 p4:Str} (F:Fun K x qual st f fd) (h:∀ (kV doc pm:Value) (an:Option Addr) (cdv ct u0 u1 u2 u3 u4:Value),bindArgs (fnx x qual st kV doc pm an cdv ct) ⟨[u0,u1,u2,u3,u4],[]⟩=pure [(p0,u0),(p1,u1),(p2,u2),(p3,u3),(p4,u4)]):Binds K fd [p0,p1,p2,p3,p4] []:=F.binds λ _ _ _ _ _ _ us hl=>match us,hl with | [_,_,_,_,_],_=>h ..
theorem b0 (F:Fun K x qual st f fd) (h:∀ (kV doc pm:Value) (an:Option Addr) (cdv ct:Value),bindArgs (fnx x qual st kV doc pm an cdv ct) ⟨[],[]⟩=pure []):Binds K fd [] []:=F.binds λ _ _ _ _ _ _ us hl=>match us,hl with | [],_=>h ..
theorem bl0 {p0:Str} (F:Fun K x qual st f fd) (h:∀ (kV doc pm:Value) (an:Option Addr) (cdv ct u0:Value),bindArgs (fnx x qual st kV doc pm an cdv ct) ⟨[u0],[]⟩=pure [(p0,u0)]) (s:Shared) (v:Value):BindsTo s fd ⟨[v],[]⟩ [(p0,v)]:=by
 obtain ⟨oc,od,kV,doc,pm,an,cdv,ct,osl,rfl,lk,hcd⟩:=F.ex
 exact .of_eq (h ..)
end
theorem txt_mk {K:PySem.W.Frag} {h:Heap} {mg:Str->Option Value} (X:K.In h) (G:h.Ns mainGlobals mg)
 {a_Qbc:Addr} {fd_Qbc:FuncData}
 {a_Qm:Addr} {fd_Qm:FuncData}
 {a_Qbj:Addr} {fd_Qbj:FuncData}
 {a_Qbk:Addr} {fd_Qbk:FuncData}
 {a_Qn:Addr} {fd_Qn:FuncData}
 {a_Qbd:Addr} {fd_Qbd:FuncData}
 {a_Qt:Addr} {fd_Qt:FuncData}
 {a_Qbl:Addr} {fd_Qbl:FuncData}
 {a_Qb:Addr} {fd_Qb:FuncData}
 {a_Qbe:Addr} {fd_Qbe:FuncData}
 {a_plus:Addr} {fd_plus:FuncData}
 {a_Qby:Addr} {fd_Qby:FuncData}
 {a_half:Addr} {fd_half:FuncData}
 {a_over:Addr} {fd_over:FuncData}
 {a_Qbm:Addr} {fd_Qbm:FuncData}
 {a_Qbz:Addr} {fd_Qbz:FuncData}
 {a_Qbn:Addr} {fd_Qbn:FuncData}
 {a_Qe:Addr} {fd_Qe:FuncData}
 {a_Qi:Addr} {fd_Qi:FuncData}
 {a_Qbo:Addr} {fd_Qbo:FuncData}
 {a_Qo:Addr} {fd_Qo:FuncData}
 {a_Qbp:Addr} {fd_Qbp:FuncData}
 {a_Qv:Addr} {fd_Qv:FuncData}
 {a_Qw:Addr} {fd_Qw:FuncData}
 {a_Qca:Addr} {fd_Qca:FuncData}
 {a_Qbw:Addr} {fd_Qbw:FuncData}
 {a_Qcb:Addr} {fd_Qcb:FuncData}
 {a_Qj:Addr} {fd_Qj:FuncData}
 {a_span:Addr} {oc_span kV_span dc_span pm_span cd_span ct_span:Value} {od_span an_span:Option Addr} {sl_span:Array (Option Value)}
 {a_Qx:Addr} {fd_Qx:FuncData}
 {a_Qbq:Addr} {oc_text_at kV_text_at dc_text_at pm_text_at cd_text_at ct_text_at:Value} {od_text_at an_text_at:Option Addr} {sl_text_at:Array (Option Value)}
 {a_Qcc:Addr} {oc_press kV_press dc_press pm_press cd_press ct_press:Value} {od_press an_press:Option Addr} {sl_press:Array (Option Value)}
 {a_Qbr:Addr} {fd_Qbr:FuncData}
 {a_Qbf:Addr} {fd_Qbf:FuncData}
 {a_wrap:Addr} {fd_wrap:FuncData}
 {a_Qy:Addr} {fd_Qy:FuncData}
 {a_Qf:Addr} {fd_Qf:FuncData}
 {a_Qd:Addr} {fd_Qd:FuncData}
 {a_Qp:Addr} {fd_Qp:FuncData}
 {a_Qk:Addr} {fd_Qk:FuncData}
 {a_Qbx:Addr} {fd_Qbx:FuncData}
 {a_Qz:Addr} {fd_Qz:FuncData}
 {a_Qbs:Addr} {fd_Qbs:FuncData}
 {a_Qbt:Addr} {fd_Qbt:FuncData}
 {a_Qbu:Addr} {fd_Qbu:FuncData}
 {a_Qba:Addr} {fd_Qba:FuncData}
 {a_Qu:Addr} {fd_Qu:FuncData}
 {a_Qbg:Addr} {fd_Qbg:FuncData}
 {a_Qbv:Addr} {fd_Qbv:FuncData}
 {a_Qq:Addr} {fd_Qq:FuncData}
 {a_Qbh:Addr} {fd_Qbh:FuncData}
 {a_Qbi:Addr} {fd_Qbi:FuncData}
 {a_Qbb:Addr} {fd_Qbb:FuncData}
 {a_law:Addr} {fd_law:FuncData}
 {a_Qr:Addr} {fd_Qr:FuncData}
 {a_Ql:Addr} {fd_Ql:FuncData}
 {a_Qc:Addr} {fd_Qc:FuncData}
 {a_Qg:Addr} {fd_Qg:FuncData}
 {a_Qh:Addr} {fd_Qh:FuncData}
 {a_Qa:Addr} {fd_Qa:FuncData}
 {a_Qs:Addr} {fd_Qs:FuncData}
 {dt_span:Addr} {kt_span:Tok} {odt_span:Option Addr} {nnt_span:Nat} {slt_span:Array (Option Value)}
 {dt_text_at:Addr} {kt_text_at:Tok} {odt_text_at:Option Addr} {nnt_text_at:Nat} {slt_text_at:Array (Option Value)}
 {dt_press:Addr} {kt_press:Tok} {odt_press:Option Addr} {nnt_press:Nat} {slt_press:Array (Option Value)}
 {c_PressError:Addr}
 {c_NoFraction:Addr}
 {c_NoFrame:Addr}
 {c_NoText:Addr}
 {c_NoSign:Addr}
 {c_NoBits:Addr}
 {c_NoPress:Addr}
 {c_NoPacket:Addr}
 {c_NoRow:Addr}
 {c_NoNumber:Addr}
 {c_Growth:Addr}
 {q_NOUGHT:Addr} {od_NOUGHT:Option Addr} {sl_NOUGHT:Array (Option Value)} {nn_NOUGHT:Nat} {i0_NOUGHT i1_NOUGHT:Tok}
 {q_ONE:Addr} {od_ONE:Option Addr} {sl_ONE:Array (Option Value)} {nn_ONE:Nat} {i0_ONE i1_ONE:Tok}
 {k_PER_CENT:Tok}
 {k_FEWEST_LETTERS:Tok}
 {k_MOST_LETTERS:Tok}
 {k_GREATEST_DEPTH:Tok}
 {k_FIGURES:Tok}
 {k_COUNTS:Tok}
 {k_WORTH:Tok}
 {k_WEIGHT:Tok}
 {k_MOST_SIGNS:Tok}
 {k_GROUP_SIGNS:Tok}
 {k_GROUP_SIZE:Tok}
 {k_CHECK_SIGNS:Tok}
 {k_CHECK_SIZE:Tok}
 {k_CHECK_DIVISOR:Tok}
 {k_LENGTH_SIZE:Tok}
 (f_Qbc:Fx K "is_whole" s_Qbc a_Qbc fd_Qbc)
 (f_Qm:Fx K "are_figures" s_Qm a_Qm fd_Qm)
 (f_Qbj:Fx K "is_sign" s_Qbj a_Qbj fd_Qbj)
 (f_Qbk:Fx K "is_text" s_Qbk a_Qbk fd_Qbk)
 (f_Qn:Fx K "are_letters" s_Qn a_Qn fd_Qn)
 (f_Qbd:Fx K "is_depth" s_Qbd a_Qbd fd_Qbd)
 (f_Qt:Fx K "make_frame" s_Qt a_Qt fd_Qt)
 (f_Qbl:Fx K "checked" s_Qbl a_Qbl fd_Qbl)
 (f_Qb:Fx K "greatest_divisor" s_Qb a_Qb fd_Qb)
 (f_Qbe:Fx K "fraction" s_Qbe a_Qbe fd_Qbe)
 (f_plus:Fx K "plus" s_plus a_plus fd_plus)
 (f_Qby:Fx K "times" s_Qby a_Qby fd_Qby)
 (f_half:Fx K "half" s_half a_half fd_half)
 (f_over:Fx K "over" s_over a_over fd_over)
 (f_Qbm:Fx K "product" s_Qbm a_Qbm fd_Qbm)
 (f_Qbz:Fx K "under" s_Qbz a_Qbz fd_Qbz)
 (f_Qbn:Fx K "is_bits" s_Qbn a_Qbn fd_Qbn)
 (f_Qe:Fx K "number_in_twos" s_Qe a_Qe fd_Qe)
 (f_Qi:Fx K "bits_in_twos" s_Qi a_Qi fd_Qi)
 (f_Qbo:Fx K "stretch" s_Qbo a_Qbo fd_Qbo)
 (f_Qo:Fx K "first_place" s_Qo a_Qo fd_Qo)
 (f_Qbp:Fx K "bits_of" s_Qbp a_Qbp fd_Qbp)
 (f_Qv:Fx K "elders_at" s_Qv a_Qv fd_Qv)
 (f_Qw:Fx K "no_counts" s_Qw a_Qw fd_Qw)
 (f_Qca:Fx K "share" s_Qca a_Qca fd_Qca)
 (f_Qbw:Fx K "raised" s_Qbw a_Qbw fd_Qbw)
 (f_Qcb:Fx K "grown" s_Qcb a_Qcb fd_Qcb)
 (f_Qj:Fx K "weight_ahead" s_Qj a_Qj fd_Qj)
 (n_span:PySem.W.nsIn K mainGlobals "span" = some (some (.ref a_span)))
 (l_span:K.lookup a_span=some ⟨oc_span,od_span,.func (PySem.W.fnOf "span" "span" (defArgs s_span) (defBody s_span) (defScope s_span) (.ref dt_span) kV_span dc_span pm_span an_span cd_span ct_span),sl_span⟩)
 (ld_span:K.lookup dt_span=some ⟨.type "tuple",odt_span,.seq #[.str (Str.ofString "") kt_span] nnt_span,slt_span⟩)
 (o_span:PySem.W.codeIn K cd_span "span" = true)
 (k_span:PySem.W.keepIn K (.ref a_span)=true)
 (f_Qx:Fx K "letter_at" s_Qx a_Qx fd_Qx)
 (n_text_at:PySem.W.nsIn K mainGlobals "text_at" = some (some (.ref a_Qbq)))
 (l_text_at:K.lookup a_Qbq=some ⟨oc_text_at,od_text_at,.func (PySem.W.fnOf "text_at" "text_at" (defArgs s_Qbq) (defBody s_Qbq) (defScope s_Qbq) (.ref dt_text_at) kV_text_at dc_text_at pm_text_at an_text_at cd_text_at ct_text_at),sl_text_at⟩)
 (ld_Qbq:K.lookup dt_text_at=some ⟨.type "tuple",odt_text_at,.seq #[.str (Str.ofString "") kt_text_at] nnt_text_at,slt_text_at⟩)
 (o_text_at:PySem.W.codeIn K cd_text_at "text_at" = true)
 (k_text_at:PySem.W.keepIn K (.ref a_Qbq)=true)
 (n_press:PySem.W.nsIn K mainGlobals "press" = some (some (.ref a_Qcc)))
 (l_press:K.lookup a_Qcc=some ⟨oc_press,od_press,.func (PySem.W.fnOf "press" "press" (defArgs s_Qcc) (defBody s_Qcc) (defScope s_Qcc) (.ref dt_press) kV_press dc_press pm_press an_press cd_press ct_press),sl_press⟩)
 (ld_Qcc:K.lookup dt_press=some ⟨.type "tuple",odt_press,.seq #[.str (Str.ofString "") kt_press] nnt_press,slt_press⟩)
 (o_press:PySem.W.codeIn K cd_press "press" = true)
 (k_press:PySem.W.keepIn K (.ref a_Qcc)=true)
 (f_Qbr:Fx K "grouped" s_Qbr a_Qbr fd_Qbr)
 (f_Qbf:Fx K "check_of" s_Qbf a_Qbf fd_Qbf)
 (f_wrap:Fx K "wrap" s_wrap a_wrap fd_wrap)
 (f_Qy:Fx K "number_in" s_Qy a_Qy fd_Qy)
 (f_Qf:Fx K "unpacked_frame" s_Qf a_Qf fd_Qf)
 (f_Qd:Fx K "unpacked_length" s_Qd a_Qd fd_Qd)
 (f_Qp:Fx K "filled_bits" s_Qp a_Qp fd_Qp)
 (f_Qk:Fx K "checked_body" s_Qk a_Qk fd_Qk)
 (f_Qbx:Fx K "unwrap" s_Qbx a_Qbx fd_Qbx)
 (f_Qz:Fx K "_law_cell_at" s_Qz a_Qz fd_Qz)
 (f_Qbs:Fx K "_law_signs" s_Qbs a_Qbs fd_Qbs)
 (f_Qbt:Fx K "_law_frame" s_Qbt a_Qbt fd_Qbt)
 (f_Qbu:Fx K "_law_check" s_Qbu a_Qbu fd_Qbu)
 (f_Qba:Fx K "_law_refused" s_Qba a_Qba fd_Qba)
 (f_Qu:Fx K "_law_is_frame" s_Qu a_Qu fd_Qu)
 (f_Qbg:Fx K "_law_either" s_Qbg a_Qbg fd_Qbg)
 (f_Qbv:Fx K "_law_heads" s_Qbv a_Qbv fd_Qbv)
 (f_Qq:Fx K "_law_exchanged" s_Qq a_Qq fd_Qq)
 (f_Qbh:Fx K "_law_put_in" s_Qbh a_Qbh fd_Qbh)
 (f_Qbi:Fx K "_law_spoilt" s_Qbi a_Qbi fd_Qbi)
 (f_Qbb:Fx K "_law_checked" s_Qbb a_Qbb fd_Qbb)
 (f_law:Fx K "law" s_law a_law fd_law)
 (n_Growth:PySem.W.nsIn K mainGlobals "Growth" = some (some (.ref c_Growth)))
 (f_Qr:Mx K "__init__" "Growth.__init__" s_Qr c_Growth a_Qr fd_Qr)
 (f_Ql:Mx K "entry" "Growth.entry" s_Ql c_Growth a_Ql fd_Ql)
 (f_Qc:Mx K "branching" "Growth.branching" s_Qc c_Growth a_Qc fd_Qc)
 (f_Qg:Mx K "changes" "Growth.changes" s_Qg c_Growth a_Qg fd_Qg)
 (f_Qh:Mx K "weight" "Growth.weight" s_Qh c_Growth a_Qh fd_Qh)
 (f_Qa:Mx K "weight_with" "Growth.weight_with" s_Qa c_Growth a_Qa fd_Qa)
 (f_Qs:Mx K "grow" "Growth.grow" s_Qs c_Growth a_Qs fd_Qs)
 (pg_Growth:PySem.W.plainGet K c_Growth Str.empty=true)
 (hd_Growth:PySem.W.hasDictIn K c_Growth=true)
 (po_Growth:PySem.W.plainOver K c_Growth=true)
 (sa_Growth:PySem.W.findIn K (.ref c_Growth) "__setattr__" = some (some (.builtin "object.__setattr__")))
 (mk_Growth:PySem.W.makesIn K c_Growth=true)
 (kc_Growth:PySem.W.keepIn K (.ref c_Growth)=true)
 (na_Growth_frame:PySem.W.findIn K (.ref c_Growth) "frame" = some none)
 (na_Growth_replaced:PySem.W.findIn K (.ref c_Growth) "replaced" = some none)
 (na_Growth_table:PySem.W.findIn K (.ref c_Growth) "table" = some none)
 (na_Growth_text:PySem.W.findIn K (.ref c_Growth) "text" = some none)
 (n_ValueError:PySem.W.nsIn K mainGlobals "ValueError" = some none)
 (n_abs:PySem.W.nsIn K mainGlobals "abs" = some none)
 (n_all:PySem.W.nsIn K mainGlobals "all" = some none)
 (n_bool:PySem.W.nsIn K mainGlobals "bool" = some none)
 (n_enumerate:PySem.W.nsIn K mainGlobals "enumerate" = some none)
 (n_int:PySem.W.nsIn K mainGlobals "int" = some none)
 (n_isinstance:PySem.W.nsIn K mainGlobals "isinstance" = some none)
 (n_len:PySem.W.nsIn K mainGlobals "len" = some none)
 (n_list:PySem.W.nsIn K mainGlobals "list" = some none)
 (n_max:PySem.W.nsIn K mainGlobals "max" = some none)
 (n_ord:PySem.W.nsIn K mainGlobals "ord" = some none)
 (n_range:PySem.W.nsIn K mainGlobals "range" = some none)
 (n_reversed:PySem.W.nsIn K mainGlobals "reversed" = some none)
 (n_set:PySem.W.nsIn K mainGlobals "set" = some none)
 (n_str:PySem.W.nsIn K mainGlobals "str" = some none)
 (n_sum:PySem.W.nsIn K mainGlobals "sum" = some none)
 (n_tuple:PySem.W.nsIn K mainGlobals "tuple" = some none)
 (n_PressError:PySem.W.nsIn K mainGlobals "PressError" = some (some (.ref c_PressError)))
 (n_NoFraction:PySem.W.nsIn K mainGlobals "NoFraction" = some (some (.ref c_NoFraction)))
 (n_NoFrame:PySem.W.nsIn K mainGlobals "NoFrame" = some (some (.ref c_NoFrame)))
 (n_NoText:PySem.W.nsIn K mainGlobals "NoText" = some (some (.ref c_NoText)))
 (n_NoSign:PySem.W.nsIn K mainGlobals "NoSign" = some (some (.ref c_NoSign)))
 (n_NoBits:PySem.W.nsIn K mainGlobals "NoBits" = some (some (.ref c_NoBits)))
 (n_NoPress:PySem.W.nsIn K mainGlobals "NoPress" = some (some (.ref c_NoPress)))
 (n_NoPacket:PySem.W.nsIn K mainGlobals "NoPacket" = some (some (.ref c_NoPacket)))
 (n_NoRow:PySem.W.nsIn K mainGlobals "NoRow" = some (some (.ref c_NoRow)))
 (n_NoNumber:PySem.W.nsIn K mainGlobals "NoNumber" = some (some (.ref c_NoNumber)))
 (n_PER_CENT:PySem.W.nsIn K mainGlobals "PER_CENT" = some (some (.int 37 k_PER_CENT)))
 (n_FEWEST_LETTERS:PySem.W.nsIn K mainGlobals "FEWEST_LETTERS" = some (some (.int 2 k_FEWEST_LETTERS)))
 (n_MOST_LETTERS:PySem.W.nsIn K mainGlobals "MOST_LETTERS" = some (some (.int 6 k_MOST_LETTERS)))
 (n_GREATEST_DEPTH:PySem.W.nsIn K mainGlobals "GREATEST_DEPTH" = some (some (.int 6 k_GREATEST_DEPTH)))
 (n_FIGURES:PySem.W.nsIn K mainGlobals "FIGURES" = some (some (.str "0123456789" k_FIGURES)))
 (n_COUNTS:PySem.W.nsIn K mainGlobals "COUNTS" = some (some (.int 0 k_COUNTS)))
 (n_WORTH:PySem.W.nsIn K mainGlobals "WORTH" = some (some (.int 1 k_WORTH)))
 (n_WEIGHT:PySem.W.nsIn K mainGlobals "WEIGHT" = some (some (.int 2 k_WEIGHT)))
 (n_MOST_SIGNS:PySem.W.nsIn K mainGlobals "MOST_SIGNS" = some (some (.int 100 k_MOST_SIGNS)))
 (n_GROUP_SIGNS:PySem.W.nsIn K mainGlobals "GROUP_SIGNS" = some (some (.str "abcdefghijklmnopqrstuvwxyz234567" k_GROUP_SIGNS)))
 (n_GROUP_SIZE:PySem.W.nsIn K mainGlobals "GROUP_SIZE" = some (some (.int 5 k_GROUP_SIZE)))
 (n_CHECK_SIGNS:PySem.W.nsIn K mainGlobals "CHECK_SIGNS" = some (some (.str "ABCDEFGHIJ" k_CHECK_SIGNS)))
 (n_CHECK_SIZE:PySem.W.nsIn K mainGlobals "CHECK_SIZE" = some (some (.int 2 k_CHECK_SIZE)))
 (n_CHECK_DIVISOR:PySem.W.nsIn K mainGlobals "CHECK_DIVISOR" = some (some (.int 97 k_CHECK_DIVISOR)))
 (n_LENGTH_SIZE:PySem.W.nsIn K mainGlobals "LENGTH_SIZE" = some (some (.int 3 k_LENGTH_SIZE)))
 (n_NOUGHT:PySem.W.nsIn K mainGlobals "NOUGHT" = some (some (.ref q_NOUGHT)))
 (lk_NOUGHT:K.lookup q_NOUGHT=some ⟨.type "tuple",od_NOUGHT,.seq #[.int 0 i0_NOUGHT,.int 1 i1_NOUGHT] nn_NOUGHT,sl_NOUGHT⟩)
 (n_ONE:PySem.W.nsIn K mainGlobals "ONE" = some (some (.ref q_ONE)))
 (lk_ONE:K.lookup q_ONE=some ⟨.type "tuple",od_ONE,.seq #[.int 1 i0_ONE,.int 1 i1_ONE] nn_ONE,sl_ONE⟩)
 (x_NoBits:PySem.W.excIn K c_NoBits [.type "ValueError",.type "Exception",.type "BaseException",.type "object"] "ValueError.__new__" = true)
 (zga_NoBits:PySem.W.findIn K (.ref c_NoBits) "__getattribute__" = some (some (.builtin "BaseException.__getattribute__")))
 (zgt_NoBits:PySem.W.findIn K (.ref c_NoBits) "__getattr__" = some none)
 (zcl_NoBits:PySem.W.findIn K (.ref c_NoBits) "__class__" = some (some (.builtin "object.__class__")))
 (zob_NoBits:PySem.W.mroIn K c_NoBits (.type "object")=some true)
 (zbe_NoBits:PySem.W.mroIn K c_NoBits (.type "BaseException")=some true)
 (x_NoFraction:PySem.W.excIn K c_NoFraction [.type "ValueError",.type "Exception",.type "BaseException",.type "object"] "ValueError.__new__" = true)
 (zga_NoFraction:PySem.W.findIn K (.ref c_NoFraction) "__getattribute__" = some (some (.builtin "BaseException.__getattribute__")))
 (zgt_NoFraction:PySem.W.findIn K (.ref c_NoFraction) "__getattr__" = some none)
 (zcl_NoFraction:PySem.W.findIn K (.ref c_NoFraction) "__class__" = some (some (.builtin "object.__class__")))
 (zob_NoFraction:PySem.W.mroIn K c_NoFraction (.type "object")=some true)
 (zbe_NoFraction:PySem.W.mroIn K c_NoFraction (.type "BaseException")=some true)
 (x_NoFrame:PySem.W.excIn K c_NoFrame [.type "ValueError",.type "Exception",.type "BaseException",.type "object"] "ValueError.__new__" = true)
 (zga_NoFrame:PySem.W.findIn K (.ref c_NoFrame) "__getattribute__" = some (some (.builtin "BaseException.__getattribute__")))
 (zgt_NoFrame:PySem.W.findIn K (.ref c_NoFrame) "__getattr__" = some none)
 (zcl_NoFrame:PySem.W.findIn K (.ref c_NoFrame) "__class__" = some (some (.builtin "object.__class__")))
 (zob_NoFrame:PySem.W.mroIn K c_NoFrame (.type "object")=some true)
 (zbe_NoFrame:PySem.W.mroIn K c_NoFrame (.type "BaseException")=some true)
 (x_NoPacket:PySem.W.excIn K c_NoPacket [.type "ValueError",.type "Exception",.type "BaseException",.type "object"] "ValueError.__new__" = true)
 (zga_NoPacket:PySem.W.findIn K (.ref c_NoPacket) "__getattribute__" = some (some (.builtin "BaseException.__getattribute__")))
 (zgt_NoPacket:PySem.W.findIn K (.ref c_NoPacket) "__getattr__" = some none)
 (zcl_NoPacket:PySem.W.findIn K (.ref c_NoPacket) "__class__" = some (some (.builtin "object.__class__")))
 (zob_NoPacket:PySem.W.mroIn K c_NoPacket (.type "object")=some true)
 (zbe_NoPacket:PySem.W.mroIn K c_NoPacket (.type "BaseException")=some true)
 (x_NoText:PySem.W.excIn K c_NoText [.type "ValueError",.type "Exception",.type "BaseException",.type "object"] "ValueError.__new__" = true)
 (zga_NoText:PySem.W.findIn K (.ref c_NoText) "__getattribute__" = some (some (.builtin "BaseException.__getattribute__")))
 (zgt_NoText:PySem.W.findIn K (.ref c_NoText) "__getattr__" = some none)
 (zcl_NoText:PySem.W.findIn K (.ref c_NoText) "__class__" = some (some (.builtin "object.__class__")))
 (zob_NoText:PySem.W.mroIn K c_NoText (.type "object")=some true)
 (zbe_NoText:PySem.W.mroIn K c_NoText (.type "BaseException")=some true)
 (x_PressError:PySem.W.excIn K c_PressError [.type "ValueError",.type "Exception",.type "BaseException",.type "object"] "ValueError.__new__" = true)
 (zga_PressError:PySem.W.findIn K (.ref c_PressError) "__getattribute__" = some (some (.builtin "BaseException.__getattribute__")))
 (zgt_PressError:PySem.W.findIn K (.ref c_PressError) "__getattr__" = some none)
 (zcl_PressError:PySem.W.findIn K (.ref c_PressError) "__class__" = some (some (.builtin "object.__class__")))
 (zob_PressError:PySem.W.mroIn K c_PressError (.type "object")=some true)
 (zbe_PressError:PySem.W.mroIn K c_PressError (.type "BaseException")=some true)
 (i_NoBits_NoPacket:PySem.W.kitOne K (.ref c_NoBits) (.ref c_NoPacket)=some false)
 (i_NoFraction_NoPacket:PySem.W.kitOne K (.ref c_NoFraction) (.ref c_NoPacket)=some false)
 (i_NoFrame_NoPacket:PySem.W.kitOne K (.ref c_NoFrame) (.ref c_NoPacket)=some false)
 (i_NoPacket_NoPacket:PySem.W.kitOne K (.ref c_NoPacket) (.ref c_NoPacket)=some true)
 (i_NoText_NoPacket:PySem.W.kitOne K (.ref c_NoText) (.ref c_NoPacket)=some false)
 (i_NoBits_ValueError:PySem.W.kitOne K (.ref c_NoBits) (.type "ValueError")=some true)
 (i_NoFraction_ValueError:PySem.W.kitOne K (.ref c_NoFraction) (.type "ValueError")=some true)
 (i_NoFrame_ValueError:PySem.W.kitOne K (.ref c_NoFrame) (.type "ValueError")=some true)
 (i_NoPacket_ValueError:PySem.W.kitOne K (.ref c_NoPacket) (.type "ValueError")=some true)
 (i_NoText_ValueError:PySem.W.kitOne K (.ref c_NoText) (.type "ValueError")=some true)
 (it_L_refused_NoBits_0:PySem.W.kitAny K (.ref c_NoBits) [.ref c_NoBits,.ref c_NoFrame,.ref c_NoNumber,.ref c_NoPress,.ref c_NoRow,.ref c_NoSign,.ref c_NoText]=some true)
 (it_L_refused_NoFraction_0:PySem.W.kitAny K (.ref c_NoFraction) [.ref c_NoBits,.ref c_NoFrame,.ref c_NoNumber,.ref c_NoPress,.ref c_NoRow,.ref c_NoSign,.ref c_NoText]=some false)
 (it_L_refused_NoFrame_0:PySem.W.kitAny K (.ref c_NoFrame) [.ref c_NoBits,.ref c_NoFrame,.ref c_NoNumber,.ref c_NoPress,.ref c_NoRow,.ref c_NoSign,.ref c_NoText]=some true)
 (it_L_refused_NoPacket_0:PySem.W.kitAny K (.ref c_NoPacket) [.ref c_NoBits,.ref c_NoFrame,.ref c_NoNumber,.ref c_NoPress,.ref c_NoRow,.ref c_NoSign,.ref c_NoText]=some false)
 (it_L_refused_NoText_0:PySem.W.kitAny K (.ref c_NoText) [.ref c_NoBits,.ref c_NoFrame,.ref c_NoNumber,.ref c_NoPress,.ref c_NoRow,.ref c_NoSign,.ref c_NoText]=some true)
 (u_NoBits_PressError:PySem.W.mroIn K c_NoBits (.ref c_PressError)=some true)
 (u_NoFraction_PressError:PySem.W.mroIn K c_NoFraction (.ref c_PressError)=some true)
 (u_NoFrame_PressError:PySem.W.mroIn K c_NoFrame (.ref c_PressError)=some true)
 (u_NoPacket_PressError:PySem.W.mroIn K c_NoPacket (.ref c_PressError)=some true)
 (u_NoText_PressError:PySem.W.mroIn K c_NoText (.ref c_PressError)=some true)
 (u_NoPacket_NoPacket:PySem.W.mroIn K c_NoPacket (.ref c_NoPacket)=some true)
 : ∃ t,Txt K mg t:=by
 have F_span:=fund_mk (x := "span") (qual := "span") (st:=s_span) l_span o_span k_span
 have F_Qbq:=fund_mk (x := "text_at") (qual := "text_at") (st:=s_Qbq) l_text_at o_text_at k_text_at
 have F_Qcc:=fund_mk (x := "press") (qual := "press") (st:=s_Qcc) l_press o_press k_press
 exact ⟨⟨_,_,_,_,_,_,_,_,_,_,_,_,_,_,_,_,_,_,_,_,_,_,_,_,_,_,_,_,_,_,_,_,_,_,_,_,_,_,_,_,_,_,_,_,_,_,_,_,_,_,_,_,_,_,_,_,_,_,_,_,_,_,_,_,_,_,_,_,_,_,_,_,_,_,_,_,_,_,_,_,_,_,_,_,_,_,_,_,_,_,_,_,_,_,_,_,_,_,_,_,_,_,_,_,_,_,_,_,_,_,_,_,_,_,_,_,_,_,_,_,_,_,_,_,_,_,_,_,_,_,_,_,_,_,_,_,_,_,_,_,_,_,_,_,_,_,_,_,_,_,_,_,_,_,_,_⟩,⟨
  f_Qbc.1,b1 f_Qbc.1 λ _ _ _ _ _ _ _=>rfl,PySem.W.mg_of X G f_Qbc.2,
  f_Qm.1,b1 f_Qm.1 λ _ _ _ _ _ _ _=>rfl,PySem.W.mg_of X G f_Qm.2,
  f_Qbj.1,b1 f_Qbj.1 λ _ _ _ _ _ _ _=>rfl,PySem.W.mg_of X G f_Qbj.2,
  f_Qbk.1,b1 f_Qbk.1 λ _ _ _ _ _ _ _=>rfl,PySem.W.mg_of X G f_Qbk.2,
  f_Qn.1,b1 f_Qn.1 λ _ _ _ _ _ _ _=>rfl,PySem.W.mg_of X G f_Qn.2,
  f_Qbd.1,b1 f_Qbd.1 λ _ _ _ _ _ _ _=>rfl,PySem.W.mg_of X G f_Qbd.2,
  f_Qt.1,b2 f_Qt.1 λ _ _ _ _ _ _ _ _=>rfl,PySem.W.mg_of X G f_Qt.2,
  f_Qbl.1,b2 f_Qbl.1 λ _ _ _ _ _ _ _ _=>rfl,PySem.W.mg_of X G f_Qbl.2,
  f_Qb.1,b2 f_Qb.1 λ _ _ _ _ _ _ _ _=>rfl,PySem.W.mg_of X G f_Qb.2,
  f_Qbe.1,b2 f_Qbe.1 λ _ _ _ _ _ _ _ _=>rfl,PySem.W.mg_of X G f_Qbe.2,
  f_plus.1,b2 f_plus.1 λ _ _ _ _ _ _ _ _=>rfl,PySem.W.mg_of X G f_plus.2,
  f_Qby.1,b2 f_Qby.1 λ _ _ _ _ _ _ _ _=>rfl,PySem.W.mg_of X G f_Qby.2,
  f_half.1,b1 f_half.1 λ _ _ _ _ _ _ _=>rfl,PySem.W.mg_of X G f_half.2,
  f_over.1,b2 f_over.1 λ _ _ _ _ _ _ _ _=>rfl,PySem.W.mg_of X G f_over.2,
  f_Qbm.1,b1 f_Qbm.1 λ _ _ _ _ _ _ _=>rfl,PySem.W.mg_of X G f_Qbm.2,
  f_Qbz.1,b2 f_Qbz.1 λ _ _ _ _ _ _ _ _=>rfl,PySem.W.mg_of X G f_Qbz.2,
  f_Qbn.1,b1 f_Qbn.1 λ _ _ _ _ _ _ _=>rfl,PySem.W.mg_of X G f_Qbn.2,
  f_Qe.1,b1 f_Qe.1 λ _ _ _ _ _ _ _=>rfl,PySem.W.mg_of X G f_Qe.2,
  f_Qi.1,b2 f_Qi.1 λ _ _ _ _ _ _ _ _=>rfl,PySem.W.mg_of X G f_Qi.2,
  f_Qbo.1,b1 f_Qbo.1 λ _ _ _ _ _ _ _=>rfl,PySem.W.mg_of X G f_Qbo.2,
  f_Qo.1,b2 f_Qo.1 λ _ _ _ _ _ _ _ _=>rfl,PySem.W.mg_of X G f_Qo.2,
  f_Qbp.1,b2 f_Qbp.1 λ _ _ _ _ _ _ _ _=>rfl,PySem.W.mg_of X G f_Qbp.2,
  f_Qv.1,b3 f_Qv.1 λ _ _ _ _ _ _ _ _ _=>rfl,PySem.W.mg_of X G f_Qv.2,
  f_Qw.1,b1 f_Qw.1 λ _ _ _ _ _ _ _=>rfl,PySem.W.mg_of X G f_Qw.2,
  f_Qca.1,b2 f_Qca.1 λ _ _ _ _ _ _ _ _=>rfl,PySem.W.mg_of X G f_Qca.2,
  f_Qbw.1,b2 f_Qbw.1 λ _ _ _ _ _ _ _ _=>rfl,PySem.W.mg_of X G f_Qbw.2,
  f_Qcb.1,b2 f_Qcb.1 λ _ _ _ _ _ _ _ _=>rfl,PySem.W.mg_of X G f_Qcb.2,
  f_Qj.1,b2 f_Qj.1 λ _ _ _ _ _ _ _ _=>rfl,PySem.W.mg_of X G f_Qj.2,
  F_span,(F_span.binds ld_span λ _ _ _ _ _ _ us hl=>match us,hl with | [_,_,_],_=>(by first | exact .inr rfl | exact .inl ⟨_,rfl,rfl⟩)),(F_span.binds ld_span λ _ _ _ _ _ _ us hl=>by rcases us with _ | ⟨_,_ | ⟨_,_ | ⟨_,_⟩⟩⟩<;>first | exact .inl ⟨_,rfl,rfl⟩ | (exfalso; simp at hl; done) | (exfalso; simp at hl; omega)),PySem.W.mg_of X G n_span,
  f_Qx.1,b3 f_Qx.1 λ _ _ _ _ _ _ _ _ _=>rfl,PySem.W.mg_of X G f_Qx.2,
  F_Qbq,(F_Qbq.binds ld_Qbq λ _ _ _ _ _ _ us hl=>match us,hl with | [_,_,_,_],_=>(by first | exact .inr rfl | exact .inl ⟨_,rfl,rfl⟩)),(F_Qbq.binds ld_Qbq λ _ _ _ _ _ _ us hl=>by rcases us with _ | ⟨_,_ | ⟨_,_ | ⟨_,_ | ⟨_,_⟩⟩⟩⟩<;>first | exact .inl ⟨_,rfl,rfl⟩ | (exfalso; simp at hl; done) | (exfalso; simp at hl; omega)),PySem.W.mg_of X G n_text_at,
  F_Qcc,(F_Qcc.binds ld_Qcc λ _ _ _ _ _ _ us hl=>match us,hl with | [_,_,_],_=>(by first | exact .inr rfl | exact .inl ⟨_,rfl,rfl⟩)),(F_Qcc.binds ld_Qcc λ _ _ _ _ _ _ us hl=>by rcases us with _ | ⟨_,_ | ⟨_,_ | ⟨_,_⟩⟩⟩<;>first | exact .inl ⟨_,rfl,rfl⟩ | (exfalso; simp at hl; done) | (exfalso; simp at hl; omega)),PySem.W.mg_of X G n_press,
  f_Qbr.1,b1 f_Qbr.1 λ _ _ _ _ _ _ _=>rfl,PySem.W.mg_of X G f_Qbr.2,
  f_Qbf.1,b1 f_Qbf.1 λ _ _ _ _ _ _ _=>rfl,PySem.W.mg_of X G f_Qbf.2,
  f_wrap.1,b2 f_wrap.1 λ _ _ _ _ _ _ _ _=>rfl,PySem.W.mg_of X G f_wrap.2,
  f_Qy.1,b2 f_Qy.1 λ _ _ _ _ _ _ _ _=>rfl,PySem.W.mg_of X G f_Qy.2,
  f_Qf.1,b2 f_Qf.1 λ _ _ _ _ _ _ _ _=>rfl,PySem.W.mg_of X G f_Qf.2,
  f_Qd.1,b1 f_Qd.1 λ _ _ _ _ _ _ _=>rfl,PySem.W.mg_of X G f_Qd.2,
  f_Qp.1,b1 f_Qp.1 λ _ _ _ _ _ _ _=>rfl,PySem.W.mg_of X G f_Qp.2,
  f_Qk.1,b1 f_Qk.1 λ _ _ _ _ _ _ _=>rfl,PySem.W.mg_of X G f_Qk.2,
  f_Qbx.1,b1 f_Qbx.1 λ _ _ _ _ _ _ _=>rfl,PySem.W.mg_of X G f_Qbx.2,
  f_Qz.1,b2 f_Qz.1 λ _ _ _ _ _ _ _ _=>rfl,PySem.W.mg_of X G f_Qz.2,
  f_Qbs.1,b0 f_Qbs.1 λ _ _ _ _ _ _=>rfl,PySem.W.mg_of X G f_Qbs.2,
  f_Qbt.1,b1 f_Qbt.1 λ _ _ _ _ _ _ _=>rfl,PySem.W.mg_of X G f_Qbt.2,
  f_Qbu.1,b1 f_Qbu.1 λ _ _ _ _ _ _ _=>rfl,PySem.W.mg_of X G f_Qbu.2,
  f_Qba.1,b1 f_Qba.1 λ _ _ _ _ _ _ _=>rfl,PySem.W.mg_of X G f_Qba.2,
  f_Qu.1,b1 f_Qu.1 λ _ _ _ _ _ _ _=>rfl,PySem.W.mg_of X G f_Qu.2,
  f_Qbg.1,b1 f_Qbg.1 λ _ _ _ _ _ _ _=>rfl,PySem.W.mg_of X G f_Qbg.2,
  f_Qbv.1,b2 f_Qbv.1 λ _ _ _ _ _ _ _ _=>rfl,PySem.W.mg_of X G f_Qbv.2,
  f_Qq.1,b2 f_Qq.1 λ _ _ _ _ _ _ _ _=>rfl,PySem.W.mg_of X G f_Qq.2,
  f_Qbh.1,b2 f_Qbh.1 λ _ _ _ _ _ _ _ _=>rfl,PySem.W.mg_of X G f_Qbh.2,
  f_Qbi.1,b2 f_Qbi.1 λ _ _ _ _ _ _ _ _=>rfl,PySem.W.mg_of X G f_Qbi.2,
  f_Qbb.1,b2 f_Qbb.1 λ _ _ _ _ _ _ _ _=>rfl,PySem.W.mg_of X G f_Qbb.2,
  f_law.1,b1 f_law.1 λ _ _ _ _ _ _ _=>rfl,PySem.W.mg_of X G f_law.2,
  f_Qr.1,b2 f_Qr.1 λ _ _ _ _ _ _ _ _=>rfl,⟨mk_Growth,f_Qr.2.1,f_Qr.2.2,kc_Growth⟩,
  f_Ql.1,b2 f_Ql.1 λ _ _ _ _ _ _ _ _=>rfl,⟨f_Ql.2.1,f_Ql.2.2,f_Ql.1.kp⟩,
  f_Qc.1,b3 f_Qc.1 λ _ _ _ _ _ _ _ _ _=>rfl,⟨f_Qc.2.1,f_Qc.2.2,f_Qc.1.kp⟩,
  f_Qg.1,b2 f_Qg.1 λ _ _ _ _ _ _ _ _=>rfl,⟨f_Qg.2.1,f_Qg.2.2,f_Qg.1.kp⟩,
  f_Qh.1,b1 f_Qh.1 λ _ _ _ _ _ _ _=>rfl,⟨f_Qh.2.1,f_Qh.2.2,f_Qh.1.kp⟩,
  f_Qa.1,b2 f_Qa.1 λ _ _ _ _ _ _ _ _=>rfl,⟨f_Qa.2.1,f_Qa.2.2,f_Qa.1.kp⟩,
  f_Qs.1,b2 f_Qs.1 λ _ _ _ _ _ _ _ _=>rfl,⟨f_Qs.2.1,f_Qs.2.2,f_Qs.1.kp⟩,
  ⟨pg_Growth,hd_Growth,po_Growth,sa_Growth⟩,
  na_Growth_frame,
  na_Growth_replaced,
  na_Growth_table,
  na_Growth_text,
  PySem.W.mg_none_of X G n_ValueError,
  PySem.W.mg_none_of X G n_abs,
  PySem.W.mg_none_of X G n_all,
  PySem.W.mg_none_of X G n_bool,
  PySem.W.mg_none_of X G n_enumerate,
  PySem.W.mg_none_of X G n_int,
  PySem.W.mg_none_of X G n_isinstance,
  PySem.W.mg_none_of X G n_len,
  PySem.W.mg_none_of X G n_list,
  PySem.W.mg_none_of X G n_max,
  PySem.W.mg_none_of X G n_ord,
  PySem.W.mg_none_of X G n_range,
  PySem.W.mg_none_of X G n_reversed,
  PySem.W.mg_none_of X G n_set,
  PySem.W.mg_none_of X G n_str,
  PySem.W.mg_none_of X G n_sum,
  PySem.W.mg_none_of X G n_tuple,
  PySem.W.mg_of X G n_PressError,
  PySem.W.mg_of X G n_NoFraction,
  PySem.W.mg_of X G n_NoFrame,
  PySem.W.mg_of X G n_NoText,
  PySem.W.mg_of X G n_NoSign,
  PySem.W.mg_of X G n_NoBits,
  PySem.W.mg_of X G n_NoPress,
  PySem.W.mg_of X G n_NoPacket,
  PySem.W.mg_of X G n_NoRow,
  PySem.W.mg_of X G n_NoNumber,
  PySem.W.mg_of X G n_Growth,
  PySem.W.mg_of X G n_PER_CENT,
  PySem.W.mg_of X G n_FEWEST_LETTERS,
  PySem.W.mg_of X G n_MOST_LETTERS,
  PySem.W.mg_of X G n_GREATEST_DEPTH,
  PySem.W.mg_of X G n_FIGURES,
  PySem.W.mg_of X G n_COUNTS,
  PySem.W.mg_of X G n_WORTH,
  PySem.W.mg_of X G n_WEIGHT,
  PySem.W.mg_of X G n_MOST_SIGNS,
  PySem.W.mg_of X G n_GROUP_SIGNS,
  PySem.W.mg_of X G n_GROUP_SIZE,
  PySem.W.mg_of X G n_CHECK_SIGNS,
  PySem.W.mg_of X G n_CHECK_SIZE,
  PySem.W.mg_of X G n_CHECK_DIVISOR,
  PySem.W.mg_of X G n_LENGTH_SIZE,
  PySem.W.mg_of X G n_NOUGHT,⟨_,_,_,lk_NOUGHT,rfl,rfl,(by show 2<=sizeLine; decide),(.cons ⟨_,rfl⟩ (.cons ⟨_,rfl⟩ .nil))⟩,
  PySem.W.mg_of X G n_ONE,⟨_,_,_,lk_ONE,rfl,rfl,(by show 2<=sizeLine; decide),(.cons ⟨_,rfl⟩ (.cons ⟨_,rfl⟩ .nil))⟩,
  x_NoBits,⟨zga_NoBits,zgt_NoBits,zcl_NoBits,zob_NoBits,zbe_NoBits,cls_of_mro zob_NoBits⟩,
  x_NoFraction,⟨zga_NoFraction,zgt_NoFraction,zcl_NoFraction,zob_NoFraction,zbe_NoFraction,cls_of_mro zob_NoFraction⟩,
  x_NoFrame,⟨zga_NoFrame,zgt_NoFrame,zcl_NoFrame,zob_NoFrame,zbe_NoFrame,cls_of_mro zob_NoFrame⟩,
  x_NoPacket,⟨zga_NoPacket,zgt_NoPacket,zcl_NoPacket,zob_NoPacket,zbe_NoPacket,cls_of_mro zob_NoPacket⟩,
  x_NoText,⟨zga_NoText,zgt_NoText,zcl_NoText,zob_NoText,zbe_NoText,cls_of_mro zob_NoText⟩,
  x_PressError,⟨zga_PressError,zgt_PressError,zcl_PressError,zob_PressError,zbe_PressError,cls_of_mro zob_PressError⟩,
  i_NoBits_NoPacket,
  i_NoFraction_NoPacket,
  i_NoFrame_NoPacket,
  i_NoPacket_NoPacket,
  i_NoText_NoPacket,
  i_NoBits_ValueError,
  i_NoFraction_ValueError,
  i_NoFrame_ValueError,
  i_NoPacket_ValueError,
  i_NoText_ValueError,
  it_L_refused_NoBits_0,
  it_L_refused_NoFraction_0,
  it_L_refused_NoFrame_0,
  it_L_refused_NoPacket_0,
  it_L_refused_NoText_0,
  u_NoBits_PressError,
  u_NoFraction_PressError,
  u_NoFrame_PressError,
  u_NoPacket_PressError,
  u_NoText_PressError,
  u_NoPacket_NoPacket,
  bl0 f_law.1 λ _ _ _ _ _ _ _=>rfl⟩⟩
section
variable {P:Program} {w:World} {K:PySem.W.Frag} {mg:Str->Option Value} {base:Heap} {t:Adr}
seal L2.PE L2.PA L2.PS L2.PSs L2.PT L2.PW L2.PG L2.PGs L2.PI L2.PIfs L2.PF L2.PFs L2.PO
local macro_rules | `(tactic| array_mem_dec)=>`(tactic| ((first | show SqL ‹PySem.W.Frag› _ _ _ | show SqT ‹PySem.W.Frag› _ _ _ | skip); first | with_reducible assumption | with_reducible exact upd_same | with_reducible exact SqT.of upd_same | with_reducible exact SqL.of upd_same | with_reducible exact Same.refl _ | (with_reducible apply new_at; (focus with_reducible assumption); (focus array_mem_dec)) | (with_reducible apply new_tup; (focus with_reducible assumption); (focus array_mem_dec)) | (with_reducible apply new_lst; (focus with_reducible assumption); (focus array_mem_dec)) | (with_reducible apply new_same; (focus with_reducible assumption); (focus array_mem_dec)) | (with_reducible apply ne_at; (focus with_reducible assumption); (focus array_mem_dec)) | (with_reducible apply ne_tup; (focus with_reducible assumption); (focus array_mem_dec)) | (with_reducible apply ne_lst; (focus with_reducible assumption); (focus array_mem_dec)) | (with_reducible apply over_same; (focus with_reducible assumption); (focus array_mem_dec)) | (with_reducible apply same_at; (focus with_reducible assumption); (focus array_mem_dec)) | (with_reducible apply same_tup; (focus with_reducible assumption); (focus array_mem_dec)) | (with_reducible apply same_lst; (focus with_reducible assumption); (focus array_mem_dec)) | (with_reducible apply SqT.of; (focus array_mem_dec)) | (with_reducible apply SqL.of; (focus array_mem_dec))))
local macro_rules | `(tactic| array_get_dec)=>`(tactic| first
 | refine ⟨_,rfl,?_⟩
 | refine ⟨_,_,rfl,rfl,cdivK (by decide) (by decide),?_⟩
 | refine ⟨_,_,rfl,rfl,(by show (0:Int)<_; decide),?_⟩
 | refine ⟨_,_,rfl,rfl,⟨by decide,by decide,by decide⟩,?_⟩
 | refine Or.inl ⟨_,_,rfl,rfl,mulL (by decide) (by decide),?_⟩
 | refine Or.inl ⟨_,_,rfl,rfl,mulR (by decide) (by decide),?_⟩
 | refine ⟨_,_,rfl,rfl,?_⟩
 | refine Or.inl ⟨_,_,rfl,rfl,?_⟩
 | refine Or.inl ⟨rfl,?_⟩
 | refine Or.inr (Or.inl ⟨_,_,_,_,rfl,rfl,(by array_mem_dec),(by rfl),?_⟩)
 | refine Or.inl ⟨_,_,_,_,rfl,rfl,(by array_mem_dec),(by rfl),?_⟩
 | refine ⟨_,_,rfl,Or.inr ⟨_,(by array_mem_dec),rfl⟩,?_⟩
 | refine ⟨_,_,rfl,Or.inl ⟨_,(by array_mem_dec),rfl⟩,?_⟩
 | refine ⟨_,_,rfl,lenvS (by first | assumption | (rw [sizeLine_eq]; omega)),?_⟩
 | refine Or.inr (Or.inl ⟨_,_,rfl,rfl,(by simp only [List.length_append,List.length_cons,List.length_nil,List.length_take,List.length_drop,sizeLine_eq]; omega),?_⟩)
 | refine Or.inr ⟨_,_,rfl,rfl,(by simp only [List.length_append,List.length_cons,List.length_nil,List.length_take,List.length_drop,sizeLine_eq]; omega),?_⟩
 | refine ⟨_,_,rfl,?_⟩
 | refine ⟨_,_,_,rfl,?_⟩)
def spWhole (K:PySem.W.Frag):Sp:=λ vs H Q _=>∃ x ty b1 b2,vs=[x]/\TyOf K H x ty/\PySem.W.kitOne K ty (.type "int")=some b1/\PySem.W.kitOne K ty (.type "bool")=some b2/\Q (.bl (b1 && !b2)) H
theorem ok_Qbc (T:Txt K mg t):FnOk P w K mg base (CX1 P w) 1 t.a_Qbc t.fd_Qbc ["thing"] (spWhole K):=by
 refine T.F_Qbc.okn (k:=0) sc_Qbc (λ vs H Q E h=>?_) (λ cdv A outer s H vs Q E hr h=>?_)
 ·obtain ⟨x,ty,b1,b2,rfl,_⟩:=h; rfl
 obtain ⟨x,ty,b1,b2,rfl,hty,e1,e2,q⟩:=h
 refine ⟨_,(pss_one (ps_ret (pe_and (pe_callB isiAny rfl T.m_isinstance bt_isinstance (PAs.h (pas_cons (pv 0) (pas_cons (pe_bltn (v:=.ty "int") rfl T.m_int bt_int rfl) pas_nil)))) (pe_one (pe_not (pe_callB isiAny rfl T.m_isinstance bt_isinstance (PAs.h (pas_cons (pv 0) (pas_cons (pe_bltn (v:=.ty "bool") rfl T.m_bool bt_bool rfl) pas_nil))))))))),?_⟩
 refine ⟨_,rfl,.inl ⟨x,ty,_,b1,rfl,hty,e1,b1,rfl,?_⟩⟩
 cases b1 with
 | false=>exact iteF q
 | true=>exact iteT ⟨_,rfl,.inl ⟨x,ty,_,b2,rfl,hty,e2,b2,rfl,q⟩⟩
def spGcd:Sp:=λ vs H Q _=>∃ a b:Int,vs=[.int a,.int b]/\0<=a/\0<=b/\Q (.int (gcdI a b)) H
theorem neI {b:Int} (h:b ≠ 0):(!decide (V.int b=V.int 0))=true:=by
 have:¬ V.int b=V.int 0:=λ z=>h (V.int.inj z)
 rw [decide_eq_false this]; rfl
theorem ok_Qb (T:Txt K mg t):FnOk P w K mg base (CX1 P w) 1 t.a_Qb t.fd_Qb ["one", "other"] spGcd:=by
 refine T.F_Qb.okn (k:=0) sc_Qb (λ vs H Q E h=>?_) (λ cdv A outer s H vs Q E hr h=>?_)
 ·obtain ⟨a,b,rfl,_⟩:=h; rfl
 obtain ⟨a,b,rfl,ha,hb,q⟩:=h
 refine ⟨_,(pss_cons (ps_while PassesOwn.never (pt_cmpR (oNeN (hr.units0)) (pv 1) pe_int (nomark _)) (pss_cons (ps_set (i:=2) sc_Qb.nd rfl (Or.inl rfl) (pe_op op_mod (pv 0) (pv 1)))
  (pss_cons (ps_set (i:=0) sc_Qb.nd rfl (Or.inl rfl) (pv 1))
  (pss_one (ps_set (i:=1) sc_Qb.nd rfl (Or.inl rfl) (pv 2))))))
  (pss_one (ps_ret (pv 0)))),?_⟩
 refine while_by (λ σ H'=>∃ a' b' r,σ=[some (.int a'),some (.int b'),r]/\0<=a'/\0<=b'/\gcdI a' b'=gcdI a b/\H'=H) (λ σ _=>match σ with | [_,some (.int b'),_]=>b'.natAbs | _=>0) ⟨a,b,none,rfl,ha,hb,rfl,rfl⟩ ?_ ?_
 ·rintro _ _ ⟨a',b',r,rfl,h1,h2,h3,rfl⟩
  refine ⟨_,rfl,.inl ⟨rfl,_,rfl,?_⟩⟩
  by_cases z:b'=0
  ·subst z
   refine iteF ⟨_,rfl,?_⟩
   rw [gcdI_zero a' h1] at h3
   rw [h3]; exact q
  ·rw [neI z]
   refine iteT ⟨_,rfl,_,rfl,_,_,rfl,rfl,by omega,?_⟩
   refine ⟨_,rfl,_,rfl,⟨b',a' % b',_,rfl,h2,Int.emod_nonneg _ z,?_,rfl⟩,?_⟩
   ·rw [gcdI_step h1 (by omega)]; exact h3
   ·show (a' % b').natAbs<b'.natAbs
    have:=Int.emod_nonneg a' z
    have:=Int.emod_lt_of_pos a' (show 0<b' by omega)
    omega
 ·rintro σ1 H1 Q1 Q2 hq ⟨v,e,z⟩
  refine ⟨v,e,?_⟩
  rcases z with ⟨s,k,e2,z⟩ | ⟨a1,b1,xs,ys,h1,h2,h3,h4,h5,h6,k,hk,z⟩ | ⟨a1,b1,xs,ys,h1,h2,h3,h4,h5,h6,k,hk,z⟩
  ·exact .inl ⟨s,k,e2,hq _ _ z⟩
  ·exact .inr (.inl ⟨a1,b1,xs,ys,h1,h2,h3,h4,h5,h6,k,hk,hq _ _ z⟩)
  ·exact .inr (.inr ⟨a1,b1,xs,ys,h1,h2,h3,h4,h5,h6,k,hk,hq _ _ z⟩)
def FrOkQ (a b:Int):Prop:=b.natAbs<2^8999\/(a.natAbs<2^13499/\b.natAbs<2^13499)
def spFrQ (C:Addr):Sp:=λ vs H Q E=>∃ a b:Int,vs=[.int a,.int b]/\(b=0->E (.ref C) none H)/\(b ≠ 0->FrOkQ a b/\∀ p,H p=none->Q (.ref p) (upd H p (.tup [.int (num a b),.int (den a b)])))
def spFr (C:Addr):Sp:=λ vs H Q E=>∃ a b:Int,vs=[.int a,.int b]/\(b=0->E (.ref C) none H)/\(b ≠ 0->b.natAbs<2^8999/\∀ p,H p=none->Q (.ref p) (upd H p (.tup [.int (num a b),.int (den a b)])))
theorem ok_fractionQ (T:Txt K mg t):FnOk P w K mg base (CX1 P w) 2 t.a_Qbe t.fd_Qbe ["top", "bottom"] (spFrQ t.c_NoFraction):=by
 refine T.F_Qbe.okx (k:=1) sc_Qbe (λ vs H Q E h=>?_) (λ cdv A outer s H vs Q E hr h=>?_)
 ·obtain ⟨a,b,rfl,_⟩:=h; rfl
 obtain ⟨a,b,rfl,h0,h1⟩:=h
 have G_Qbc:=@ok_Qbc P w K mg base t T
 have G_Qb:=@ok_Qb P w K mg base t T
 refine ⟨_,(pss_cons (ps_if (PW.pt (pw_or (pt_not (pt_val (pe_call G_Qbc hr rfl T.m_Qbc T.F_Qbc.kp T.b_Qbc .nil pass1 (pa_cons (pv 0) pa_nil)))) (pw_or1 (pt_not (pt_val (pe_call G_Qbc hr rfl T.m_Qbc T.F_Qbc.kp T.b_Qbc .nil pass1 (pa_cons (pv 1) pa_nil))))))) (pss_one (ps_raise raises1 rfl rfl T.m_NoFraction T.x_NoFraction PySem.F.excBase_ValueError (pa_cons pe_str pa_nil))) pss_nil)
  (pss_cons (ps_if (pt_cmpR (oEqA (hr.units0)) (pv 1) pe_int (nomark _)) (pss_one (ps_raise raises1 rfl rfl T.m_NoFraction T.x_NoFraction PySem.F.excBase_ValueError (pa_cons pe_str pa_nil))) pss_nil)
  (pss_cons (ps_set (i:=2) sc_Qbe.nd rfl (Or.inl rfl) (pe_call G_Qb hr rfl T.m_Qb T.F_Qb.kp T.b_Qb .nil pass1 (PAs.h (pas_cons (pe_callB call_abs rfl T.m_abs bt_abs (pa_cons (pv 0) pa_nil)) (pas_cons (pe_callB call_abs rfl T.m_abs bt_abs (pa_cons (pv 1) pa_nil)) pas_nil)))))
  (pss_cons (ps_if (pt_cmpR oLt (pv 1) pe_int (nomark _)) (pss_one (ps_set (i:=2) sc_Qbe.nd rfl (Or.inl rfl) (pe_un un_neg (pv 2)))) pss_nil)
  (pss_one (ps_ret (pe_tup (PAs.h (pas_cons (pe_op op_fdivQ (pv 0) (pv 2)) (pas_cons (pe_op op_fdivQ (pv 1) (pv 2)) pas_nil)))))))))),?_⟩
 refine ⟨_,rfl,⟨_,_,true,false,rfl,.int _,kit_same K _,kit_int_bool K,true,rfl,iteF ⟨_,rfl,⟨_,_,true,false,rfl,.int _,kit_same K _,kit_int_bool K,true,rfl,iteF ?_⟩⟩⟩⟩
 refine ⟨_,rfl,.inl ⟨rfl,_,rfl,?_⟩⟩
 by_cases z:b=0
 ·subst z
  exact iteT ⟨by decide,h0 rfl⟩
 obtain ⟨hb,q⟩:=h1 z
 have gp:=gcdI_pos (a:=a) z
 have gl:=gcdI_le (a:=a) z
 rw [decide_eq_false (show ¬ V.int b=V.int 0 from λ e=>z (V.int.inj e))]
 refine iteF ⟨_,rfl,_,rfl,_,rfl,_,rfl,_,_,rfl,by split<;>omega,by split<;>omega,?_⟩
 rw [gcdI_abs]
 refine ⟨_,rfl,.inl ⟨_,_,rfl,rfl,_,rfl,?_⟩⟩
 have last:∀ d:Int,d=sgn b*gcdI a b->(tRet (tTup (tCons (tOp (rI CDivQ λ i j=>V.int (i.fdiv j)) (tVar 0) (tVar 2)) (tCons (tOp (rI CDivQ λ i j=>V.int (i.fdiv j)) (tVar 1) (tVar 2)) tNil)))) { nx:=λ _ H'=>Q .non H',rt:=Q } [some (.int a),some (.int b),some (.int d)] H:=by
  intro d hd
  have ed:d.natAbs=(gcdI a b).natAbs:=by
   rw [hd]; unfold sgn; split<;>omega
  have d0:d ≠ 0:=by omega
  have dn:CDivQ a d/\CDivQ b d:=by
   rcases hb with hb | hb
   ·have:=Nat.lt_of_le_of_lt gl hb
    rw [← ed] at this
    exact ⟨⟨d0,.inl this⟩,⟨d0,.inl this⟩⟩
   ·exact ⟨⟨d0,.inr hb.1⟩,⟨d0,.inr hb.2⟩⟩
  refine ⟨_,rfl,_,rfl,_,_,rfl,rfl,dn.1,_,rfl,_,rfl,_,_,rfl,rfl,dn.2,(by show 2<=sizeLine; decide),λ p hp=>?_⟩
  rw [hd]; exact q p hp
 by_cases y:b<0
 ·rw [decide_eq_true y]
  refine iteT ⟨_,rfl,_,rfl,?_⟩
  exact last _ (by unfold sgn; rw [if_pos y]; omega)
 ·rw [decide_eq_false y]
  refine iteF ?_
  exact last _ (by unfold sgn; rw [if_neg y]; omega)
theorem ok_Qbe (T:Txt K mg t):FnOk P w K mg base (CX1 P w) 2 t.a_Qbe t.fd_Qbe ["top", "bottom"] (spFr t.c_NoFraction):=(ok_fractionQ T).imp λ _ _ _ _ ⟨a,b,e,h0,h1⟩=>⟨a,b,e,h0,λ z=>⟨.inl (h1 z).1,(h1 z).2⟩⟩
def cellN (ns:List Int) (k:Int):Int:=ns.getD k.toNat 0
theorem cellN_small {ns:List Int} (hb:∀ n ∈ ns,Small n) (k:Int):Small (cellN ns k):=by
 unfold cellN
 rw [List.getD_eq_getElem?_getD]
 cases h:ns[k.toNat]? with
 | none=>exact small_zero
 | some v=>exact hb v (List.mem_of_getElem? h)
def spCell (K:PySem.W.Frag):Sp:=λ vs H Q _=>∃ (a:Addr) (ns:List Int) (k:Int),vs=[.ref a,.int k]/\SqL K H a (ns.map V.int)/\0<=k/\Q (.int (cellN ns k)) H
theorem ok_Qz (T:Txt K mg t):FnOk P w K mg base (CX1 P w) 1 t.a_Qz t.fd_Qz ["script", "k"] (spCell K):=by
 refine T.F_Qz.okn (k:=0) sc_Qz (λ vs H Q E h=>?_) (λ cdv A outer s H vs Q E hr h=>?_)
 ·obtain ⟨a,ns,k,rfl,_⟩:=h; rfl
 obtain ⟨a,ns,k,rfl,hS,h0,q⟩:=h
 refine ⟨_,(pss_cons (ps_if (pt_cmpR oLt (pv 1) (pe_callB call_len rfl T.m_len bt_len (pa_cons (pv 0) pa_nil)) (nomark _)) (pss_one (ps_ret (pe_ix ixAny (pv 0) (pv 1) (λ _ _=>rfl)))) pss_nil)
  (pss_one (ps_ret pe_int))),?_⟩
 repeat array_get_dec
 refine if2 (λ c=>?_) (λ c=>?_)
 ·rw [List.length_map] at c
  have hk:k.toNat<ns.length:=by omega
  have e:atI (ns.map V.int) ((k.toNat:Nat):Int)=some (.int ns[k.toNat]):=atI_nat (by rw [List.getElem?_map,List.getElem?_eq_getElem hk]<;>rfl)
  rw [show ((k.toNat:Nat):Int)=k by omega] at e
  refine ⟨_,rfl,_,rfl,.inl ⟨_,_,_,_,rfl,rfl,hS,e,?_⟩⟩
  unfold cellN at q
  rw [List.getD_eq_getElem?_getD,List.getElem?_eq_getElem hk] at q; exact q
 ·rw [List.length_map] at c
  unfold cellN at q
  rw [List.getD_eq_getElem?_getD,List.getElem?_eq_none (by omega)] at q; exact q
def cutN (ns:List Int) (lo hi:Option Int):List Int:=(ns.drop (HT.sIx ns.length 0 lo)).take (HT.sIx ns.length ns.length hi-HT.sIx ns.length 0 lo)
theorem cut_ints (ns:List Int) (lo hi:Option Int):cutV (ns.map V.int) lo hi=(cutN ns lo hi).map V.int:=by
 unfold cutV cutN
 rw [List.length_map,List.map_take,List.map_drop]
theorem cut_mid (l:List Nat) {a b:Nat} (h1:a<=b) (h2:b<=l.length):cutL l (some (a:Int)) (some (b:Int))=(l.drop a).take (b-a):=by
 unfold cutL
 have e:∀ (k d:Nat),k<=l.length->HT.sIx l.length d (some (k:Int))=k:=λ k d hk=>by
  unfold HT.sIx
  simp only
  split<;>(try split)<;>omega
 rw [e a 0 (by omega),e b l.length h2]
theorem sign_at {l:List Nat} {i:Nat} {x:V} (h:(l.map λ c=>vt [c])[i]?=some x):∃ c,l[i]?=some c/\x=vt [c]:=by
 rw [List.getElem?_map] at h
 cases q:l[i]? with
 | none=>rw [q] at h; cases h
 | some c=>rw [q] at h; exact ⟨c,rfl,(Option.some.inj h).symm⟩
theorem ite2' {c A B:Prop} [Decidable c] (h2:¬ c->B) (h1:c->A):if c then A else B:=ite2 h1 h2
theorem with_rest {F G S:Int->Prop} (k:∀ n0,S n0->(∀ n,F n)->G n0) (r:∀ n,F n):∀ n0,S n0->G n0:=λ n0 h=>k n0 h r
theorem fdiv_small {c j:Int} (hj:0<j) (h:Small c):Small (c.fdiv j):=by
 refine h.le ?_
 rw [Int.fdiv_eq_ediv_of_nonneg _ (by omega)]
 exact Int.natAbs_ediv_le_natAbs ..
theorem small_bits {c:Int} (h:Small c):Builtin.Int.intBits c<=4000000:=Nat.le_trans h (by decide)
def signs:List Nat:=((List.range 95).map (·+32)).filter (· != 37)
theorem signs_len:signs.length=94:=by decide +kernel
theorem signs_nodup:signs.Nodup:=by decide +kernel
theorem signs_lt:∀ c ∈ signs,32<=c/\c<127/\c ≠ 37:=by decide +kernel
def spSigns:Sp:=λ vs H Q _=>vs=[]/\Q (vt signs) H
theorem ok_Qbs (T:Txt K mg t):FnOk P w K mg base (CX1 P w) 1 t.a_Qbs t.fd_Qbs [] spSigns:=by
 refine T.F_Qbs.okn (k:=0) sc_Qbs (λ vs H Q E h=>?_) (λ cdv A outer s H vs Q E hr h=>?_)
 ·obtain ⟨rfl,_⟩:=h; rfl
 obtain ⟨rfl,q⟩:=h
 refine ⟨_,(pss_cons (ps_set (i:=0) sc_Qbs.nd rfl (Or.inl rfl) pe_str)
  (pss_one (ps_ret (pe_op oAddN (pv 0) pe_str)))),?_⟩
 have e1:V.str (Str.ofString " !\"#$&'()*+,-./0123456789:;<=>?@ABCDEFGHIJKLMNOPQRSTUVWXYZ[\\]^_`")=vt (signs.take 64):=congrArg V.str (by decide +kernel)
 have e2:V.str (Str.ofString "abcdefghijklmnopqrstuvwxyz{|}~")=vt (signs.drop 64):=congrArg V.str (by decide +kernel)
 refine ⟨_,rfl,.inr (.inl ⟨_,_,e1,e2,by decide +kernel,?_⟩)⟩
 rw [List.take_append_drop]
 exact q
structure Drawn (k:Nat) (L S:List Nat):Prop where
 len:L.length=k
 all:(L++S).Perm signs
theorem Drawn.start:Drawn 0 [] signs:=⟨rfl,.refl _⟩
theorem Drawn.left {k:Nat} {L S:List Nat} (d:Drawn k L S):S.length+k=94:=by
 have:=d.all.length_eq
 rw [List.length_append,signs_len,d.len] at this
 omega
theorem Drawn.next {k:Nat} {L S:List Nat} (d:Drawn k L S) {j c:Nat} (h:S[j]?=some c):Drawn (k+1) (L++[c]) (S.take j++S.drop (j+1)):=by
 obtain ⟨hj,e⟩:=List.getElem?_eq_some_iff.mp h
 refine ⟨by rw [List.length_append,d.len]; rfl,?_⟩
 have p:(c::(S.take j++S.drop (j+1))).Perm S:=by
  have e2:S.take j++c::S.drop (j+1)=S:=by rw [← e,← List.drop_eq_getElem_cons hj,List.take_append_drop]
  conv=>rhs; rw [← e2]
  exact List.perm_middle.symm
 rw [List.append_assoc]
 exact (List.Perm.append_left L p).trans d.all
theorem Drawn.nodup {k:Nat} {L S:List Nat} (d:Drawn k L S):L.Nodup:=(List.nodup_append.mp (d.all.nodup_iff.mpr signs_nodup)).1
theorem Drawn.mem {k:Nat} {L S:List Nat} (d:Drawn k L S):∀ c ∈ L,c ∈ signs:=λ c hc=>d.all.mem_iff.mp (List.mem_append_left _ hc)
theorem ofString_nil:Str.ofString "" = tx []:=by decide +kernel
def spFrame:Sp:=λ vs H Q _=>∃ c:Int,vs=[.int c]/\Small c/\∀ L S (d:Int) p,2<=L.length->L.length<=6->Drawn L.length L S->0<=d->d<=6->H p=none->Q (.ref p) (upd H p (.tup [vt L,.int d]))
theorem ok_Qbt (T:Txt K mg t):FnOk P w K mg base (CX1 P w) 2 t.a_Qbt t.fd_Qbt ["cell"] spFrame:=by
 refine T.F_Qbt.okn (k:=1) sc_Qbt (λ vs H Q E h=>?_) (λ cdv A outer s H vs Q E hr h=>?_)
 ·obtain ⟨c,rfl,_⟩:=h; rfl
 obtain ⟨c,rfl,hs,q⟩:=h
 have G_Qbs:=@ok_Qbs P w K mg base t T
 refine ⟨_,(pss_cons (ps_set (i:=1) sc_Qbt.nd rfl (Or.inl rfl) (pe_call0 G_Qbs hr rfl T.m_Qbs T.F_Qbs.kp T.b_Qbs .nil pass1))
  (pss_cons (ps_set (i:=2) sc_Qbt.nd rfl (Or.inl rfl) (pe_op op_fdivL (pv 0) pe_int))
  (pss_cons (ps_if (pt_cmpR (oEqA (hr.units0)) (pe_op op_mod (pe_op op_fdivL (pv 0) pe_int) pe_int) pe_int (nomark _)) (pss_one (ps_set (i:=2) sc_Qbt.nd rfl (Or.inl rfl) (pe_op oAddN (pe_op oMulN (pv 2) (pe_op op_pow pe_int pe_int)) pe_int))) pss_nil)
  (pss_cons (ps_set (i:=3) sc_Qbt.nd rfl (Or.inl rfl) pe_str)
  (pss_cons (ps_for PassesOwn.never rfl (pi_range1 rfl T.m_range (pa_cons (pe_op oAddN pe_int (pe_op op_mod (pv 0) pe_int)) pa_nil)) (pg_name (i:=4) sc_Qbt.nd rfl (Or.inl rfl)) (pss_cons (ps_set (i:=5) sc_Qbt.nd rfl (Or.inl rfl) (pe_op op_mod (pv 2) (pe_callB call_len rfl T.m_len bt_len (pa_cons (pv 1) pa_nil))))
  (pss_cons (ps_set (i:=2) sc_Qbt.nd rfl (Or.inl rfl) (pe_op op_fdivL (pv 2) (pe_callB call_len rfl T.m_len bt_len (pa_cons (pv 1) pa_nil))))
  (pss_cons (ps_set (i:=3) sc_Qbt.nd rfl (Or.inl rfl) (pe_op oAddN (pv 3) (pe_ix ixAny (pv 1) (pv 5) (λ _ _=>rfl))))
  (pss_one (ps_set (i:=1) sc_Qbt.nd rfl (Or.inl rfl) (pe_op oAddN (pe_slice slAny (pv 1) po_none (po_some (pv 5))) (pe_slice slAny (pv 1) (po_some (pe_op oAddN (pv 5) pe_int)) po_none))))))))
  (pss_one (ps_ret (pe_tup (PAs.h (pas_cons (pv 3) (pas_cons (pe_op op_mod (pe_op op_fdivL (pv 0) pe_int) pe_int) pas_nil))))))))))),?_⟩
 refine ⟨rfl,?_⟩
 refine ⟨_,rfl,_,_,rfl,rfl,cdivK (by decide) (by decide),?_⟩
 show gName 2 (V.int (c.fdiv 70)) _ _ _
 have hs1:=fdiv_small (c:=c) (j:=70) (by decide) hs
 generalize c.fdiv 70=n0 at hs1 ⊢
 revert n0
 refine with_rest (λ n0 hs1 k=>⟨_,rfl,_,_,rfl,rfl,cdivK (by decide) (by decide),_,_,rfl,rfl,(by show (0:Int)<2; decide),.inl ⟨rfl,_,rfl,ite2' (λ _=>k n0) (λ _=>?_)⟩⟩) (λ n=>?_)
 ·exact ⟨_,rfl,_,_,rfl,rfl,⟨by decide,by decide,by decide⟩,.inl ⟨_,_,rfl,rfl,.inr (.inr ⟨small_bits hs1,by decide +kernel⟩),.inl ⟨_,_,rfl,rfl,k _⟩⟩⟩
 have r1:=Int.emod_nonneg c (show (5:Int) ≠ 0 by decide)
 have r2:=Int.emod_lt_of_pos c (show (0:Int)<5 by decide)
 refine ⟨_,rfl,_,_,rfl,rfl,(by show (0:Int)<5; decide),.inl ⟨_,_,rfl,rfl,_,rfl,by omega,by omega,?_⟩⟩
 refine for_range (λ i σ H'=>∃ n L S r1 r2,σ=[some (.int c),some (vt S),some (.int n),some (vt L),r1,r2]/\H'=H/\Drawn i L S) ⟨n,[],signs,_,_,by rw [ofString_nil]; rfl,rfl,.start⟩ ?_ ?_
 ·rintro i _ _ hi ⟨n,L,S,r1',r2',rfl,rfl,d⟩
  have hl:=d.left
  have hi':i<6:=by omega
  have hLl:=d.len
  have hS:S.length<=sizeLine:=by rw [sizeLine_eq]; omega
  have hp:(0:Int)<(S.length:Nat):=by omega
  have m1:=Int.emod_nonneg n (show ((S.length:Nat):Int) ≠ 0 by omega)
  have m2:=Int.emod_lt_of_pos n hp
  obtain ⟨j,hj⟩:∃ j:Nat,n % ((S.length:Nat):Int)=(j:Int):=⟨_,(Int.toNat_of_nonneg m1).symm⟩
  have hjl:j<S.length:=by omega
  have hc:=List.getElem?_eq_getElem hjl
  repeat array_get_dec
  refine ⟨hp,?_⟩
  try dsimp (config:={ proj:=false,eta:=false,zeta:=false,iota:=false }) only [tNil,tC]
  rw [hj]
  repeat array_get_dec
  refine ⟨⟨by omega,Nat.lt_of_lt_of_le (show ((S.length:Nat):Int).natAbs<2^30 by omega) (Nat.pow_le_pow_right (by decide) (by decide))⟩,?_⟩
  repeat array_get_dec
  refine ixS hS (atI_nat hc) ?_
  repeat array_get_dec
  refine .inr (cutT hS ?_)
  rw [cut_to]
  repeat array_get_dec
  refine .inr (cutT hS ?_)
  try dsimp (config:={ proj:=false,eta:=false,zeta:=false,iota:=false }) only [tNil,tC]
  rw [show ((j:Int)+1)=((j+1:Nat):Int) by omega,cut_from]
  repeat array_get_dec
  exact ⟨_,_,_,_,_,rfl,rfl,d.next hc⟩
 ·rintro _ _ ⟨n,L,S,r1',r2',rfl,rfl,d⟩
  have t1:=Int.emod_nonneg (c.fdiv 5) (show (7:Int) ≠ 0 by decide)
  have t2:=Int.emod_lt_of_pos (c.fdiv 5) (show (0:Int)<7 by decide)
  have hL:=d.len
  refine ⟨_,rfl,_,rfl,_,_,rfl,rfl,cdivK (by decide) (by decide),_,_,rfl,rfl,(by show (0:Int)<7; decide),(by show 2<=sizeLine; decide),λ p hp=>?_⟩
  refine q L S _ p (by omega) (by omega) (by rw [hL]; exact d) t1 (by omega) hp
def spChecked (K:PySem.W.Frag) (C:Addr):Sp:=λ vs H Q E=>∃ p L d l,vs=[.ref p,vt l]/\SqT K H p [vt L,d]/\(∀ c ∈ l,c<16^8)/\((∀ c ∈ l,c ∈ L)->Q (vt l) H)/\((∃ c ∈ l,c ∉ L)->E (.ref C) none H)
theorem ok_Qbl (T:Txt K mg t):FnOk P w K mg base (CX1 P w) 1 t.a_Qbl t.fd_Qbl ["frame", "text"] (spChecked K t.c_NoText):=by
 refine T.F_Qbl.okx (k:=0) sc_Qbl (λ vs H Q E h=>?_) (λ cdv A outer s H vs Q E hr h=>?_)
 ·obtain ⟨p,L,d,l,rfl,_⟩:=h; rfl
 obtain ⟨p,L,d,l,rfl,hS,hc,h1,h2⟩:=h
 refine ⟨_,(pss_cons (ps_set (i:=2) sc_Qbl.nd rfl (Or.inl rfl) (pe_ix ixAny (pv 0) pe_int (λ _ _=>rfl)))
  (pss_cons (ps_for PassesOwn.leaving rfl (piAny (pv 1)) (pg_name (i:=3) sc_Qbl.nd rfl (Or.inl rfl)) (pss_one (ps_if (pt_cmpR oNotIn (pv 3) (pv 2) (by with_unfolding_all rfl)) (pss_one (ps_raise raises1 rfl rfl T.m_NoText T.x_NoText PySem.F.excBase_ValueError (pa_cons (pe_joined (pfs_cons (pf_repr (pv 3)) (pfs_cons pf_str pfs_nil))) pa_nil))) pss_nil)))
  (pss_one (ps_ret (pv 1))))),?_⟩
 refine ⟨_,rfl,.inr (.inl ⟨p,_,0,_,rfl,rfl,hS,rfl,?_⟩)⟩
 refine ⟨_,rfl,.inr (.inr ⟨_,rfl,?_⟩)⟩
 refine for_walk (walk_tx l) (λ i σ H'=>∃ r,σ=[some (.ref p),some (vt l),some (vt L),r]/\H'=H/\∀ c ∈ l.take i,c ∈ L) ⟨_,rfl,rfl,λ c hc=>nomatch hc⟩ (λ _ _ _ _ _=>trivial) ?_ ?_
 ·rintro i x _ _ hx ⟨r,rfl,rfl,hL⟩
  rw [List.getElem?_map] at hx
  cases hi:l[i]? with
  | none=>rw [hi] at hx; cases hx
  | some c =>
    rw [hi] at hx
    cases (show some (vt [c])=some x from hx)
    have hm:c ∈ l:=List.mem_of_getElem? hi
    refine ⟨_,rfl,_,rfl,.inl ⟨c,L,rfl,rfl,_,rfl,?_⟩⟩
    by_cases z:c ∈ L
    ·rw [if_pos rfl,decide_eq_true z]
     refine iteF ⟨_,rfl,rfl,λ c' hc'=>?_⟩
     rw [List.take_add_one,hi] at hc'
     rcases List.mem_append.mp hc' with q | q
     ·exact hL c' q
     ·have:c'=c:=by simpa using q
      rw [this]; exact z
    ·rw [if_pos rfl,decide_eq_false z]
     have ls:(Str.ofString " is no letter of the frame").length=26:=by decide +kernel
     refine iteT ⟨_,rfl,_,rfl,⟨by show 1<=100000; decide,λ c' hc'=>?_⟩,λ y hy=>?_⟩
     ·have:c'=c:=by simpa using (show c' ∈ [c] from hc')
      rw [this]; exact hc c hm
     have hy':y.length<=12:=hy
     have e0:(Str.empty++y).length<=12:=by rw [Str.length_append]; show 0+y.length<=12; omega
     have e1:(Str.empty++y++Str.ofString " is no letter of the frame").length<=sizeLine:=by rw [Str.length_append,ls,sizeLine_eq]; omega
     exact ⟨Nat.le_trans e0 (by decide),e1,e1,(by show 1<=sizeLine; decide),h2 ⟨c,hm,z⟩⟩
 ·rintro _ _ ⟨r,rfl,rfl,hL⟩
  rw [List.length_map,List.take_length] at hL
  exact ⟨_,rfl,h1 hL⟩
def eldL (f d:Nat) (l:List Nat) (k:Nat):List Nat:=(List.range d).map λ j=>if j<k then l.getD (k-1-j) 0 else f
theorem eldL_len (f d:Nat) (l:List Nat) (k:Nat):(eldL f d l k).length=d:=by unfold eldL; rw [List.length_map,List.length_range]
theorem eldL_at (f d:Nat) (l:List Nat) (k:Nat) {j:Nat} (h:j<d):(eldL f d l k)[j]?=some (if j<k then l.getD (k-1-j) 0 else f):=by
 unfold eldL; rw [List.getElem?_map,List.getElem?_range h]; rfl
theorem eldL_eq (f d:Nat) (l:List Nat) {k:Nat} (hk:k<=l.length):((l.drop (k-d)).take (k-(k-d))).reverse++List.replicate (d-(k-(k-d))) f=eldL f d l k:=by
 have hlen:((l.drop (k-d)).take (k-(k-d))).length=k-(k-d):=by rw [List.length_take,List.length_drop]; omega
 refine List.ext_getElem? λ j=>?_
 by_cases hj:j<d
 ·rw [eldL_at f d l k hj]
  by_cases hjk:j<k
  ·rw [if_pos hjk,List.getElem?_append_left (by rw [List.length_reverse,hlen]; omega),List.getElem?_reverse (by rw [hlen]; omega),hlen,List.getElem?_take_of_lt (by omega),List.getElem?_drop,List.getD_eq_getElem?_getD]
   rw [show k-d+(k-(k-d)-1-j)=k-1-j by omega,List.getElem?_eq_getElem (by omega)]
   rfl
  ·rw [if_neg hjk,List.getElem?_append_right (by rw [List.length_reverse,hlen]; omega),List.length_reverse,hlen,List.getElem?_replicate,if_pos (by omega)]
 ·rw [List.getElem?_eq_none (by rw [List.length_append,List.length_reverse,hlen,List.length_replicate]; omega),List.getElem?_eq_none (by rw [eldL_len]; omega)]
theorem at_zero {α:Type} {f:α} {L:List α}:atI (f::L) 0=some f:=atI_nat (j:=0) rfl
theorem flatten_ones (l:List Nat):(l.map λ c=>[c]).flatten=l:=by
 induction l with
 | nil=>rfl
 | cons c r ih=>rw [List.map_cons,List.flatten_cons,ih]; rfl
theorem rep_ones (n c:Nat):(List.replicate n [c]).flatten=List.replicate n c:=by
 induction n with
 | zero=>rfl
 | succ n ih=>rw [List.replicate_succ,List.flatten_cons,ih]; rfl
theorem str_nil:V.str (Str.ofString "")=vt []:=congrArg V.str (by decide +kernel)
def spEldAt (K:PySem.W.Frag):Sp:=λ vs H Q _=>∃ (p:Addr) (f:Nat) (L:List Nat) (d k:Nat) (l:List Nat),vs=[.ref p,vt l,.int k]/\SqT K H p [vt (f::L),.int d]/\(f::L).length<=100/\d<=6/\l.length<=1000/\k<=l.length/\Q (vt (eldL f d l k)) H
theorem ok_Qv (T:Txt K mg t):FnOk P w K mg base (CX1 P w) 1 t.a_Qv t.fd_Qv ["frame", "text", "at"] (spEldAt K):=by
 refine T.F_Qv.okn (k:=0) sc_Qv (λ vs H Q E h=>?_) (λ cdv A outer s H vs Q E hr h=>?_)
 ·obtain ⟨p,f,L,d,k,l,rfl,_⟩:=h; rfl
 obtain ⟨p,f,L,d,k,l,rfl,hF,hL,hd,hl,hk,q⟩:=h
 have zL:(f::L).length<=sizeLine:=by rw [sizeLine_eq]; omega
 have zl:l.length<=sizeLine:=by rw [sizeLine_eq]; omega
 refine ⟨_,(pss_cons (ps_set (i:=3) sc_Qv.nd rfl (Or.inl rfl) (pe_ix ixAny (pe_ix ixAny (pv 0) pe_int (λ _ _=>rfl)) pe_int (λ _ _=>rfl)))
  (pss_cons (ps_set (i:=4) sc_Qv.nd rfl (Or.inl rfl) (pe_ix ixAny (pv 0) pe_int (λ _ _=>rfl)))
  (pss_cons (ps_set (i:=5) sc_Qv.nd rfl (Or.inl rfl) (pe_slice slAny (pv 1) (po_some (pe_callB (call_max2 rfl) rfl T.m_max bt_max (PAs.h (pas_cons pe_int (pas_cons (pe_op op_sub (pv 2) (pv 4)) pas_nil))))) (po_some (pv 2))))
  (pss_one (ps_ret (pe_op oAddN (pe_joinRev rfl rfl T.m_reversed bt_reversed pe_str (pv 5)) (pe_op oMulN (pv 3) (pe_op op_sub (pv 4) (pe_callB call_len rfl T.m_len bt_len (pa_cons (pv 5) pa_nil)))))))))),?_⟩
 repeat array_get_dec
 refine ixS zL at_zero ?_
 repeat array_get_dec
 refine .inr (cutT zl ?_)
 have e:(if ((k:Int)-d)>0 then ((k:Int)-d) else 0)=((k-d:Nat):Int):=by split<;>omega
 try dsimp (config:={ proj:=false,eta:=false,zeta:=false,iota:=false }) only [tNil,tC]
 rw [e,cut_mid l (by omega) hk]
 have hlen:((l.drop (k-d)).take (k-(k-d))).length=k-(k-d):=by rw [List.length_take,List.length_drop]; omega
 generalize hn:(l.drop (k-d)).take (k-(k-d))=near at hlen ⊢
 refine ⟨[],str_nil,?_⟩
 refine ⟨_,rfl,near,rfl,⟨by omega,by decide⟩,?_⟩
 rw [between_nil,flatten_ones]
 have zn:near.length<=sizeLine:=by rw [sizeLine_eq]; omega
 repeat array_get_dec
 rw [rep_ones]
 refine .inr (.inl (catX ?_ ?_))
 ·rw [List.length_reverse,List.length_replicate,sizeLine_eq]; omega
 ·rw [show ((d:Int)-(near.length:Int)).toNat=d-(k-(k-d)) by omega,← hn,eldL_eq f d l hk]; exact q
def oddP:Nat->Int
 | 0=>1
 | n+1=>oddP n*(2*(n:Int)+1)
def topW:List Nat->Int
 | []=>1
 | c::cs=>topW cs*oddP c
def botW (k:Nat):Nat->Int
 | 0=>1
 | n+1=>botW k n*(2*(n:Int)+k)
def ivs (cs:List Nat):List V:=(cs.map λ (c:Nat)=>(c:Int)).map V.int
theorem ivs_len (cs:List Nat):(ivs cs).length=cs.length:=by unfold ivs; rw [List.length_map,List.length_map]
theorem ivs_get (cs:List Nat) (i:Nat):(ivs cs)[i]?=(cs[i]?).map (λ c:Nat=>V.int (c:Int)):=by unfold ivs; rw [List.getElem?_map,List.getElem?_map,Option.map_map]; rfl
theorem ivs_set (cs:List Nat) (j c:Nat):(ivs cs).set j (.int (c:Int))=ivs (cs.set j c):=by unfold ivs; rw [List.map_set,List.map_set]
theorem ints_sum (cs:List Nat):(cs.map λ (c:Nat)=>(c:Int)).sum=(cs.sum:Int):=by
 induction cs with
 | nil=>rfl
 | cons c cs ih=>rw [List.map_cons,List.sum_cons,ih,List.sum_cons]; push_cast; rfl
theorem topW_set:∀ {cs:List Nat} {j c:Nat},cs[j]?=some c->topW (cs.set j (c+1))=topW cs*(2*(c:Int)+1)
 | [],_,_,h=>by cases h
 | a::cs,0,c,h=>by
   cases h
   show topW cs*(oddP a*(2*(a:Int)+1))=topW cs*oddP a*(2*(a:Int)+1)
   rw [Int.mul_assoc]
 | a::cs,j+1,c,h=>by
   show topW (cs.set j (c+1))*oddP a=topW cs*oddP a*(2*(c:Int)+1)
   rw [topW_set (cs:=cs) h,Int.mul_assoc,Int.mul_comm (2*(c:Int)+1),← Int.mul_assoc]
theorem sum_set:∀ {cs:List Nat} {j c:Nat},cs[j]?=some c->(cs.set j (c+1)).sum=cs.sum+1
 | [],_,_,h=>by cases h
 | a::cs,0,c,h=>by cases h; show (a+1)+cs.sum=a+cs.sum+1; omega
 | a::cs,j+1,c,h=>by
   show a+(cs.set j (c+1)).sum=a+cs.sum+1
   rw [sum_set (cs:=cs) h]; omega
theorem le_sum:∀ {cs:List Nat} {j c:Nat},cs[j]?=some c->c<=cs.sum
 | [],_,_,h=>by cases h
 | a::cs,0,c,h=>by cases h; show a<=a+cs.sum; omega
 | a::cs,j+1,c,h=>by have:=le_sum (cs:=cs) h; show c<=a+cs.sum; omega
theorem pow_lt {n a b:Nat} (h:n<2^a) (hb:a<=b):n<2^b:=Nat.lt_of_lt_of_le h (Nat.pow_le_pow_right (by decide) hb)
theorem mul_lt {x y:Int} {a b:Nat} (hx:x.natAbs<2^a) (hy:y.natAbs<2^b):(x*y).natAbs<2^(a+b):=by
 rw [Int.natAbs_mul,Nat.pow_add]
 exact Nat.mul_lt_mul'' hx hy
theorem oddP_bd:∀ n:Nat,n<=500->0<oddP n/\(oddP n).natAbs<2^(1+10*n)
 | 0,_=>by decide
 | n+1,h=>by
   obtain ⟨h0,h1⟩:=oddP_bd n (by omega)
   refine ⟨Int.mul_pos h0 (by omega),?_⟩
   have:=mul_lt h1 (show (2*(n:Int)+1).natAbs<2^10 by omega)
   rw [show 1+10*(n+1)=1+10*n+10 by omega]; exact this
theorem topW_bd:∀ cs:List Nat,cs.sum<=500->0<topW cs/\(topW cs).natAbs<2^(1+cs.length+10*cs.sum)
 | [],_=>by decide
 | c::cs,h=>by
   have h':c+cs.sum<=500:=h
   obtain ⟨h0,h1⟩:=topW_bd cs (by omega)
   obtain ⟨o0,o1⟩:=oddP_bd c (by omega)
   refine ⟨Int.mul_pos h0 o0,?_⟩
   have:=mul_lt h1 o1
   have e:1+(c::cs).length+10*(c::cs).sum=1+cs.length+10*cs.sum+(1+10*c):=by
    show 1+(cs.length+1)+10*(c+cs.sum)=_; omega
   rw [e]; exact this
theorem botW_bd {k:Nat} (hk:1<=k) (hk2:k<=20):∀ n:Nat,n<=500->0<botW k n/\(botW k n).natAbs<2^(1+10*n)
 | 0,_=>by show 0<(1:Int)/\(1:Int).natAbs<2^1; decide
 | n+1,h=>by
   obtain ⟨h0,h1⟩:=botW_bd hk hk2 n (by omega)
   refine ⟨Int.mul_pos h0 (by omega),?_⟩
   have:=mul_lt h1 (show (2*(n:Int)+k).natAbs<2^10 by omega)
   rw [show 1+10*(n+1)=1+10*n+10 by omega]; exact this
def falls (f d:Nat) (l kn:List Nat) (k:Nat):Bool:=decide ((eldL f d l k).take kn.length=kn)
def cntL (L:List Nat) (f d:Nat) (l kn:List Nat) (n:Nat):List Nat:=L.map λ c=>((List.range n).filter λ k=>falls f d l kn k && decide (l[k]?=some c)).length
def seen (f d:Nat) (l kn:List Nat) (n:Nat):Bool:=(List.range n).any (falls f d l kn)
theorem cntL_len (L:List Nat) (f d:Nat) (l kn:List Nat) (n:Nat):(cntL L f d l kn n).length=L.length:=List.length_map ..
theorem filter_range_succ (p:Nat->Bool) (n:Nat):((List.range (n+1)).filter p).length=((List.range n).filter p).length+if p n=true then 1 else 0:=by
 rw [List.range_succ,List.filter_append,List.length_append]
 cases h:p n<;>simp [h]
theorem cntL_no {L:List Nat} {f d:Nat} {l kn:List Nat} {n:Nat} (h:falls f d l kn n=false):cntL L f d l kn (n+1)=cntL L f d l kn n:=by
 unfold cntL
 refine List.map_congr_left λ c _=>?_
 rw [filter_range_succ,h,Bool.false_and,if_neg Bool.false_ne_true]; rfl
theorem seen_no {f d:Nat} {l kn:List Nat} {n:Nat} (h:falls f d l kn n=false):seen f d l kn (n+1)=seen f d l kn n:=by
 unfold seen; rw [List.range_succ,List.any_append]; simp [h]
theorem seen_yes {f d:Nat} {l kn:List Nat} {n:Nat} (h:falls f d l kn n=true):seen f d l kn (n+1)=true:=by
 unfold seen; rw [List.range_succ,List.any_append]; simp [h]
theorem cntL_yes {L:List Nat} {f d:Nat} {l kn:List Nat} {n i c:Nat} (hL:L.Nodup) (h:falls f d l kn n=true) (hi:L[i]?=some c) (hc:l[n]?=some c):
 ∃ v,(cntL L f d l kn n)[i]?=some v/\cntL L f d l kn (n+1)=(cntL L f d l kn n).set i (v+1):=by
 obtain ⟨hil,hic⟩:=List.getElem?_eq_some_iff.mp hi
 refine ⟨((List.range n).filter λ k=>falls f d l kn k && decide (l[k]?=some c)).length,by unfold cntL; rw [List.getElem?_map,hi]; rfl,?_⟩
 refine List.ext_getElem? λ j=>?_
 by_cases hj:j<L.length
 ·rw [List.getElem?_set]
  unfold cntL
  rw [List.getElem?_map,List.getElem?_eq_getElem hj,Option.map_some,filter_range_succ,h,Bool.true_and]
  by_cases hij:i=j
  ·subst hij
   rw [hic,decide_eq_true hc,if_pos rfl,if_pos rfl,if_pos (by rw [List.length_map]; exact hj)]
  ·rw [if_neg hij,List.getElem?_map,List.getElem?_eq_getElem hj,Option.map_some]
   have:L[j] ≠ c:=λ e=>hij ((List.getElem_inj hL).mp (hic.trans e.symm))
   rw [hc,decide_eq_false (λ e=>this (Option.some.inj e).symm),if_neg Bool.false_ne_true]; rfl
 ·rw [List.getElem?_eq_none (by rw [cntL_len]; omega),List.getElem?_eq_none (by rw [List.length_set,cntL_len]; omega)]
theorem cntL_zero {L:List Nat} {f d:Nat} {l kn:List Nat} {n:Nat} (h:seen f d l kn n=false):cntL L f d l kn n=List.replicate L.length 0:=by
 unfold cntL
 refine List.ext_getElem? λ j=>?_
 rw [List.getElem?_map,List.getElem?_replicate]
 by_cases hj:j<L.length
 ·rw [List.getElem?_eq_getElem hj,if_pos hj,Option.map_some]
  congr 1
  rw [List.length_eq_zero_iff,List.filter_eq_nil_iff]
  intro k hk
  have:=List.any_eq_false.mp h k hk
  simp [this]
 ·rw [List.getElem?_eq_none (by omega),if_neg hj]; rfl
theorem ivs_rep (m:Nat):(List.replicate m [V.int 0]).flatten=ivs (List.replicate m 0):=by
 unfold ivs
 rw [List.map_replicate,List.map_replicate]
 induction m with
 | zero=>rfl
 | succ m ih=>rw [List.replicate_succ,List.flatten_cons,ih,List.replicate_succ]; rfl
def spNoC (K:PySem.W.Frag):Sp:=λ vs H Q _=>∃ (p:Addr) (L:List Nat) (d:V),vs=[.ref p]/\SqT K H p [vt L,d]/\L.length<=100/\∀ r H',Same H H'->H r=none->H' r=some (.lst (ivs (List.replicate L.length 0)))->Q (.ref r) H'
theorem ok_Qw (T:Txt K mg t):FnOk P w K mg base (CX1 P w) 1 t.a_Qw t.fd_Qw ["frame"] (spNoC K):=by
 refine T.F_Qw.okn (k:=0) sc_Qw (λ vs H Q E h=>?_) (λ cdv A outer s H vs Q E hr h=>?_)
 ·obtain ⟨p,L,d,rfl,_⟩:=h; rfl
 obtain ⟨p,L,d,rfl,hF,hL,q⟩:=h
 have zL:L.length<=sizeLine:=by rw [sizeLine_eq]; omega
 refine ⟨_,(pss_one (ps_ret (pe_op oMulN (pe_lst (pa_cons pe_int pa_nil)) (pe_callB call_len rfl T.m_len bt_len (pa_cons (pe_ix ixAny (pv 0) pe_int (λ _ _=>rfl)) pa_nil))))),?_⟩
 refine ⟨by show 1<=sizeLine; decide,λ l1 hl1=>?_⟩
 repeat array_get_dec
 refine .inr (.inr ⟨l1,_,_,rfl,rfl,upd_same,by omega,by omega,by rw [sizeLine_eq,Int.toNat_natCast]; show 1*L.length<=_; omega,λ l hl=>?_⟩)
 rw [Int.toNat_natCast,ivs_rep]
 exact q l _ (by array_mem_dec) ((same_new hl1 _).free hl) upd_same
def key (kn:List Nat):Key:=Sum.inr (tx kn)
theorem key_inj {a b:List Nat} (h:key a=key b):a=b:=tx_inj (Sum.inr.inj h)
theorem at_uniq {L:List Nat} (h:L.Nodup) {i j c:Nat} (hi:L[i]?=some c) (hj:L[j]?=some c):j=i:=by
 obtain ⟨h1,e1⟩:=List.getElem?_eq_some_iff.mp hi
 obtain ⟨h2,e2⟩:=List.getElem?_eq_some_iff.mp hj
 exact (List.getElem_inj h).mp (e2.trans e1.symm)
theorem meet {A B:TS} {D:Ends} {σ:L2.St} {H:Hp} (S:L2.St->Hp->Prop) (k:∀ N:L2.St->Hp->Prop,(∀ σ H,S σ H->N σ H)->A { D with nx:=N } σ H) (r:∀ σ H,S σ H->B D σ H):tSeq A B D σ H:=k (B D) r
theorem str_nil0:V.str (Str.ofString "")=vt []:=congrArg V.str (by decide +kernel)
def prodI:List Int->Int
 | []=>1
 | x::xs=>x*prodI xs
theorem prodI_app (a b:List Int):prodI (a++b)=prodI a*prodI b:=by
 induction a with
 | nil=>simp [prodI]
 | cons x a ih=>show x*prodI (a++b)=x*prodI a*prodI b; rw [ih,Int.mul_assoc]
theorem prodI_pos:∀ {a:List Int},(∀ x ∈ a,1<=x)->1<=prodI a
 | [],_=>Int.le_refl _
 | x::a,h=>by
   have h1:=h x List.mem_cons_self
   have h2:=prodI_pos (a:=a) λ y hy=>h y (List.mem_cons_of_mem _ hy)
   show 1<=x*prodI a
   have:=Int.mul_le_mul h1 h2 (by decide) (by omega)
   simpa using this
theorem prodI_le {a b:List Int} (ha:∀ x ∈ a,1<=x) (hb:∀ x ∈ b,1<=x):prodI a<=prodI (a++b):=by
 rw [prodI_app]
 have h1:=prodI_pos ha
 have h2:=prodI_pos hb
 have:=Int.mul_le_mul_of_nonneg_left h2 (show 0<=prodI a by omega)
 simpa using this
theorem falls_iff {f d:Nat} {l kn:List Nat} {k:Nat}:falls f d l kn k=true ↔ kn <+: eldL f d l k:=by
 unfold falls
 rw [decide_eq_true_iff,List.prefix_iff_eq_take]
 exact ⟨Eq.symm,Eq.symm⟩
theorem falls_no {f d:Nat} {l kn:List Nat} {k:Nat} (h:¬ kn <+: eldL f d l k):falls f d l kn k=false:=by
 cases z:falls f d l kn k with
 | false=>rfl
 | true=>exact absurd (falls_iff.mp z) h
def sg (f d:Nat) (l kn:List Nat) (n:Nat):List Nat:=((List.range n).filter (falls f d l kn)).map λ k=>l.getD k 0
theorem sg_yes {f d:Nat} {l kn:List Nat} {n:Nat} (h:falls f d l kn n=true):sg f d l kn (n+1)=sg f d l kn n++[l.getD n 0]:=by
 unfold sg
 rw [List.range_succ,List.filter_append,List.map_append,List.filter_cons,if_pos h]; rfl
theorem sg_no {f d:Nat} {l kn:List Nat} {n:Nat} (h:falls f d l kn n=false):sg f d l kn (n+1)=sg f d l kn n:=by
 unfold sg
 rw [List.range_succ,List.filter_append,List.filter_cons,if_neg (by rw [h]; decide)]; simp
theorem sg_len {L:List Nat} (hL:L.Nodup) {f d:Nat} {l kn:List Nat} (hl:∀ c ∈ l,c ∈ L):∀ n,n<=l.length->(cntL L f d l kn n).sum=(sg f d l kn n).length:=by
 intro n
 induction n with
 | zero =>
   intro _
   rw [cntL_zero (by rfl),sg]
   simp
 | succ n ih =>
   intro hn
   have ih':=ih (by omega)
   cases z:falls f d l kn n with
   | false=>rw [cntL_no z,sg_no z]; exact ih'
   | true =>
     have hln:l[n]?=some (l.getD n 0):=by rw [List.getD_eq_getElem?_getD,List.getElem?_eq_getElem (show n<l.length by omega)]; rfl
     obtain ⟨j,hj⟩:=List.getElem?_of_mem (hl _ (List.mem_of_getElem? hln))
     obtain ⟨v,hv,e⟩:=cntL_yes (d:=d) (kn:=kn) (f:=f) hL z hj hln
     rw [e,sum_set hv,sg_yes z,List.length_append,ih']; rfl
theorem sg_le (f d:Nat) (l kn:List Nat) (n:Nat):(sg f d l kn n).length<=n:=by
 unfold sg
 rw [List.length_map]
 have:=List.length_filter_le (falls f d l kn) (List.range n)
 rw [List.length_range] at this
 exact this
def FrV (K:PySem.W.Frag) (H:Hp) (x:V) (A B:Int):Prop:=∃ p n d,x=.ref p/\SqT K H p [.int n,.int d]/\0<n/\0<d/\n*B=A*d/\gcdI n d=1/\n<=A/\d<=B
theorem FrV.same {H H':Hp} {x:V} {A B:Int} (h:FrV K H x A B) (g:Same H H'):FrV K H' x A B:=by
 obtain ⟨p,n,d,e,h1,h2⟩:=h
 exact ⟨p,n,d,e,same_tup g h1,h2⟩
theorem num_pos {t b:Int} (ht:0<t) (hb:0<b):0<num t b:=by
 have h:=num_cross (t:=t) (b:=b) (by omega)
 have hd:=den_pos (t:=t) (b:=b) (by omega)
 have:0<num t b*b:=by rw [h]; exact Int.mul_pos ht hd
 exact Int.pos_of_mul_pos_left this hb
theorem FrV.made {H:Hp} {p:Addr} {t b:Int} (ht:0<t) (hb:0<b) (e:SqT K H p [.int (num t b),.int (den t b)]):FrV K H (.ref p) t b:=by
 have h0:b ≠ 0:=by omega
 have l1:=num_le (t:=t) h0
 have l2:=den_le (t:=t) h0
 have p1:=num_pos ht hb
 have p2:=den_pos (t:=t) h0
 exact ⟨p,_,_,rfl,e,p1,p2,num_cross h0,num_gcd h0,by omega,by omega⟩
theorem FrV.times {n d m e A B C D:Int} (hd:0<d) (he:0<e) (hn:0<n) (hm:0<m) (h1:n*B=A*d) (h2:m*D=C*e):num (n*m) (d*e)*(B*D)=A*C*den (n*m) (d*e):=by
 have hde:0<d*e:=Int.mul_pos hd he
 have hx:=num_cross (t:=n*m) (b:=d*e) (by omega)
 refine Int.eq_of_mul_eq_mul_right (a:=d*e) (by omega) ?_
 calc num (n*m) (d*e)*(B*D)*(d*e)=(num (n*m) (d*e)*(d*e))*(B*D):=by simp only [Int.mul_assoc,Int.mul_comm,Int.mul_left_comm]
  _=(n*m*den (n*m) (d*e))*(B*D):=by rw [hx]
  _=(n*B)*(m*D)*den (n*m) (d*e):=by simp only [Int.mul_assoc,Int.mul_comm,Int.mul_left_comm]
  _=(A*d)*(C*e)*den (n*m) (d*e):=by rw [h1,h2]
  _=A*C*den (n*m) (d*e)*(d*e):=by simp only [Int.mul_assoc,Int.mul_comm,Int.mul_left_comm]
theorem abs_lt {n A:Int} {k:Nat} (h0:0<n) (h:n<=A) (hA:A<2^k):n.natAbs<2^k:=by
 have:(n.natAbs:Int)<((2^k:Nat):Int):=by
  rw [Int.natCast_pow]
  have:(n.natAbs:Int)=n:=by omega
  rw [this]; exact Int.lt_of_le_of_lt h hA
 exact Int.ofNat_lt.mp this
theorem int_lt {n:Int} {k:Nat} (h:n.natAbs<2^k):n<2^k:=by
 have h1:(n.natAbs:Int)<((2^k:Nat):Int):=Int.ofNat_lt.mpr h
 rw [Int.natCast_pow] at h1
 have h2:n<=(n.natAbs:Int):=Int.le_natAbs
 exact Int.lt_of_le_of_lt h2 h1
def spTimes (K:PySem.W.Frag):Sp:=λ vs H Q _=>∃ x y A B C D,vs=[x,y]/\FrV K H x A B/\FrV K H y C D/\A<2^9000/\B<2^9000/\C<2^9000/\D<2^9000/\B*D<2^8999/\∀ H' z,Same H H'->FrV K H' z (A*C) (B*D)->Q z H'
theorem ok_Qby (T:Txt K mg t):FnOk P w K mg base (CX1 P w) 3 t.a_Qby t.fd_Qby ["one", "other"] (spTimes K):=by
 refine T.F_Qby.okn (k:=2) sc_Qby (λ vs H Q E h=>?_) (λ cdv A outer s H vs Q E hr h=>?_)
 ·obtain ⟨x,y,_,_,_,_,rfl,_⟩:=h; rfl
 obtain ⟨_,_,a,b,c,e,rfl,⟨p,n,d,rfl,h1,n0,d0,c1,g1,l1,l2⟩,⟨q',m,f,rfl,h2,m0,f0,c2,g2,l3,l4⟩,ba,bb,bc,be,bbe,q⟩:=h
 have G_Qbe:=@ok_Qbe P w K mg base t T
 refine ⟨_,(pss_one (ps_ret (pe_call G_Qbe hr rfl T.m_Qbe T.F_Qbe.kp T.b_Qbe .nil pass1 (PAs.h (pas_cons (pe_op oMulN (pe_ix ixAny (pv 0) pe_int (λ _ _=>rfl)) (pe_ix ixAny (pv 1) pe_int (λ _ _=>rfl))) (pas_cons (pe_op oMulN (pe_ix ixAny (pv 0) pe_int (λ _ _=>rfl)) (pe_ix ixAny (pv 1) pe_int (λ _ _=>rfl))) pas_nil)))))),?_⟩
 have an:=abs_lt n0 l1 ba
 have ad:=abs_lt d0 l2 bb
 have am:=abs_lt m0 l3 bc
 have af:=abs_lt f0 l4 be
 have mo1:MulOk n m:=mulB (pow_lt an (by decide)) (pow_lt am (by decide))
 have mo2:MulOk d f:=mulB (pow_lt ad (by decide)) (pow_lt af (by decide))
 have hde:0<d*f:=Int.mul_pos d0 f0
 have hle:d*f<=b*e:=Int.mul_le_mul l2 l4 (by omega) (by omega)
 refine ⟨_,rfl,ixT h1 rfl ⟨_,rfl,ixT h2 rfl (.inl ⟨_,_,rfl,rfl,mo1,_,rfl,ixT h1 rfl ⟨_,rfl,ixT h2 rfl (.inl ⟨_,_,rfl,rfl,mo2,?_⟩)⟩⟩)⟩⟩
 refine ⟨n*m,d*f,rfl,λ z=>absurd z (by omega),λ _=>⟨abs_lt hde hle bbe,λ r hr0=>?_⟩⟩
 refine q _ _ (same_new hr0 _) ⟨r,_,_,rfl,.inl (.inl upd_same),num_pos (Int.mul_pos n0 m0) hde,den_pos (by omega),FrV.times d0 f0 n0 m0 c1 c2,num_gcd (by omega),?_,?_⟩
 ·have:=num_le (t:=n*m) (b:=d*f) (by omega)
  have h3:=Int.mul_le_mul l1 l3 (by omega) (by omega)
  have:=num_pos (Int.mul_pos n0 m0) hde
  have:=Int.mul_pos n0 m0
  omega
 ·have:=den_le (t:=n*m) (b:=d*f) (by omega)
  have:=den_pos (t:=n*m) (b:=d*f) (by omega)
  omega
theorem prodI_one (a:List Int) (x:Int):prodI (a++[x])=prodI a*x:=by
 rw [prodI_app]; show _*(x*1)=_; rw [Int.mul_one]
def spProduct (K:PySem.W.Frag):Sp:=λ vs H Q _=>∃ (p:Addr) (xs:List V) (ab:List (Int × Int)),vs=[.ref p]/\SqL K H p xs/\xs.length=ab.length/\(∀ (i:Nat) x e,xs[i]?=some x->ab[i]?=some e->FrV K H x e.1 e.2)/\
 (∀ i,prodI ((ab.take i).map (·.1))<2^8999/\prodI ((ab.take i).map (·.2))<2^8999)/\(∀ e ∈ ab,e.1<2^9000/\e.2<2^9000)/\∀ H' z,Same H H'->FrV K H' z (prodI (ab.map (·.1))) (prodI (ab.map (·.2)))->Q z H'
theorem lt9 {a:Int} (h:a<2^8999):a<2^9000:=by
 refine Int.lt_of_lt_of_le h ?_
 have h1:((2^8999:Nat):Int)<=((2^9000:Nat):Int):=Int.ofNat_le.mpr (Nat.pow_le_pow_right (by decide) (by decide))
 rw [Int.natCast_pow,Int.natCast_pow] at h1
 exact h1
theorem ok_Qbm (T:Txt K mg t):FnOk P w K mg base (CX1 P w) 4 t.a_Qbm t.fd_Qbm ["many"] (spProduct K):=by
 refine T.F_Qbm.okn (k:=3) sc_Qbm (λ vs H Q E h=>?_) (λ cdv A outer s H vs Q E hr h=>?_)
 ·obtain ⟨p,xs,ab,rfl,_⟩:=h; rfl
 obtain ⟨p,xs,ab,rfl,hp,hl,hf,hb,hb1,q⟩:=h
 have G_Qby:=@ok_Qby P w K mg base t T
 refine ⟨_,(pss_cons (ps_set (i:=1) sc_Qbm.nd rfl (Or.inl rfl) (pe_glob (v:=.ref t.q_ONE) rfl T.m_ONE rfl))
  (pss_cons (ps_for PassesOwn.never rfl (piAny (pv 0)) (pg_name (i:=2) sc_Qbm.nd rfl (Or.inl rfl)) (pss_one (ps_set (i:=1) sc_Qbm.nd rfl (Or.inl rfl) (pe_call G_Qby hr rfl T.m_Qby T.F_Qby.kp T.b_Qby .nil pass1 (PAs.h (pas_cons (pv 1) (pas_cons (pv 2) pas_nil)))))))
  (pss_one (ps_ret (pv 1))))),?_⟩
 refine ⟨_,rfl,.inl ⟨p,xs,rfl,hp,?_⟩⟩
 refine for_walk (walk_list (xs:=xs)) (λ i σ H'=>∃ v r2,σ=[some (.ref p),some v,r2]/\Same H H'/\FrV K H' v (prodI ((ab.take i).map (·.1))) (prodI ((ab.take i).map (·.2)))) ⟨_,_,rfl,Same.refl _,t.q_ONE,1,1,rfl,.inr T.tc_ONE,by decide,by decide,rfl,by decide,Int.le_refl _,Int.le_refl _⟩ (λ i σ H' _ ⟨_,_,_,g,_⟩=>same_lst g hp) ?_ ?_
 ·rintro i x _ H' hx ⟨v,r2,rfl,g,hv⟩
  have hi:=(List.getElem?_eq_some_iff.mp hx).1
  have he:=List.getElem?_eq_getElem (show i<ab.length by omega)
  have hm:=List.getElem_mem (show i<ab.length by omega)
  have e1:prodI ((ab.take (i+1)).map (·.1))=prodI ((ab.take i).map (·.1))*ab[i].1:=by
   rw [List.take_add_one,he,List.map_append]; exact prodI_one _ _
  have e2:prodI ((ab.take (i+1)).map (·.2))=prodI ((ab.take i).map (·.2))*ab[i].2:=by
   rw [List.take_add_one,he,List.map_append]; exact prodI_one _ _
  have hn:=hb (i+1)
  rw [e2] at hn
  refine ⟨_,rfl,_,rfl,v,x,_,_,_,_,rfl,hv,(hf i x _ hx he).same g,lt9 (hb i).1,lt9 (hb i).2,(hb1 _ hm).1,(hb1 _ hm).2,hn.2,λ H2 z s2 hz=>?_⟩
  refine ⟨z,_,rfl,g.trans s2,?_⟩
  rw [e1,e2]
  exact hz
 ·rintro _ H' ⟨v,r2,rfl,g,hv⟩
  rw [hl,List.take_length] at hv
  exact ⟨_,rfl,q H' v g hv⟩
def spHalf (K:PySem.W.Frag):Sp:=λ vs H Q _=>∃ x A B,vs=[x]/\FrV K H x A B/\A<2^8990/\B<2^8990/\∀ H' z,Same H H'->FrV K H' z A (2*B)->Q z H'
theorem ok_half (T:Txt K mg t):FnOk P w K mg base (CX1 P w) 3 t.a_half t.fd_half ["one"] (spHalf K):=by
 refine T.F_half.okn (k:=2) sc_half (λ vs H Q E h=>?_) (λ cdv A outer s H vs Q E hr h=>?_)
 ·obtain ⟨x,_,_,rfl,_⟩:=h; rfl
 obtain ⟨_,a,b,rfl,⟨p,n,d,rfl,h1,n0,d0,c1,g1,l1,l2⟩,ba,bb,q⟩:=h
 have G_Qbe:=@ok_Qbe P w K mg base t T
 refine ⟨_,(pss_one (ps_ret (pe_call G_Qbe hr rfl T.m_Qbe T.F_Qbe.kp T.b_Qbe .nil pass1 (PAs.h (pas_cons (pe_ix ixAny (pv 0) pe_int (λ _ _=>rfl)) (pas_cons (pe_op oMulN pe_int (pe_ix ixAny (pv 0) pe_int (λ _ _=>rfl))) pas_nil)))))),?_⟩
 have an:=abs_lt n0 l1 ba
 have ad:=abs_lt d0 l2 bb
 have h2d:(2*d).natAbs<2^8999:=pow_lt (mul_lt (x:=2) (a:=2) (by decide) ad) (by decide)
 refine ⟨_,rfl,ixT h1 rfl ⟨_,rfl,ixT h1 rfl (.inl ⟨_,_,rfl,rfl,mulL (by decide) (by decide),?_⟩)⟩⟩
 refine ⟨n,2*d,rfl,λ z=>absurd z (by omega),λ _=>⟨h2d,λ r hr0=>?_⟩⟩
 have hx:=num_cross (t:=n) (b:=2*d) (by omega)
 refine q _ _ (same_new hr0 _) ⟨r,_,_,rfl,.inl (.inl upd_same),num_pos n0 (by omega),den_pos (by omega),?_,num_gcd (by omega),?_,?_⟩
 ·refine Int.eq_of_mul_eq_mul_right (a:=d) (by omega) ?_
  calc num n (2*d)*(2*b)*d=(num n (2*d)*(2*d))*b:=by simp only [Int.mul_assoc,Int.mul_comm,Int.mul_left_comm]
   _=(n*b)*den n (2*d):=by rw [hx]; simp only [Int.mul_assoc,Int.mul_comm,Int.mul_left_comm]
   _=(a*d)*den n (2*d):=by rw [c1]
   _=a*den n (2*d)*d:=by simp only [Int.mul_assoc,Int.mul_comm,Int.mul_left_comm]
 ·have:=num_le (t:=n) (b:=2*d) (by omega)
  have:=num_pos n0 (show 0<2*d by omega)
  omega
 ·have:=den_le (t:=n) (b:=2*d) (by omega)
  have:=den_pos (t:=n) (b:=2*d) (by omega)
  omega
def spShare (K:PySem.W.Frag):Sp:=λ vs H Q _=>∃ (p:Addr) (ns:List Int) (i c:Int),vs=[.ref p,.int i]/\SqL K H p (ns.map V.int)/\atI (ns.map V.int) i=some (.int c)/\2*ns.sum+(ns.length:Int) ≠ 0/\(2*ns.sum+(ns.length:Int)).natAbs<2^8999/\
 ∀ r,H r=none->Q (.ref r) (upd H r (.tup [.int (num (2*c+1) (2*ns.sum+ns.length)),.int (den (2*c+1) (2*ns.sum+ns.length))]))
theorem ok_Qca (T:Txt K mg t):FnOk P w K mg base (CX1 P w) 3 t.a_Qca t.fd_Qca ["counts", "place"] (spShare K):=by
 refine T.F_Qca.okn (k:=2) sc_Qca (λ vs H Q E h=>?_) (λ cdv A outer s H vs Q E hr h=>?_)
 ·obtain ⟨p,ns,i,c,rfl,_⟩:=h; rfl
 obtain ⟨p,ns,i,c,rfl,hS,hi,h0,hb,q⟩:=h
 have G_Qbe:=@ok_Qbe P w K mg base t T
 refine ⟨_,(pss_one (ps_ret (pe_call G_Qbe hr rfl T.m_Qbe T.F_Qbe.kp T.b_Qbe .nil pass1 (PAs.h (pas_cons (pe_op oAddN (pe_op oMulN pe_int (pe_ix ixAny (pv 0) (pv 1) (λ _ _=>rfl))) pe_int) (pas_cons (pe_op oAddN (pe_op oMulN pe_int (pe_callB (callSum rfl) rfl T.m_sum bt_sum (pa_cons (pv 0) pa_nil))) (pe_callB call_len rfl T.m_len bt_len (pa_cons (pv 0) pa_nil))) pas_nil)))))),?_⟩
 refine ⟨_,rfl,_,rfl,.inl ⟨_,_,_,_,rfl,rfl,hS,hi,?_⟩⟩
 repeat array_get_dec
 refine ⟨_,ns,rfl,by array_mem_dec,?_⟩
 repeat array_get_dec
 refine ⟨λ z=>absurd ?_ h0,λ _=>⟨?_,λ r hr'=>?_⟩⟩
 ·rw [List.length_map] at z; exact z
 ·rw [List.length_map]; exact hb
 ·have:=q r hr'
  rw [← List.length_map (f:=V.int) (as:=ns)] at this
  exact this
theorem topW_zeros0 (m:Nat):topW (List.replicate m 0)=1:=by
 induction m with
 | zero=>rfl
 | succ m ih=>show topW (List.replicate m 0)*oddP 0=1; rw [ih]; rfl
theorem ipow_le {a b:Nat} (h:a<=b):(2:Int)^a<=2^b:=by
 have h2:((2^a:Nat):Int)<=((2^b:Nat):Int):=Int.ofNat_le.mpr (Nat.pow_le_pow_right (by decide) h)
 rw [Int.natCast_pow,Int.natCast_pow] at h2
 exact h2
theorem ipow_pos (a:Nat):(1:Int)<=2^a:=ipow_le (Nat.zero_le a)
theorem mul_le_pow {x y:Int} {a b:Nat} (hy0:0<=y) (hx:x<=2^a) (hy:y<=2^b):x*y<=2^(a+b):=by
 rw [Int.pow_add]
 exact Int.mul_le_mul hx hy hy0 (Int.le_trans (by decide) (ipow_pos a))
theorem prodI_two:∀ {xs:List Int} {es:List Nat},xs.length=es.length->(∀ (i:Nat) x e,xs[i]?=some x->es[i]?=some e->1<=x/\x<=2^e)->prodI xs<=2^es.sum
 | [],[],_,_=>by decide
 | x::xs,e::es,hl,h=>by
   have h1:=h 0 x e rfl rfl
   have h2:=prodI_two (xs:=xs) (es:=es) (by simpa using hl) λ i y g hy hg=>h (i+1) y g hy hg
   have h3:1<=prodI xs:=prodI_pos λ y hy=>by
    obtain ⟨i,hi,e'⟩:=List.getElem_of_mem hy
    have hi2 : i < es.length:=by have : xs.length = es.length:=by simpa using hl
                                 omega
    exact (h (i+1) y _ (by rw [List.getElem?_cons_succ,List.getElem?_eq_getElem hi,e']) (by rw [List.getElem?_cons_succ,List.getElem?_eq_getElem hi2])).1
   show x*prodI xs<=_
   rw [List.sum_cons]
   exact mul_le_pow (by omega) h1.2 h2
 | [],_::_,hl,_=>by cases hl
 | _::_,[],hl,_=>by cases hl
def prodW (ab:List (Int × Int)):Int × Int:=(prodI (ab.map (·.1)),prodI (ab.map (·.2)))
def wo (L:List Nat) (f d:Nat) (l:List Nat) (n:Nat) (k:List Nat):Int × Int:=(topW (cntL L f d l k n),botW L.length (cntL L f d l k n).sum)
def mixW (a b:Int × Int):Int × Int:=(a.1*b.2+b.1*a.2,2*(a.2*b.2))
def wv (L:List Nat) (f d:Nat) (l:List Nat) (n:Nat):Nat->List Nat->Int × Int
 | 0,k=>wo L f d l n k
 | r+1,k=>if seen f d l k n=true then mixW (wo L f d l n k) (prodW (L.map λ c=>wv L f d l n r (k++[c]))) else (1,1)
theorem wo_unseen {L:List Nat} {f d:Nat} {l:List Nat} {n:Nat} {k:List Nat} (h:seen f d l k n=false):wo L f d l n k=(1,1):=by
 unfold wo
 rw [cntL_zero h,topW_zeros0]
 have:(List.replicate L.length 0).sum=0:=by
  induction L.length with
  | zero=>rfl
  | succ m ih=>rw [List.replicate_succ,List.sum_cons,ih]
 rw [this]; rfl
theorem wv_unseen {L:List Nat} {f d:Nat} {l:List Nat} {n r:Nat} {k:List Nat} (h:seen f d l k n=false):wv L f d l n r k=(1,1):=by
 cases r with
 | zero=>exact wo_unseen h
 | succ r=>show (if _ then _ else _)=_; rw [if_neg (by rw [h]; decide)]
theorem wv_seen {L:List Nat} {f d:Nat} {l:List Nat} {n r:Nat} {k:List Nat} (h:seen f d l k n=true):wv L f d l n (r+1) k=mixW (wo L f d l n k) (prodW (L.map λ c=>wv L f d l n r (k++[c]))):=by
 show (if _ then _ else _)=_; rw [if_pos h]
theorem seen_len {f d:Nat} {l k:List Nat} {n:Nat} (h:seen f d l k n=true):1<=(sg f d l k n).length:=by
 unfold seen at h
 obtain ⟨j,hj,hf⟩:=List.any_eq_true.mp h
 unfold sg
 rw [List.length_map]
 exact List.length_pos_of_mem (List.mem_filter.mpr ⟨hj,hf⟩)
theorem sum_bump {g:Nat->Nat} {c0:Nat}:∀ {L:List Nat},L.Nodup->c0 ∈ L->(L.map λ c=>g c+if c=c0 then 1 else 0).sum=(L.map g).sum+1
 | [],_,h=>nomatch h
 | c::L,hn,h=>by
   obtain ⟨h1,h2⟩:=List.nodup_cons.mp hn
   rw [List.map_cons,List.sum_cons,List.map_cons,List.sum_cons]
   by_cases z:c=c0
   ·subst z
    have e:(L.map λ c'=>g c'+if c'=c then 1 else 0)=L.map g:=List.map_congr_left λ y hy=>by
     have hne:¬ y=c:=λ e=>h1 (e ▸ hy)
     rw [if_neg hne]; rfl
    rw [e,if_pos rfl]; omega
   ·rcases List.mem_cons.mp h with e | hm
    ·exact absurd e.symm z
    ·rw [sum_bump h2 hm,if_neg z]; omega
theorem sum_same {g g':Nat->Nat} {L:List Nat} (h:∀ c ∈ L,g' c=g c):(L.map g').sum=(L.map g).sum:=by rw [List.map_congr_left h]
theorem eldL_in {L:List Nat} {f d:Nat} {l:List Nat} {n:Nat} (hf:f ∈ L) (hl:∀ c ∈ l,c ∈ L) (hn:n<=l.length):∀ c ∈ eldL f d l n,c ∈ L:=λ c hc=>by
 unfold eldL at hc
 obtain ⟨j,_,e⟩:=List.mem_map.mp hc
 rw [← e]
 split
 ·rename_i z
  rw [List.getD_eq_getElem?_getD,List.getElem?_eq_getElem (show n-1-j<l.length by omega)]
  exact hl _ (List.getElem_mem _)
 ·exact hf
theorem next_of {f d:Nat} {l k:List Nat} {n:Nat} (hk:k.length<d) (h:k <+: eldL f d l n):∃ c0,c0 ∈ eldL f d l n/\∀ c,(k++[c]) <+: eldL f d l n ↔ c=c0:=by
 have hlen:=eldL_len f d l n
 obtain ⟨u,hu⟩:=h
 cases u with
 | nil =>
   have:=congrArg List.length hu
   rw [List.append_nil,hlen] at this
   omega
 | cons c0 u=>exact ⟨c0,by rw [← hu]; simp,λ c=>by rw [← hu,List.prefix_append_right_inj,List.cons_prefix_cons]; simp⟩
theorem sg_part {L:List Nat} (hL:L.Nodup) {f d:Nat} {l k:List Nat} (hf:f ∈ L) (hl:∀ c ∈ l,c ∈ L) (hk:k.length<d):∀ n,n<=l.length->(L.map λ c=>(sg f d l (k++[c]) n).length).sum=(sg f d l k n).length:=by
 intro n
 induction n with
 | zero =>
   intro _
   have z:∀ L':List Nat,(L'.map λ c=>(sg f d l (k++[c]) 0).length).sum=0:=λ L'=>by
    induction L' with
    | nil=>rfl
    | cons c L' ih=>rw [List.map_cons,List.sum_cons,ih]; rfl
   exact z L
 | succ n ih =>
   intro hn
   have ih':=ih (by omega)
   cases z:falls f d l k n with
   | false =>
     rw [sg_no z,← ih']
     refine sum_same λ c _=>?_
     rw [sg_no (falls_no λ h=>?_)]
     have:k <+: eldL f d l n:=(List.prefix_append k [c]).trans h
     rw [falls_iff.mpr this] at z; cases z
   | true =>
     obtain ⟨c0,hc0,pre⟩:=next_of hk (falls_iff.mp z)
     have e:(L.map λ c=>(sg f d l (k++[c]) (n+1)).length)=L.map λ c=>(sg f d l (k++[c]) n).length+if c=c0 then 1 else 0:=List.map_congr_left λ c _=>by
      by_cases zc:c=c0
      ·rw [sg_yes (falls_iff.mpr ((pre c).mpr zc)),List.length_append,if_pos zc]; rfl
      ·rw [sg_no (falls_no λ h=>zc ((pre c).mp h)),if_neg zc]; rfl
     rw [e,sum_bump hL (eldL_in hf hl (by omega) _ hc0),ih',sg_yes z,List.length_append]; rfl
def wb (r n:Nat):Nat:=(8+9*r)*n
theorem sum_wb (r:Nat) (g:Nat->Nat):∀ L:List Nat,(L.map λ c=>wb r (g c)).sum=wb r (L.map g).sum
 | []=>by simp [wb]
 | c::L=>by
   rw [List.map_cons,List.sum_cons,List.map_cons,List.sum_cons,sum_wb r g L]
   unfold wb
   rw [Nat.mul_add]
theorem wb_succ (r n:Nat):wb (r+1) n=wb r n+9*n:=by
 unfold wb
 rw [show 8+9*(r+1)=(8+9*r)+9 by omega,Nat.add_mul]
structure P2 (x:Int × Int) (e:Nat):Prop where
 a1:1<=x.1
 b1:1<=x.2
 ab:x.1<=2^e
 bb:x.2<=2^e
theorem P2.mono {x:Int × Int} {e e':Nat} (h:P2 x e) (z:e<=e'):P2 x e':=⟨h.a1,h.b1,Int.le_trans h.ab (ipow_le z),Int.le_trans h.bb (ipow_le z)⟩
theorem P2.one (e:Nat):P2 (1,1) e:=⟨by decide,by decide,ipow_pos e,ipow_pos e⟩
theorem prodW_ok {ab:List (Int × Int)} {es:List Nat} (hl:ab.length=es.length) (h:∀ (i:Nat) x e,ab[i]?=some x->es[i]?=some e->P2 x e):P2 (prodW ab) es.sum:=by
 have h0:∀ x ∈ ab,∃ e,P2 x e:=λ x hx=>by
  obtain ⟨i,hi,e'⟩:=List.getElem_of_mem hx
  exact ⟨_,h i x _ (by rw [List.getElem?_eq_getElem hi,e']) (List.getElem?_eq_getElem (show i<es.length by omega))⟩
 refine ⟨prodI_pos λ y hy=>?_,prodI_pos λ y hy=>?_,prodI_two (by simpa using hl) λ i y e hy he=>?_,prodI_two (by simpa using hl) λ i y e hy he=>?_⟩
 ·obtain ⟨x,hx,rfl⟩:=List.mem_map.mp hy
  obtain ⟨_,q⟩:=h0 x hx
  exact q.a1
 ·obtain ⟨x,hx,rfl⟩:=List.mem_map.mp hy
  obtain ⟨_,q⟩:=h0 x hx
  exact q.b1
 ·rw [List.getElem?_map] at hy
  cases z:ab[i]? with
  | none=>rw [z] at hy; cases hy
  | some x=>rw [z] at hy; cases hy; exact ⟨(h i x e z he).a1,(h i x e z he).ab⟩
 ·rw [List.getElem?_map] at hy
  cases z:ab[i]? with
  | none=>rw [z] at hy; cases hy
  | some x=>rw [z] at hy; cases hy; exact ⟨(h i x e z he).b1,(h i x e z he).bb⟩
structure Sm (L:List Nat) (f d:Nat) (l:List Nat):Prop where
 nd:L.Nodup
 l6:L.length<=6
 fm:f ∈ L
 d6:d<=6
 ll:l.length<=125
 lb:wb d l.length<=8900
 al:∀ c ∈ l,c ∈ L
theorem wo_ok {L:List Nat} {f d:Nat} {l:List Nat} (S:Sm L f d l) {n:Nat} (hn:n<=l.length) (k:List Nat):1<=(wo L f d l n k).1/\1<=(wo L f d l n k).2/\(wo L f d l n k).1<=2^(7+10*(sg f d l k n).length)/\(wo L f d l n k).2<=2^(1+10*(sg f d l k n).length):=by
 have h1M:1<=L.length:=List.length_pos_of_mem S.fm
 have hsum:(cntL L f d l k n).sum=(sg f d l k n).length:=sg_len S.nd S.al _ hn
 have hle:(sg f d l k n).length<=n:=sg_le ..
 have h6:=S.l6
 have hll:=S.ll
 have h:=topW_bd (cntL L f d l k n) (by rw [hsum]; omega)
 rw [hsum,cntL_len] at h
 have h':=botW_bd h1M (by omega) (sg f d l k n).length (by omega)
 unfold wo
 rw [hsum]
 refine ⟨by show 1<=topW _; omega,by show 1<=botW _ _; omega,Int.le_of_lt (int_lt (pow_lt h.2 (by omega))),Int.le_of_lt (int_lt h'.2)⟩
theorem wo_off {L:List Nat} {f d:Nat} {l:List Nat} {n:Nat} {k:List Nat} (h:¬ k <+: eldL f d l n):wo L f d l (n+1) k=wo L f d l n k:=by
 unfold wo; rw [cntL_no (falls_no h)]
theorem botW_succ (m n:Nat):botW m (n+1)=botW m n*(2*(n:Int)+m):=rfl
theorem wo_on {L:List Nat} {f d:Nat} {l:List Nat} {n i c:Nat} {k:List Nat} (hL:L.Nodup) (h:k <+: eldL f d l n) (hi:L[i]?=some c) (hc:l[n]?=some c):∃ v:Nat,(cntL L f d l k n)[i]?=some v/\cntL L f d l k (n+1)=(cntL L f d l k n).set i (v+1)/\
 wo L f d l (n+1) k=((wo L f d l n k).1*(2*(v:Int)+1),(wo L f d l n k).2*(2*((cntL L f d l k n).sum:Nat)+(L.length:Nat))):=by
 obtain ⟨v,h1,h2⟩:=cntL_yes hL (falls_iff.mpr h) hi hc
 refine ⟨v,h1,h2,?_⟩
 unfold wo
 rw [h2,topW_set h1,sum_set h1,botW_succ]
theorem botW_le8 {m:Nat} (hm:m<=6):∀ n:Nat,n<=125->botW m n<=2^(8*n)
 | 0,_=>by show (1:Int)<=1; decide
 | n+1,h=>by
   rw [botW_succ,show 8*(n+1)=8*n+8 by omega]
   exact mul_le_pow (by omega) (botW_le8 hm n (by omega)) (by show 2*(n:Int)+(m:Int)<=256; omega)
theorem wo_le1 {L:List Nat} {f d:Nat} {l:List Nat} (S:Sm L f d l) (k:List Nat):∀ {n:Nat},n<=l.length->(wo L f d l n k).1<=(wo L f d l n k).2
 | 0,_=>by
   have:seen f d l k 0=false:=rfl
   rw [wo_unseen this]; exact Int.le_refl _
 | n+1,hn=>by
   have ih:=wo_le1 S k (n:=n) (by omega)
   by_cases z:k <+: eldL f d l n
   ·have hc:=List.getElem?_eq_getElem (show n<l.length by omega)
    obtain ⟨i,hi⟩:=List.getElem?_of_mem (S.al _ (List.getElem_mem (show n<l.length by omega)))
    obtain ⟨v,h1,_,h3⟩:=wo_on S.nd z hi hc
    have h4:=le_sum h1
    have h1M:1<=L.length:=List.length_pos_of_mem S.fm
    rw [h3]
    obtain ⟨a1,b1,_⟩:=wo_ok S (show n<=l.length by omega) k
    exact Int.mul_le_mul ih (by omega) (by omega) (by omega)
   ·rw [wo_off z]; exact ih
theorem wo_P2 {L:List Nat} {f d:Nat} {l:List Nat} (S:Sm L f d l) {n:Nat} (hn:n<=l.length) (k:List Nat):P2 (wo L f d l n k) (8*(sg f d l k n).length):=by
 obtain ⟨a,b,_,_⟩:=wo_ok S hn k
 have hb:(wo L f d l n k).2<=2^(8*(sg f d l k n).length):=by
  have hsum:(cntL L f d l k n).sum=(sg f d l k n).length:=sg_len S.nd S.al _ hn
  have hle:(sg f d l k n).length<=n:=sg_le ..
  have:=S.ll
  unfold wo
  rw [hsum]
  exact botW_le8 S.l6 _ (by omega)
 exact ⟨a,b,Int.le_trans (wo_le1 S k hn) hb,hb⟩
theorem wch_ok {L:List Nat} {f d:Nat} {l:List Nat} (S:Sm L f d l) {n r:Nat} (hn:n<=l.length) {k:List Nat} (hk:k.length<d) (ih:∀ c,P2 (wv L f d l n r (k++[c])) (wb r (sg f d l (k++[c]) n).length)):
 P2 (prodW (L.map λ c=>wv L f d l n r (k++[c]))) (wb r (sg f d l k n).length):=by
 have:=prodW_ok (ab:=L.map λ c=>wv L f d l n r (k++[c])) (es:=L.map λ c=>wb r (sg f d l (k++[c]) n).length) (by simp) λ i x e hx he=>by
  rw [List.getElem?_map] at hx he
  cases hc:L[i]? with
  | none=>rw [hc] at hx; cases hx
  | some c=>rw [hc] at hx he; cases hx; cases he; exact ih c
 rw [sum_wb,sg_part S.nd S.fm S.al hk n hn] at this
 exact this
theorem mix_ok {L:List Nat} {f d:Nat} {l:List Nat} (S:Sm L f d l) {n e:Nat} (hn:n<=l.length) {k:List Nat} (hs:1<=(sg f d l k n).length) {b:Int × Int} (h:P2 b e):P2 (mixW (wo L f d l n k) b) (e+9*(sg f d l k n).length):=by
 obtain ⟨a1,b1,ab,bb⟩:=wo_P2 S hn k
 have c1:=h.a1
 have d1:=h.b1
 generalize (sg f d l k n).length=s at *
 generalize wo L f d l n k=a at *
 have m1:=mul_le_pow (by omega) ab h.bb
 have m2:=mul_le_pow (by omega) h.ab bb
 have m3:=mul_le_pow (by omega) bb h.bb
 have p1:1<=a.1*b.2:=Int.mul_pos (by omega) (by omega)
 have p2:1<=b.1*a.2:=Int.mul_pos (by omega) (by omega)
 have p3:1<=a.2*b.2:=Int.mul_pos (by omega) (by omega)
 have q1:a.1*b.2<=2^(e+9*s-1):=Int.le_trans m1 (ipow_le (by omega))
 have q2:b.1*a.2<=2^(e+9*s-1):=Int.le_trans m2 (ipow_le (by omega))
 have q3:a.2*b.2<=2^(e+9*s-1):=Int.le_trans m3 (ipow_le (by omega))
 have q4:(2:Int)^(e+9*s)=2^(e+9*s-1)*2:=by rw [← Int.pow_succ]; congr 1; omega
 unfold mixW
 refine ⟨?_,?_,?_,?_⟩
 ·show 1<=_+_; omega
 ·show 1<=2*_; omega
 ·rw [q4]; show _+_<=_; omega
 ·rw [q4]; show 2*_<=_; omega
theorem wv_ok {L:List Nat} {f d:Nat} {l:List Nat} (S:Sm L f d l) {n:Nat} (hn:n<=l.length):∀ r k,k.length+r=d->P2 (wv L f d l n r k) (wb r (sg f d l k n).length):=by
 intro r
 induction r with
 | zero=>intro k _; exact (wo_P2 S hn k).mono (by unfold wb; omega)
 | succ r ih =>
   intro k hk
   cases z:seen f d l k n with
   | false=>rw [wv_unseen z]; exact P2.one _
   | true =>
     rw [wv_seen z,wb_succ]
     exact mix_ok S hn (seen_len z) (wch_ok S hn (by omega) λ c=>ih _ (by rw [List.length_append]; show _+1+_=_; omega))
theorem wv_off {L:List Nat} {f d:Nat} {l:List Nat} {n:Nat}:∀ (r:Nat) {k:List Nat},¬ k <+: eldL f d l n->wv L f d l (n+1) r k=wv L f d l n r k
 | 0,k,h=>wo_off h
 | r+1,k,h=>by
   show (if _ then _ else _)=(if _ then _ else _)
   rw [seen_no (falls_no h),wo_off h,List.map_congr_left λ c _=>wv_off r (k:=k++[c]) λ z=>h ((List.prefix_append k [c]).trans z)]
theorem FrV.plus {n d m e A B C D:Int} (hd:0<d) (he:0<e) (h1:n*B=A*d) (h2:m*D=C*e):num (n*e+m*d) (d*e)*(B*D)=(A*D+C*B)*den (n*e+m*d) (d*e):=by
 have hde:0<d*e:=Int.mul_pos hd he
 have hx:=num_cross (t:=n*e+m*d) (b:=d*e) (by omega)
 generalize num (n*e+m*d) (d*e)=N at *
 generalize den (n*e+m*d) (d*e)=M at *
 refine Int.eq_of_mul_eq_mul_right (a:=d*e) (by omega) ?_
 calc N*(B*D)*(d*e)=(N*(d*e))*(B*D):=by simp only [Int.mul_assoc,Int.mul_comm,Int.mul_left_comm]
  _=((n*e+m*d)*M)*(B*D):=by rw [hx]
  _=(n*B)*(e*D)*M+(m*D)*(d*B)*M:=by simp only [Int.add_mul,Int.mul_add,Int.mul_assoc,Int.mul_comm,Int.mul_left_comm]
  _=(A*d)*(e*D)*M+(C*e)*(d*B)*M:=by rw [h1,h2]
  _=(A*D+C*B)*M*(d*e):=by simp only [Int.add_mul,Int.mul_add,Int.mul_assoc,Int.mul_comm,Int.mul_left_comm]
def spPlusF (K:PySem.W.Frag):Sp:=λ vs H Q _=>∃ x y A B C D,vs=[x,y]/\FrV K H x A B/\FrV K H y C D/\A<2^9000/\B<2^9000/\C<2^9000/\D<2^9000/\B*D<2^8999/\∀ H' z,Same H H'->FrV K H' z (A*D+C*B) (B*D)->Q z H'
theorem ok_plus (T:Txt K mg t):FnOk P w K mg base (CX1 P w) 3 t.a_plus t.fd_plus ["one", "other"] (spPlusF K):=by
 refine T.F_plus.okn (k:=2) sc_plus (λ vs H Q E h=>?_) (λ cdv A outer s H vs Q E hr h=>?_)
 ·obtain ⟨x,y,_,_,_,_,rfl,_⟩:=h; rfl
 obtain ⟨_,_,a,b,c,e,rfl,⟨p,n,d,rfl,h1,n0,d0,c1,g1,l1,l2⟩,⟨q',m,f,rfl,h2,m0,f0,c2,g2,l3,l4⟩,ba,bb,bc,be,bbe,q⟩:=h
 have G_Qbe:=@ok_Qbe P w K mg base t T
 refine ⟨_,(pss_one (ps_ret (pe_call G_Qbe hr rfl T.m_Qbe T.F_Qbe.kp T.b_Qbe .nil pass1 (PAs.h (pas_cons (pe_op oAddN (pe_op oMulN (pe_ix ixAny (pv 0) pe_int (λ _ _=>rfl)) (pe_ix ixAny (pv 1) pe_int (λ _ _=>rfl))) (pe_op oMulN (pe_ix ixAny (pv 1) pe_int (λ _ _=>rfl)) (pe_ix ixAny (pv 0) pe_int (λ _ _=>rfl)))) (pas_cons (pe_op oMulN (pe_ix ixAny (pv 0) pe_int (λ _ _=>rfl)) (pe_ix ixAny (pv 1) pe_int (λ _ _=>rfl))) pas_nil)))))),?_⟩
 have an:=abs_lt n0 l1 ba
 have ad:=abs_lt d0 l2 bb
 have am:=abs_lt m0 l3 bc
 have af:=abs_lt f0 l4 be
 have mo1:MulOk n f:=mulB (pow_lt an (by decide)) (pow_lt af (by decide))
 have mo2:MulOk m d:=mulB (pow_lt am (by decide)) (pow_lt ad (by decide))
 have mo3:MulOk d f:=mulB (pow_lt ad (by decide)) (pow_lt af (by decide))
 have hde:0<d*f:=Int.mul_pos d0 f0
 have hle:d*f<=b*e:=Int.mul_le_mul l2 l4 (by omega) (by omega)
 have p1:0<n*f:=Int.mul_pos n0 f0
 have p2:0<m*d:=Int.mul_pos m0 d0
 have k1:n*f<=a*e:=Int.mul_le_mul l1 l4 (by omega) (by omega)
 have k2:m*d<=c*b:=Int.mul_le_mul l3 l2 (by omega) (by omega)
 refine ⟨_,rfl,ixT h1 rfl ⟨_,rfl,ixT h2 rfl (.inl ⟨_,_,rfl,rfl,mo1,_,rfl,ixT h2 rfl ⟨_,rfl,ixT h1 rfl (.inl ⟨_,_,rfl,rfl,mo2,.inl ⟨_,_,rfl,rfl,?_⟩⟩)⟩⟩)⟩⟩
 refine ⟨_,rfl,ixT h1 rfl ⟨_,rfl,ixT h2 rfl (.inl ⟨_,_,rfl,rfl,mo3,?_⟩)⟩⟩
 refine ⟨n*f+m*d,d*f,rfl,λ z=>absurd z (by omega),λ _=>⟨abs_lt hde hle bbe,λ r hr0=>?_⟩⟩
 refine q _ _ (same_new hr0 _) ⟨r,_,_,rfl,.inl (.inl upd_same),num_pos (by omega) hde,den_pos (by omega),FrV.plus d0 f0 c1 c2,num_gcd (by omega),?_,?_⟩
 ·have:=num_le (t:=n*f+m*d) (b:=d*f) (by omega)
  have:=num_pos (show 0<n*f+m*d by omega) hde
  omega
 ·have:=den_le (t:=n*f+m*d) (b:=d*f) (by omega)
  have:=den_pos (t:=n*f+m*d) (b:=d*f) (by omega)
  omega
def off (p t r:Addr) (H:Hp):Hp:=λ b=>if b=p\/b=t\/b=r then none else H b
theorem off_sub (p t r:Addr) (H:Hp):Same (off p t r H) H:=λ b o h=>by
 unfold off at h
 split at h
 ·cases h
 ·exact h
theorem off_same {p t r:Addr} {H H':Hp} (s:Same H H'):Same (off p t r H) (off p t r H'):=λ b o h=>by
 unfold off at h ⊢
 split at h
 ·cases h
 ·rename_i z; rw [if_neg z]; exact s _ _ h
theorem off_at {p t r a:Addr} {H:Hp} {o:HO} (h:H a=some o) (h1:a ≠ p) (h2:a ≠ t) (h3:a ≠ r):off p t r H a=some o:=by
 unfold off
 rw [if_neg (by rintro (z | z | z)<;>contradiction)]
 exact h
theorem off_put {p t r a:Addr} {H:Hp} {o:HO} (h:a=p\/a=t\/a=r):off p t r (upd H a o)=off p t r H:=by
 funext b
 unfold off
 by_cases z:b=p\/b=t\/b=r
 ·rw [if_pos z,if_pos z]
 ·rw [if_neg z,if_neg z]
  exact upd_ne λ e=>z (e ▸ h)
structure Three (C p t r:Addr) (H:Hp):Prop where
 ob:∃ dx fs,H p=some (.ins C dx fs)
 td:∃ kvs,H t=some (.dK kvs)
 rl:∃ rs,H r=some (.lst rs)
theorem Three.same {C p t r:Addr} {H H':Hp} (h:Three C p t r H) (s:Same H H'):Three C p t r H' :=
 ⟨let ⟨a,b,e⟩:=h.ob; ⟨a,b,s _ _ e⟩,let ⟨a,e⟩:=h.td; ⟨a,s _ _ e⟩,let ⟨a,e⟩:=h.rl; ⟨a,s _ _ e⟩⟩
theorem Three.tup {C p t r a:Addr} {H:Hp} {xs:List V} (T3:Three C p t r H) (h:SqT K H a xs):SqT K (off p t r H) a xs:=by
 obtain ⟨⟨_,_,e1⟩,⟨_,e2⟩,⟨_,e3⟩⟩:=T3
 rcases h with (h | ⟨o,h⟩) | h
 ·exact .inl (.inl (off_at h (λ z=>by rw [z,e1] at h; cases h) (λ z=>by rw [z,e2] at h; cases h) (λ z=>by rw [z,e3] at h; cases h)))
 ·exact .inl (.inr ⟨o,off_at h (λ z=>by rw [z,e1] at h; cases h) (λ z=>by rw [z,e2] at h; cases h) (λ z=>by rw [z,e3] at h; cases h)⟩)
 ·exact .inr h
theorem Three.fr {C p t r:Addr} {H:Hp} {x:V} {A B:Int} (T3:Three C p t r H) (h:FrV K H x A B):FrV K (off p t r H) x A B:=by
 obtain ⟨q,n,d,e,h1,h2⟩:=h
 exact ⟨q,n,d,e,T3.tup h1,h2⟩
def EAt (K:PySem.W.Frag) (F:Hp) (v:V) (L:List Nat) (f d:Nat) (l:List Nat) (n:Nat) (k:List Nat):Prop :=
 ∃ e q x y,v=.ref e/\SqT K F e [.ref q,x,y]/\SqL K F q (ivs (cntL L f d l k n))/\FrV K F x (wo L f d l n k).1 (wo L f d l n k).2/\FrV K F y (wv L f d l n (d-k.length) k).1 (wv L f d l n (d-k.length) k).2
theorem EAt.same {F F':Hp} {v:V} {L:List Nat} {f d:Nat} {l:List Nat} {n:Nat} {k:List Nat} (h:EAt K F v L f d l n k) (s:Same F F'):EAt K F' v L f d l n k:=by
 obtain ⟨e,q,x,y,e0,h1,h2,h3,h4⟩:=h
 exact ⟨e,q,x,y,e0,same_tup s h1,same_lst s h2,h3.same s,h4.same s⟩
theorem EAt.congr {F:Hp} {v:V} {L:List Nat} {f d:Nat} {l:List Nat} {n m:Nat} {k:List Nat} (h:EAt K F v L f d l n k) (h1:cntL L f d l k m=cntL L f d l k n) (h2:wv L f d l m (d-k.length) k=wv L f d l n (d-k.length) k):EAt K F v L f d l m k:=by
 unfold EAt wo at *
 rw [h1,h2]; exact h
def RPair (K:PySem.W.Frag) (F:Hp) (L:List Nat) (f d:Nat) (l:List Nat) (x:V) (j:Nat) (k:List Nat):Prop:=∃ ch y,x=.ref ch/\SqT K F ch [vt k,y]/\((y=.non/\seen f d l k j=false)\/(seen f d l k j=true/\EAt K F y L f d l j k))
theorem RPair.same {F F':Hp} {L:List Nat} {f d:Nat} {l:List Nat} {x:V} {j:Nat} {k:List Nat} (h:RPair K F L f d l x j k) (s:Same F F'):RPair K F' L f d l x j k:=by
 obtain ⟨ch,y,e,h1,h2⟩:=h
 exact ⟨ch,y,e,same_tup s h1,h2.imp id λ ⟨a,b⟩=>⟨a,b.same s⟩⟩
def RL (K:PySem.W.Frag) (F:Hp) (L:List Nat) (f d:Nat) (l:List Nat) (v:V) (j:Nat):Prop:=∃ a xs,v=.ref a/\SqL K F a xs/\xs.length=d+1/\∀ (i:Nat) x,xs[i]?=some x->RPair K F L f d l x j ((eldL f d l j).take (d-i))
theorem RL.same {F F':Hp} {L:List Nat} {f d:Nat} {l:List Nat} {v:V} {j:Nat} (h:RL K F L f d l v j) (s:Same F F'):RL K F' L f d l v j:=by
 obtain ⟨a,xs,e,h1,h2,h3⟩:=h
 exact ⟨a,xs,e,same_lst s h1,h2,λ i x hx=>(h3 i x hx).same s⟩
structure GT (K:PySem.W.Frag) (F:Hp) (L:List Nat) (f d:Nat) (l:List Nat) (kvs:List (Key × V)) (m:List Nat->Nat):Prop where
 non:∀ kn,valV kvs (key kn)=none->kn.length<=d->seen f d l kn (m kn)=false
 som:∀ kn v,valV kvs (key kn)=some v->kn.length<=d->seen f d l kn (m kn)=true/\EAt K F v L f d l (m kn) kn
theorem GT.same {F F':Hp} {L:List Nat} {f d:Nat} {l:List Nat} {kvs:List (Key × V)} {m:List Nat->Nat} (h:GT K F L f d l kvs m) (s:Same F F'):GT K F' L f d l kvs m :=
 ⟨h.non,λ kn v e hk=>⟨(h.som kn v e hk).1,(h.som kn v e hk).2.same s⟩⟩
def gflds (fr:Addr) (x:V) (tb rp:Addr):List (Str × V):=[("frame",.ref fr),("text",x),("table",.ref tb),("replaced",.ref rp)]
theorem gf_frame (fr:Addr) (x:V) (tb rp:Addr):(gflds fr x tb rp).lookup ("frame" : Str)=some (.ref fr):=rfl
theorem gf_text (fr:Addr) (x:V) (tb rp:Addr):(gflds fr x tb rp).lookup ("text" : Str)=some x:=by with_unfolding_all rfl
theorem gf_table (fr:Addr) (x:V) (tb rp:Addr):(gflds fr x tb rp).lookup ("table" : Str)=some (.ref tb):=by with_unfolding_all rfl
theorem gf_rep (fr:Addr) (x:V) (tb rp:Addr):(gflds fr x tb rp).lookup ("replaced" : Str)=some (.ref rp):=by with_unfolding_all rfl
theorem gf_made (fr:Addr) (x:V) (tb rp:Addr):putF ("replaced" : Str) (.ref rp) (putF ("table" : Str) (.ref tb) (putF ("text" : Str) x (putF ("frame" : Str) (.ref fr) [])))=gflds fr x tb rp:=by with_unfolding_all rfl
theorem gf_put (fr:Addr) (x y:V) (tb rp:Addr):putF ("text" : Str) y (gflds fr x tb rp)=gflds fr y tb rp:=by with_unfolding_all rfl
theorem gf_no (fr:Addr) (x:V) (tb rp:Addr):(gflds fr x tb rp).lookup ("entry" : Str)=none/\(gflds fr x tb rp).lookup ("branching" : Str)=none/\(gflds fr x tb rp).lookup ("changes" : Str)=none/\(gflds fr x tb rp).lookup ("weight" : Str)=none/\(gflds fr x tb rp).lookup ("grow" : Str)=none/\(gflds fr x tb rp).lookup ("shrink" : Str)=none/\(gflds fr x tb rp).lookup ("weight_with" : Str)=none:=by
 refine ⟨?_,?_,?_,?_,?_,?_,?_⟩<;>with_unfolding_all rfl
structure GO (K:PySem.W.Frag) (C p tb rp fr:Addr) (H:Hp) (f:Nat) (L:List Nat) (d:Nat) (l:List Nat) (n B:Nat):Prop where
 ob:∃ dx,H p=some (.ins C dx (gflds fr (vt (l.take n)) tb rp))
 td:∃ kvs,H tb=some (.dK kvs)/\kvs.length<=B/\GT K (off p tb rp H) (f::L) f d l kvs (λ _=>n)
 rl:∃ rs,H rp=some (.lst rs)/\rs.length=n/\∀ (j:Nat) v,rs[j]?=some v->RL K (off p tb rp H) (f::L) f d l v j
 fa:SqT K (off p tb rp H) fr [vt (f::L),.int d]
theorem GO.three {C p tb rp fr:Addr} {H:Hp} {f:Nat} {L:List Nat} {d:Nat} {l:List Nat} {n B:Nat} (h:GO K C p tb rp fr H f L d l n B):Three C p tb rp H :=
 ⟨let ⟨a,e⟩:=h.ob; ⟨a,_,e⟩,let ⟨a,e,_⟩:=h.td; ⟨a,e⟩,let ⟨a,e,_⟩:=h.rl; ⟨a,e⟩⟩
theorem GO.same {C p tb rp fr:Addr} {H H':Hp} {f:Nat} {L:List Nat} {d:Nat} {l:List Nat} {n B:Nat} (h:GO K C p tb rp fr H f L d l n B) (s:Same H H'):GO K C p tb rp fr H' f L d l n B :=
 ⟨let ⟨a,e⟩:=h.ob; ⟨a,s _ _ e⟩,let ⟨a,e,z,g⟩:=h.td; ⟨a,s _ _ e,z,g.same (off_same s)⟩,let ⟨a,e,z,y⟩:=h.rl; ⟨a,s _ _ e,z,λ j v hj=>(y j v hj).same (off_same s)⟩,same_tup (off_same s) h.fa⟩
theorem one_fr (T:Txt K mg t) (H:Hp):FrV K H (.ref t.q_ONE) 1 1:=⟨t.q_ONE,1,1,rfl,.inr T.tc_ONE,by decide,by decide,rfl,by decide,Int.le_refl _,Int.le_refl _⟩
def spGInit (C:Addr):Sp:=λ vs H Q _=>∃ (p fr dx:Addr),vs=[.ref p,.ref fr]/\H p=some (.ins C dx [])/\∀ tb rp H',H tb=none->H rp=none->tb ≠ rp->H' p=some (.ins C dx (gflds fr (vt []) tb rp))->H' tb=some (.dK [])->H' rp=some (.lst [])->
 (∀ b o,H b=some o->b ≠ p->H' b=some o)->Q .non H'
theorem ok_Qr (T:Txt K mg t):FnOk P w K mg base (CX1 P w) 1 t.a_Qr t.fd_Qr ["self", "frame"] (spGInit t.c_Growth):=by
 refine T.F_Qr.okn (k:=0) sc_Qr (λ vs H Q E h=>?_) (λ cdv A outer s H vs Q E hr h=>?_)
 ·obtain ⟨p,fr,dx,rfl,_⟩:=h; rfl
 obtain ⟨p,fr,dx,rfl,hp,q⟩:=h
 refine ⟨_,(pss_cons (ps_fld (pv 0) (pv 1) rfl)
  (pss_cons (ps_fld (pv 0) pe_str rfl)
  (pss_cons (ps_fld (pv 0) pe_dnewK rfl)
  (pss_one (ps_fld (pv 0) (pe_lst pa_nil) rfl))))),?_⟩
 refine ⟨_,rfl,_,rfl,p,_,dx,[],rfl,hp,T.cl_Growth,T.na_Growth_frame,(by show 0<1000; decide),?_⟩
 refine ⟨_,rfl,p,_,dx,_,rfl,upd_same,T.cl_Growth,T.na_Growth_text,(by show 1<1000; decide),?_⟩
 intro tb htb
 have hu:∀ (F:Hp) o x,upd F p o x=none->p ≠ x:=λ F o x z e=>by rw [← e,upd_same] at z; cases z
 have n1:p ≠ tb:=hu _ _ _ htb
 rw [upd_ne n1.symm,upd_ne n1.symm] at htb
 refine ⟨_,rfl,p,_,dx,_,rfl,(by rw [upd_ne n1]; exact upd_same),T.cl_Growth,T.na_Growth_table,(by show 2<1000; decide),?_⟩
 refine ⟨by rw [sizeLine_eq]; show 0<=_; decide,λ rp hrp=>?_⟩
 have n2:p ≠ rp:=hu _ _ _ hrp
 rw [upd_ne n2.symm] at hrp
 have n3:tb ≠ rp:=λ e=>by rw [← e,upd_same] at hrp; cases hrp
 rw [upd_ne n3.symm,upd_ne n2.symm,upd_ne n2.symm] at hrp
 refine ⟨_,rfl,p,_,dx,_,rfl,(by rw [upd_ne n2]; exact upd_same),T.cl_Growth,T.na_Growth_replaced,(by show 3<1000; decide),?_⟩
 refine q tb rp _ htb hrp n3 ?_ ?_ ?_ λ b o hb hne=>?_
 ·rw [upd_same]; exact congrArg (λ z=>some (HO.ins t.c_Growth dx z)) ((gf_made fr _ tb rp).trans (by rw [str_nil0]))
 ·rw [upd_ne n1.symm,upd_ne n3,upd_ne n1.symm,upd_same]
 ·rw [upd_ne n2.symm,upd_same]
 ·have b1:b ≠ tb:=λ e=>by rw [e,htb] at hb; cases hb
  have b2:b ≠ rp:=λ e=>by rw [e,hrp] at hb; cases hb
  rw [upd_ne hne,upd_ne b2,upd_ne hne,upd_ne b1,upd_ne hne,upd_ne hne]; exact hb
def spEntry (K:PySem.W.Frag) (C:Addr):Sp:=λ vs H Q _=>∃ (p tb rp fr:Addr) (f:Nat) (L:List Nat) (d:Nat) (l:List Nat) (n B:Nat) (k:List Nat),vs=[.ref p,vt k]/\GO K C p tb rp fr H f L d l n B/\(f::L).length<=100/\k.length<=d/\
 ∀ z H',Same H H'->EAt K (off p tb rp H') z (f::L) f d l n k->Q z H'
theorem ok_Ql (T:Txt K mg t):FnOk P w K mg base (CX1 P w) 2 t.a_Ql t.fd_Ql ["self", "knot"] (spEntry K t.c_Growth):=by
 refine T.F_Ql.okn (k:=1) sc_Ql (λ vs H Q E h=>?_) (λ cdv A outer s H vs Q E hr h=>?_)
 ·obtain ⟨p,tb,rp,fr,f,L,d,l,n,B,k,rfl,_⟩:=h; rfl
 obtain ⟨p,tb,rp,fr,f,L,d,l,n,B,k,rfl,G,hL,hk,q⟩:=h
 have G_Qw:=@ok_Qw P w K mg base t T
 obtain ⟨dx,ob⟩:=G.ob
 obtain ⟨kvs,td,kl,gt⟩:=G.td
 refine ⟨_,(pss_one (ps_ret (pe_dget2 (hu_of hr) (pe_fld (pv 0) rfl) (pv 1) (pe_tup (PAs.h (pas_cons (pe_call G_Qw hr rfl T.m_Qw T.F_Qw.kp T.b_Qw .nil pass1 (pa_cons (pe_fld (pv 0) rfl) pa_nil)) (pas_cons (pe_glob (v:=.ref t.q_ONE) rfl T.m_ONE rfl) (pas_cons (pe_glob (v:=.ref t.q_ONE) rfl T.m_ONE rfl) pas_nil))))) ⟨rfl,rfl,rfl,rfl⟩))),?_⟩
 refine ⟨_,rfl,p,_,dx,_,_,rfl,ob,T.cl_Growth,T.na_Growth_table,gf_table ..,tb,rfl,.inl ⟨kvs,.inl td⟩,_,rfl,?_⟩
 refine ⟨_,rfl,p,_,dx,_,_,rfl,ob,T.cl_Growth,T.na_Growth_frame,gf_frame ..,?_⟩
 refine ⟨fr,f::L,_,rfl,same_tup (off_sub _ _ _ _) G.fa,hL,λ r H1 s1 hr0 e1=>?_⟩
 refine ⟨by rw [sizeLine_eq]; show 3<=_; decide,λ u hu=>?_⟩
 have s2:Same H (upd H1 u (.tup [.ref r,.ref t.q_ONE,.ref t.q_ONE])):=new_same hu s1
 have e2:upd H1 u (.tup [.ref r,.ref t.q_ONE,.ref t.q_ONE]) u=some (.tup [.ref r,.ref t.q_ONE,.ref t.q_ONE]):=upd_same
 have e3:=new_at (o:=.tup [.ref r,.ref t.q_ONE,.ref t.q_ONE]) hu e1
 try dsimp (config:={ proj:=false,eta:=false,zeta:=false,iota:=false }) only [tNil,tC]
 generalize upd H1 u (.tup [.ref r,.ref t.q_ONE,.ref t.q_ONE])=H2 at s2 e2 e3 ⊢
 refine ⟨valV kvs (key k),DGet.k (k:=key k) (s2 _ _ td),?_⟩
 refine q _ _ s2 ?_
 cases z:valV kvs (key k) with
 | some v=>exact (gt.som k v z hk).2.same (off_same s2)
 | none =>
   have hs:=gt.non k z hk
   have T3:=G.three.same s2
   have nr:r ≠ p/\r ≠ tb/\r ≠ rp:=by
    obtain ⟨⟨_,_,a1⟩,⟨_,a2⟩,⟨_,a3⟩⟩:=G.three
    exact ⟨λ y=>(by rw [y,a1] at hr0; cases hr0),λ y=>(by rw [y,a2] at hr0; cases hr0),λ y=>(by rw [y,a3] at hr0; cases hr0)⟩
   refine ⟨u,r,.ref t.q_ONE,.ref t.q_ONE,rfl,T3.tup (.inl (.inl e2)),.inl (.inl (off_at ?_ nr.1 nr.2.1 nr.2.2)),?_,?_⟩
   ·rw [cntL_zero hs]; exact e3
   ·rw [wo_unseen hs]; exact one_fr T _
   ·rw [wv_unseen hs]; exact one_fr T _
def mn (H:Hp) (D:Addr):Hp:=λ b=>if b=D then none else H b
theorem mn_same (H:Hp) (D:Addr):Same (mn H D) H:=λ b o h=>by
 unfold mn at h
 by_cases z:b=D
 ·rw [if_pos z] at h; cases h
 ·rw [if_neg z] at h; exact h
theorem mn_at {H:Hp} {D a:Addr} {o:HO} (h:H a=some o) (ne:a ≠ D):mn H D a=some o:=by unfold mn; rw [if_neg ne]; exact h
theorem mn_up {H1 H2:Hp} {D:Addr} (h:∀ b o,b ≠ D->H1 b=some o->H2 b=some o):Same (mn H1 D) (mn H2 D):=λ b o e=>by
 unfold mn at e ⊢
 by_cases z:b=D
 ·rw [if_pos z] at e; cases e
 ·rw [if_neg z] at e ⊢; exact h b o z e
theorem ne_lst' {H:Hp} {D a:Addr} {ys vs:List V} (hD:H D=some (.lst ys)) (h:H a=some (.tup vs)):a ≠ D:=λ z=>by rw [z,hD] at h; cases h
theorem SqT.minus {H:Hp} {D a:Addr} {ys vs:List V} (hD:H D=some (.lst ys)) (h:SqT K H a vs):SqT K (mn H D) a vs:=by
 rcases h with (h | ⟨o,h⟩) | h
 ·exact .inl (.inl (mn_at h (ne_lst' hD h)))
 ·exact .inl (.inr ⟨o,mn_at h (λ z=>by rw [z,hD] at h; cases h)⟩)
 ·exact .inr h
theorem FrV.minus {H:Hp} {D:Addr} {ys:List V} (hD:H D=some (.lst ys)) {x:V} {A B:Int} (h:FrV K H x A B):FrV K (mn H D) x A B:=by
 obtain ⟨p,n,d,e,h1,h2⟩:=h
 exact ⟨p,n,d,e,SqT.minus hD h1,h2⟩
theorem wb_le {L:List Nat} {f d:Nat} {l:List Nat} (S:Sm L f d l) {r m:Nat} (hr:r<=d) (hm:m<=l.length):wb r m<=8900:=by
 refine Nat.le_trans ?_ S.lb
 unfold wb
 exact Nat.mul_le_mul (by omega) hm
theorem lt_pow {x:Int} {a b:Nat} (h:x<=2^a) (hab:a<b):x<2^b:=by
 have h1:(2:Int)^(a+1)<=2^b:=ipow_le (by omega)
 have h2:(2:Int)^(a+1)=2^a*2:=Int.pow_succ ..
 have h3:=ipow_pos a
 omega
theorem prod_pre {xs:List Int} (h:∀ x ∈ xs,1<=x) {e:Nat} (hp:prodI xs<=2^e) (i:Nat):prodI (xs.take i)<=2^e:=by
 have h1:prodI (xs.take i)<=prodI (xs.take i++xs.drop i):=prodI_le (λ x m=>h x (List.mem_of_mem_take m)) (λ x m=>h x (List.mem_of_mem_drop m))
 rw [List.take_append_drop] at h1
 exact Int.le_trans h1 hp
def wch (L:List Nat) (f d:Nat) (l:List Nat) (n r:Nat) (k:List Nat):List (Int × Int):=L.map λ c=>wv L f d l n r (k++[c])
def spBranching (K:PySem.W.Frag) (C:Addr):Sp:=λ vs H Q _=>∃ (p tb rp fr:Addr) (f:Nat) (L:List Nat) (d:Nat) (l:List Nat) (n B:Nat) (k:List Nat) (r:Nat) (c0:Nat) (ch:Addr) (v:V),vs=[.ref p,vt k,.ref ch]/\GO K C p tb rp fr H f L d l n B/\Sm (f::L) f d l/\n<l.length/\k.length+(r+1)=d/\
 (∀ c,(k++[c]) <+: eldL f d l n ↔ c=c0)/\SqT K H ch [vt (k++[c0]),v]/\EAt K H v (f::L) f d l (n+1) (k++[c0])/\∀ z H',Same H H'->FrV K H' z (prodW (wch (f::L) f d l (n+1) r k)).1 (prodW (wch (f::L) f d l (n+1) r k)).2->Q z H'
theorem ok_Qc (T:Txt K mg t):FnOk P w K mg base (CX1 P w) 5 t.a_Qc t.fd_Qc ["self", "knot", "changed"] (spBranching K t.c_Growth):=by
 refine T.F_Qc.okn (k:=4) sc_Qc (λ vs H Q E h=>?_) (λ cdv A outer s H vs Q E hr h=>?_)
 ·obtain ⟨p,tb,rp,fr,f,L,d,l,n,B,k,r,c0,ch,v,rfl,_⟩:=h; rfl
 obtain ⟨p,tb,rp,fr,f,L,d,l,n,B,k,r,c0,ch,v,rfl,G,S,hn,hk,pre,hch,hv,q⟩:=h
 have G_Ql:=(@ok_Ql P w K mg base t T).mono (show 2<=4 by decide)
 have G_Qbm:=@ok_Qbm P w K mg base t T
 have l6:=S.l6
 have d6:=S.d6
 have hwv:∀ c,P2 (wv (f::L) f d l (n+1) r (k++[c])) (wb r (sg f d l (k++[c]) (n+1)).length):=λ c=>wv_ok S (by omega) r (k++[c]) (by rw [List.length_append]; show _+1+_=_; omega)
 have hW:P2 (prodW (wch (f::L) f d l (n+1) r k)) 8900:=(wch_ok S (show n+1<=l.length by omega) (show k.length<d by omega) hwv).mono (wb_le S (by omega) (Nat.le_trans (sg_le ..) (by omega)))
 have hWe:∀ e ∈ wch (f::L) f d l (n+1) r k,P2 e 8900:=λ e he=>by
  obtain ⟨c,_,rfl⟩:=List.mem_map.mp he
  exact (hwv c).mono (wb_le S (by omega) (Nat.le_trans (sg_le ..) (by omega)))
 refine ⟨_,(pss_cons (ps_set (i:=3) sc_Qc.nd rfl (Or.inl rfl) (pe_lst pa_nil))
  (pss_cons (ps_for PassesOwn.never rfl (piAny (pe_ix ixAny (pe_fld (pv 0) rfl) pe_int (λ _ _=>rfl))) (pg_name (i:=4) sc_Qc.nd rfl (Or.inl rfl)) (pss_one (ps_if (pt_cmpR (oEqA (hr.units0)) (pe_op oAddN (pv 1) (pv 4)) (pe_ix ixAny (pv 2) pe_int (λ _ _=>rfl)) (nomark _)) (pss_one (ps_expr (pe_bm PySem.F.plainAttrs_list PySem.F.slot_list_append PySem.F.type_list_append mt_app (pv 3) (pa_cons (pe_ix ixAny (pe_ix ixAny (pv 2) pe_int (λ _ _=>rfl)) (pe_glob (v:=.int 2) rfl T.m_WEIGHT ⟨_,rfl⟩) (λ _ _=>rfl)) pa_nil)))) (pss_one (ps_expr (pe_bm PySem.F.plainAttrs_list PySem.F.slot_list_append PySem.F.type_list_append mt_app (pv 3) (pa_cons (pe_ix ixAny (pe_meth (pv 0) T.cl_Growth T.me_Ql G_Ql hr T.b_Ql .nil pass1 (pa_cons (pe_op oAddN (pv 1) (pv 4)) pa_nil)) (pe_glob (v:=.int 2) rfl T.m_WEIGHT ⟨_,rfl⟩) (λ _ _=>rfl)) pa_nil)))))))
  (pss_one (ps_ret (pe_call G_Qbm hr rfl T.m_Qbm T.F_Qbm.kp T.b_Qbm .nil pass1 (pa_cons (pv 3) pa_nil)))))),?_⟩
 obtain ⟨dx,ob⟩:=G.ob
 refine ⟨by rw [sizeLine_eq]; show 0<=_; decide,λ D hD=>?_⟩
 have s0:Same H (upd H D (.lst [])):=same_new hD _
 have e0:upd H D (.lst []) D=some (.lst []):=upd_same
 try dsimp (config:={ proj:=false,eta:=false,zeta:=false,iota:=false }) only [tNil,tC]
 generalize upd H D (.lst [])=H0 at s0 e0 ⊢
 refine ⟨_,rfl,p,_,dx,_,_,rfl,s0 _ _ ob,T.cl_Growth,T.na_Growth_frame,gf_frame _ _ _ _,?_⟩
 refine ixT (same_tup s0 (same_tup (off_sub _ _ _ _) G.fa)) rfl (.inr (.inr ⟨_,rfl,?_⟩))
 refine for_walk (walk_tx (f::L)) (λ i σ H'=>∃ ts r4,σ=[some (.ref p),some (vt k),some (.ref ch),some (.ref D),r4]/\Same H H'/\H' D=some (.lst ts)/\ts.length=i/\
  ∀ (j:Nat) v e,ts[j]?=some v->(wch (f::L) f d l (n+1) r k)[j]?=some e->FrV K (mn H' D) v e.1 e.2) ⟨[],_,rfl,s0,e0,rfl,λ j v c h=>nomatch h⟩ (λ _ _ _ _ _=>trivial) ?_ ?_
 ·rintro i x _ H1 hx ⟨ts,r4,rfl,g,eD,hts,hfr⟩
  obtain ⟨c,hc,rfl⟩:=sign_at hx
  have hi:=(List.getElem?_eq_some_iff.mp hx).1
  have hil:=(List.getElem?_eq_some_iff.mp hc).1
  have hkc:(k++[c]).length=k.length+1:=by rw [List.length_append]; rfl
  have fin:∀ (H2:Hp) (y:V),Same H1 H2->FrV K H2 y (wv (f::L) f d l (n+1) r (k++[c])).1 (wv (f::L) f d l (n+1) r (k++[c])).2->∃ ts' r4',([some (.ref p),some (vt k),some (.ref ch),some (.ref D),some (vt [c])]:L2.St)=[some (.ref p),some (vt k),some (.ref ch),some (.ref D),r4']/\Same H (upd H2 D (.lst (ts++[y])))/\upd H2 D (.lst (ts++[y])) D=some (.lst ts')/\ts'.length=i+1/\
   ∀ (j:Nat) v e,ts'[j]?=some v->(wch (f::L) f d l (n+1) r k)[j]?=some e->FrV K (mn (upd H2 D (.lst (ts++[y]))) D) v e.1 e.2:=λ H2 y s2 hy=>by
   have up:Same (mn H2 D) (mn (upd H2 D (.lst (ts++[y]))) D):=mn_up λ b o hb e=>by rw [upd_ne hb]; exact e
   refine ⟨ts++[y],_,rfl,over_same hD (g.trans s2),upd_same,by rw [List.length_append,hts]; rfl,λ j v e hv he=>?_⟩
   by_cases z:j<ts.length
   ·rw [List.getElem?_append_left z] at hv
    exact ((hfr j v e hv he).same (mn_up λ b o _ e=>s2 b o e)).same up
   ·rw [List.getElem?_append_right (by omega)] at hv
    have:j-ts.length=0:=by
     have:=(List.getElem?_eq_some_iff.mp hv).1
     simp at this; omega
    rw [this] at hv
    cases hv
    have ej:j=i:=by omega
    subst ej
    unfold wch at he
    rw [List.getElem?_map,hc] at he
    cases he
    exact (hy.minus (s2 _ _ eD)).same up
  refine ⟨_,rfl,_,rfl,.inr (.inl (catX (by rw [sizeLine_eq]; show _+1<=_; omega) ?_))⟩
  refine ⟨_,rfl,ixT (same_tup g hch) rfl (.inl ⟨rfl,_,rfl,if2 (λ z=>?_) (λ z=>?_)⟩)⟩
  ·have hcc:c=c0:=by
    have:=tx_inj (V.str.inj z)
    simpa using this
   subst hcc
   obtain ⟨e,qq,xw,yw,rfl,h1,h2,h3,h4⟩:=hv.same g
   have hr:d-(k++[c]).length=r:=by omega
   rw [hr] at h4
   refine ⟨_,rfl,tyL (.inl (.inl eD)),_,rfl,ixT (same_tup g hch) rfl (ixT h1 rfl ?_)⟩
   try dsimp (config:={ proj:=false,eta:=false,zeta:=false,iota:=false }) only [tNil,tC]
   exact appL eD (by rw [sizeLine_eq]; simp at hi; omega) (fin H1 yw (Same.refl _) h4)
  ·have hcc:¬ c=c0:=λ e=>z (by rw [e])
   refine ⟨_,rfl,tyL (.inl (.inl eD)),_,rfl,p,dx,_,rfl,g _ _ ob,(gf_no _ _ _ _).1,_,rfl,_,rfl,.inr (.inl (catX (by rw [sizeLine_eq]; show _+1<=_; omega) ?_))⟩
   refine ⟨p,tb,rp,fr,f,L,d,l,n,B,k++[c],rfl,G.same g,by omega,by omega,λ u H2 s2 hu=>?_⟩
   obtain ⟨e,qq,xw,yw,rfl,h1,h2,h3,h4⟩:=hu.same (off_sub _ _ _ _)
   have hr:d-(k++[c]).length=r:=by omega
   rw [hr,← wv_off r (λ y=>hcc ((pre c).mp y))] at h4
   refine ixT h1 rfl ?_
   try dsimp (config:={ proj:=false,eta:=false,zeta:=false,iota:=false }) only [tNil,tC]
   exact appL (s2 _ _ eD) (by rw [sizeLine_eq]; simp at hi; omega) (fin H2 yw s2 h4)
 ·rintro _ H1 ⟨ts,r4,rfl,g,eD,hts,hfr⟩
  rw [List.length_map] at hts
  have hl:ts.length=(wch (f::L) f d l (n+1) r k).length:=by unfold wch; rw [List.length_map]; exact hts
  refine ⟨_,rfl,D,ts,wch (f::L) f d l (n+1) r k,rfl,.inl (.inl eD),hl,λ j v e hv he=>(hfr j v e hv he).same (mn_same _ _),λ i=>?_,λ e he=>?_,λ H2 z s2 hz=>q z H2 (g.trans s2) hz⟩
  ·have p1:=prod_pre (xs:=(wch (f::L) f d l (n+1) r k).map (·.1)) (λ x hx=>by obtain ⟨e,he,rfl⟩:=List.mem_map.mp hx; exact (hWe e he).a1) hW.ab i
   have p2:=prod_pre (xs:=(wch (f::L) f d l (n+1) r k).map (·.2)) (λ x hx=>by obtain ⟨e,he,rfl⟩:=List.mem_map.mp hx; exact (hWe e he).b1) hW.bb i
   rw [List.map_take,List.map_take]
   exact ⟨lt_pow p1 (by decide),lt_pow p2 (by decide)⟩
  ·exact ⟨lt_pow (hWe e he).ab (by decide),lt_pow (hWe e he).bb (by decide)⟩
def spRaised (K:PySem.W.Frag):Sp:=λ vs H Q _=>∃ (a:Addr) (cs:List Nat) (i v:Nat),vs=[.ref a,.int (i:Int)]/\SqL K H a (ivs cs)/\cs[i]?=some v/\cs.length<=100/\∀ r H',Same H H'->H r=none->H' r=some (.lst (ivs (cs.set i (v+1))))->Q (.ref r) H'
theorem ok_Qbw (T:Txt K mg t):FnOk P w K mg base (CX1 P w) 1 t.a_Qbw t.fd_Qbw ["counts", "place"] (spRaised K):=by
 refine T.F_Qbw.okn (k:=0) sc_Qbw (λ vs H Q E h=>?_) (λ cdv A outer s H vs Q E hr h=>?_)
 ·obtain ⟨a,cs,i,v,rfl,_⟩:=h; rfl
 obtain ⟨a,cs,i,v,rfl,ha,hi,hl,q⟩:=h
 have hil:=(List.getElem?_eq_some_iff.mp hi).1
 refine ⟨_,(pss_cons (ps_set (i:=2) sc_Qbw.nd rfl (Or.inl rfl) (pe_callTy (callList rfl) rfl T.m_list bt_list (pa_cons (pv 0) pa_nil)))
  (pss_cons (ps_augS (pv 2) (pv 1) get_list pe_int ipAdd set_list)
  (pss_one (ps_ret (pv 2))))),?_⟩
 refine ⟨_,rfl,.inl ⟨a,_,rfl,.inl ha,λ r hr0=>?_⟩⟩
 have e1:upd H r (.lst (ivs cs)) r=some (.lst (ivs cs)):=upd_same
 refine ⟨_,rfl,_,rfl,r,_,_,_,rfl,rfl,SqL.of e1,by omega,atI_nat (by rw [ivs_get,hi]; rfl),?_⟩
 refine .inl ⟨_,_,rfl,rfl,?_⟩
 refine ⟨r,_,_,i,rfl,rfl,e1,?_,?_⟩
 ·unfold ixN; rw [if_pos (by omega),if_pos (by rw [ivs_len]; omega),Int.toNat_natCast]
 ·have e2:(ivs cs).set i (V.int ((v:Int)+1))=ivs (cs.set i (v+1)):=by rw [show ((v:Int)+1)=((v+1:Nat):Int) by omega,ivs_set]
  exact ⟨_,rfl,q r _ (over_same hr0 (same_new hr0 _)) hr0 (Eq.trans upd_same (congrArg (λ z=>some (HO.lst z)) e2))⟩
theorem at_last {α:Type} (xs:List α) (x:α):atI (xs++[x]) (-1)=some x:=by
 have h:ixN (xs++[x]).length (-1)=some ((xs++[x]).length-1):=by
  unfold ixN
  rw [if_neg (by omega),if_pos (by simp; omega)]
  congr 1; omega
 unfold atI
 rw [h]
 show (xs++[x])[(xs++[x]).length-1]?=_
 simp
theorem eldL_take (f d:Nat) (l:List Nat) {n:Nat} (hn:n<=l.length):eldL f d (l.take n) n=eldL f d l n:=by
 unfold eldL
 refine List.map_congr_left λ j _=>?_
 split
 ·rename_i z
  rw [List.getD_eq_getElem?_getD,List.getD_eq_getElem?_getD,List.getElem?_take_of_lt (by omega)]
 ·rfl
theorem off_up {p t r D b:Addr} {H:Hp} {o o':HO} (hb:b ≠ D) (h:off p t r H b=some o):off p t r (upd H D o') b=some o:=by
 unfold off at h ⊢
 split at h
 ·cases h
 ·rename_i z; rw [if_neg z,upd_ne hb]; exact h
def TD (K:PySem.W.Frag) (F:Hp) (L:List Nat) (f d:Nat) (l:List Nat) (n:Nat) (v:V) (k:List Nat):Prop:=∃ ch e,v=.ref ch/\SqT K F ch [vt k,e]/\EAt K F e L f d l n k
theorem TD.same {F F':Hp} {L:List Nat} {f d:Nat} {l:List Nat} {n:Nat} {v:V} {k:List Nat} (h:TD K F L f d l n v k) (s:Same F F'):TD K F' L f d l n v k:=by
 obtain ⟨ch,e,e0,h1,h2⟩:=h
 exact ⟨ch,e,e0,same_tup s h1,h2.same s⟩
def spChanges (K:PySem.W.Frag) (C:Addr):Sp:=λ vs H Q _=>∃ (p tb rp fr:Addr) (f:Nat) (L:List Nat) (d:Nat) (l:List Nat) (n B c:Nat),vs=[.ref p,vt [c]]/\GO K C p tb rp fr H f L d l n B/\Sm (f::L) f d l/\l[n]?=some c/\
 ∀ D H' ts,Same H H'->H D=none->H' D=some (.lst ts)->ts.length=d+1->(∀ (j:Nat) v,ts[j]?=some v->TD K (mn (off p tb rp H') D) (f::L) f d l (n+1) v ((eldL f d l n).take (d-j)))->Q (.ref D) H'
theorem ok_Qg (T:Txt K mg t):FnOk P w K mg base (CX1 P w) 6 t.a_Qg t.fd_Qg ["self", "sign"] (spChanges K t.c_Growth):=by
 refine T.F_Qg.okn (k:=5) sc_Qg (λ vs H Q E h=>?_) (λ cdv A outer s H vs Q E hr h=>?_)
 ·obtain ⟨p,tb,rp,fr,f,L,d,l,n,B,c,rfl,_⟩:=h; rfl
 obtain ⟨p,tb,rp,fr,f,L,d,l,n,B,c,rfl,G,S,hc,q⟩:=h
 have G_Qv:=(@ok_Qv P w K mg base t T).mono (show 1<=5 by decide)
 have G_Ql:=(@ok_Ql P w K mg base t T).mono (show 2<=5 by decide)
 have G_Qc:=(@ok_Qc P w K mg base t T)
 have G_Qby:=(@ok_Qby P w K mg base t T).mono (show 3<=5 by decide)
 have G_Qca:=(@ok_Qca P w K mg base t T).mono (show 3<=5 by decide)
 have G_plus:=(@ok_plus P w K mg base t T).mono (show 3<=5 by decide)
 have G_half:=(@ok_half P w K mg base t T).mono (show 3<=5 by decide)
 have G_Qbw:=(@ok_Qbw P w K mg base t T).mono (show 1<=5 by decide)
 have l6:=S.l6
 have d6:=S.d6
 have hnl:=(List.getElem?_eq_some_iff.mp hc).1
 have hcL:=S.al c (List.mem_of_getElem? hc)
 have ll:=S.ll
 obtain ⟨dx,ob⟩:=G.ob
 have fa:=same_tup (off_sub p tb rp H) G.fa
 have ht:(l.take n).length=n:=by rw [List.length_take]; omega
 have zt:(l.take n).length<=sizeLine:=by rw [sizeLine_eq]; omega
 refine ⟨_,(pss_cons (ps_set (i:=2) sc_Qg.nd rfl (Or.inl rfl) (pe_bm PySem.F.plainAttrs_str PySem.F.slot_str_index PySem.F.type_str_index mt_index (pe_ix ixAny (pe_fld (pv 0) rfl) pe_int (λ _ _=>rfl)) (pa_cons (pv 1) pa_nil)))
  (pss_cons (ps_set (i:=3) sc_Qg.nd rfl (Or.inl rfl) (pe_call G_Qv hr rfl T.m_Qv T.F_Qv.kp T.b_Qv .nil pass1 (PAs.h (pas_cons (pe_fld (pv 0) rfl) (pas_cons (pe_fld (pv 0) rfl) (pas_cons (pe_callB call_len rfl T.m_len bt_len (pa_cons (pe_fld (pv 0) rfl) pa_nil)) pas_nil))))))
  (pss_cons (ps_set (i:=4) sc_Qg.nd rfl (Or.inl rfl) (pe_lst pa_nil))
  (pss_cons (ps_for PassesOwn.never rfl (pi_rangeD rfl T.m_range (PAs.h (pas_cons (pe_callB call_len rfl T.m_len bt_len (pa_cons (pv 3) pa_nil)) (pas_cons (pe_un un_neg pe_int) (pas_cons (pe_un un_neg pe_int) pas_nil))))) (pg_name (i:=5) sc_Qg.nd rfl (Or.inl rfl)) (pss_cons (ps_set (i:=6) sc_Qg.nd rfl (Or.inl rfl) (pe_slice slAny (pv 3) po_none (po_some (pv 5))))
  (pss_cons (ps_set (i:=7) sc_Qg.nd rfl (Or.inl rfl) (pe_meth (pv 0) T.cl_Growth T.me_Ql G_Ql hr T.b_Ql .nil pass1 (pa_cons (pv 6) pa_nil)))
  (pss_cons (ps_set (i:=8) sc_Qg.nd rfl (Or.inl rfl) (pe_call G_Qby hr rfl T.m_Qby T.F_Qby.kp T.b_Qby .nil pass1 (PAs.h (pas_cons (pe_ix ixAny (pv 7) (pe_glob (v:=.int 1) rfl T.m_WORTH ⟨_,rfl⟩) (λ _ _=>rfl)) (pas_cons (pe_call G_Qca hr rfl T.m_Qca T.F_Qca.kp T.b_Qca .nil pass1 (PAs.h (pas_cons (pe_ix ixAny (pv 7) (pe_glob (v:=.int 0) rfl T.m_COUNTS ⟨_,rfl⟩) (λ _ _=>rfl)) (pas_cons (pv 2) pas_nil)))) pas_nil)))))
  (pss_cons (ps_set (i:=9) sc_Qg.nd rfl (Or.inl rfl) (pv 8))
  (pss_cons (ps_if (pt_cmpR oLt (pv 5) (pe_callB call_len rfl T.m_len bt_len (pa_cons (pv 3) pa_nil)) (nomark _)) (pss_one (ps_set (i:=9) sc_Qg.nd rfl (Or.inl rfl) (pe_call G_half hr rfl T.m_half T.F_half.kp T.b_half .nil pass1 (pa_cons (pe_call G_plus hr rfl T.m_plus T.F_plus.kp T.b_plus .nil pass1 (PAs.h (pas_cons (pv 8) (pas_cons (pe_meth (pv 0) T.cl_Growth T.me_Qc G_Qc hr T.b_Qc .nil pass1 (PAs.h (pas_cons (pv 6) (pas_cons (pe_ix ixAny (pv 4) (pe_un un_neg pe_int) (λ _ _=>rfl)) pas_nil)))) pas_nil)))) pa_nil)))) pss_nil)
  (pss_one (ps_expr (pe_bm PySem.F.plainAttrs_list PySem.F.slot_list_append PySem.F.type_list_append mt_app (pv 4) (pa_cons (pe_tup (PAs.h (pas_cons (pv 6) (pas_cons (pe_tup (PAs.h (pas_cons (pe_call G_Qbw hr rfl T.m_Qbw T.F_Qbw.kp T.b_Qbw .nil pass1 (PAs.h (pas_cons (pe_ix ixAny (pv 7) (pe_glob (v:=.int 0) rfl T.m_COUNTS ⟨_,rfl⟩) (λ _ _=>rfl)) (pas_cons (pv 2) pas_nil)))) (pas_cons (pv 8) (pas_cons (pv 9) pas_nil))))) pas_nil)))) pa_nil))))))))))
  (pss_one (ps_ret (pv 4))))))),?_⟩
 refine ⟨_,rfl,p,_,dx,_,_,rfl,ob,T.cl_Growth,T.na_Growth_frame,gf_frame _ _ _ _,?_⟩
 refine ixT fa rfl ⟨rfl,_,rfl,f::L,c,rfl,rfl,hcL,λ j0 hj0=>?_⟩
 refine ⟨_,rfl,p,_,dx,_,_,rfl,ob,T.cl_Growth,T.na_Growth_frame,gf_frame _ _ _ _,?_⟩
 refine ⟨_,rfl,p,_,dx,_,_,rfl,ob,T.cl_Growth,T.na_Growth_text,gf_text _ _ _ _,?_⟩
 refine ⟨_,rfl,p,_,dx,_,_,rfl,ob,T.cl_Growth,T.na_Growth_text,gf_text _ _ _ _,?_⟩
 refine ⟨_,_,rfl,lenvS zt,fr,f,L,d,n,l.take n,congrArg (λ z=>[V.ref fr,vt (l.take n),V.int z]) (congrArg Int.ofNat ht),fa,by omega,d6,by omega,by omega,?_⟩
 rw [eldL_take f d l (Nat.le_of_lt hnl)]
 have hz:=eldL_len f d l n
 generalize hpath:eldL f d l n=path at *
 have zp:path.length<=sizeLine:=by rw [sizeLine_eq]; omega
 refine ⟨by rw [sizeLine_eq]; show 0<=_; decide,λ D hD=>?_⟩
 have s0:Same H (upd H D (.lst [])):=same_new hD _
 have e0:upd H D (.lst []) D=some (.lst []):=upd_same
 try dsimp (config:={ proj:=false,eta:=false,zeta:=false,iota:=false }) only [tNil,tC]
 generalize upd H D (.lst [])=H0 at s0 e0 ⊢
 refine ⟨_,rfl,_,_,rfl,lenvS zp,_,rfl,_,rfl,d,congrArg (λ z:Nat=>[V.int (z:Int),V.int (-1),V.int (-1)]) hz,⟨by omega,by omega⟩,?_⟩
 refine for_ranges (λ i σ H'=>∃ ts r5 r6 r7 r8 r9,σ=[some (.ref p),some (vt [c]),some (.int (j0:Int)),some (vt path),some (.ref D),r5,r6,r7,r8,r9]/\Same H H'/\H' D=some (.lst ts)/\ts.length=i/\
  ∀ (j:Nat) v,ts[j]?=some v->TD K (mn (off p tb rp H') D) (f::L) f d l (n+1) v (path.take (d-j))) ?_ ?_ ?_
 ·exact ⟨[],_,_,_,_,_,rfl,s0,e0,rfl,λ j v h=>nomatch h⟩
 ·rintro i _ H1 hi ⟨ts,r5,r6,r7,r8,r9,rfl,g,eD,hts,hTD⟩
  have hid:i<=d:=by omega
  rw [show (d:Int)+(i:Int)*-1=((d-i:Nat):Int) by omega]
  show tSeq _ _ _ [some (.ref p),some (vt [c]),some (.int (j0:Int)),some (vt path),some (.ref D),some (.int ((d-i:Nat):Int)),r6,r7,r8,r9] H1
  refine ⟨_,rfl,_,rfl,_,rfl,.inr (cutT zp ?_)⟩
  rw [cut_to]
  have hkl:(path.take (d-i)).length=d-i:=by rw [List.length_take]; omega
  have hkp:path.take (d-i) <+: eldL f d l n:=hpath ▸ List.take_prefix _ _
  have hkn:d-(path.take (d-i)).length=i:=by omega
  have hT1:=hTD (i-1)
  generalize hK:path.take (d-i)=kn at hkl hkp hkn ⊢
  obtain ⟨v,hv,hset,hwo⟩:=wo_on S.nd hkp hj0 hc
  have hsum:(cntL (f::L) f d l kn n).sum=(sg f d l kn n).length:=sg_len S.nd S.al _ (Nat.le_of_lt hnl)
  have hsl:=sg_le f d l kn n
  have hvs:=le_sum hv
  have w0:=(wo_P2 S (Nat.le_of_lt hnl) kn).mono (show 8*(sg f d l kn n).length<=8900 by have:=wb_le S (r:=0) (Nat.zero_le d) (Nat.le_trans hsl (Nat.le_of_lt hnl)); unfold wb at this; omega)
  have hsl1:=sg_le f d l kn (n+1)
  have w1:=(wo_P2 S (show n+1<=l.length by omega) kn).mono (show 8*(sg f d l kn (n+1)).length<=8900 by have:=wb_le S (r:=0) (Nat.zero_le d) (Nat.le_trans hsl1 hnl); unfold wb at this; omega)
  refine ⟨_,rfl,p,dx,_,rfl,g _ _ ob,(gf_no _ _ _ _).1,_,rfl,p,tb,rp,fr,f,L,d,l,n,B,kn,rfl,G.same g,by omega,by omega,λ z H2 s2 hz2=>?_⟩
  obtain ⟨e,q0,xw,yw,rfl,h1,h2,h3,h4⟩:=hz2.same (off_sub _ _ _ _)
  clear h4
  have eD2:=s2 _ _ eD
  have g2:=g.trans s2
  refine ⟨_,rfl,ixT h1 rfl ⟨_,rfl,ixT h1 rfl ⟨_,rfl,q0,(cntL (f::L) f d l kn n).map (λ c:Nat=>(c:Int)),j0,v,rfl,h2,atI_nat (by rw [show ((cntL (f::L) f d l kn n).map (λ c:Nat=>(c:Int))).map V.int=ivs (cntL (f::L) f d l kn n) from rfl,ivs_get,hv]; rfl),?_⟩⟩⟩
  rw [ints_sum,List.length_map,cntL_len,hsum]
  have hM:1<=(f::L).length:=by simp
  have hbb:(2*((sg f d l kn n).length:Int)+((f::L).length:Int)).natAbs<2^10:=by omega
  have hb0:0<2*((sg f d l kn n).length:Int)+((f::L).length:Int):=by omega
  refine ⟨by omega,pow_lt hbb (by decide),λ r hr0=>?_⟩
  have hsh:FrV K (upd H2 r (.tup [.int (num (2*(v:Int)+1) (2*((sg f d l kn n).length:Int)+((f::L).length:Int))),.int (den (2*(v:Int)+1) (2*((sg f d l kn n).length:Int)+((f::L).length:Int)))])) (.ref r) (2*(v:Int)+1) (2*((sg f d l kn n).length:Int)+((f::L).length:Int)):=FrV.made (by omega) hb0 (.inl (.inl upd_same))
  have s3:=same_new hr0 (.tup [.int (num (2*(v:Int)+1) (2*((sg f d l kn n).length:Int)+((f::L).length:Int))),.int (den (2*(v:Int)+1) (2*((sg f d l kn n).length:Int)+((f::L).length:Int)))])
  generalize upd H2 r (.tup [.int (num (2*(v:Int)+1) (2*((sg f d l kn n).length:Int)+((f::L).length:Int))),.int (den (2*(v:Int)+1) (2*((sg f d l kn n).length:Int)+((f::L).length:Int)))])=H3 at hsh s3 ⊢
  rw [hsum] at hwo
  have hw1:(wo (f::L) f d l (n+1) kn).1=(wo (f::L) f d l n kn).1*(2*(v:Int)+1):=congrArg Prod.fst hwo
  have hw2:(wo (f::L) f d l (n+1) kn).2=(wo (f::L) f d l n kn).2*(2*((sg f d l kn n).length:Int)+((f::L).length:Int)):=congrArg Prod.snd hwo
  refine ⟨xw,.ref r,_,_,_,_,rfl,h3.same s3,hsh,lt_pow w0.ab (by decide),lt_pow w0.bb (by decide),lt_pow (show (2*(v:Int)+1)<=2^10 by omega) (by decide),lt_pow (show _<=(2:Int)^10 by omega) (by decide),by rw [← hw2]; exact lt_pow w1.bb (by decide),λ H4 wt s4 hwt=>?_⟩
  rw [← hw1,← hw2] at hwt
  have s24:=s3.trans s4
  have g4:=g2.trans s24
  have eD4:=s24 _ _ eD2
  have h14:=same_tup s24 h1
  have h24:=same_lst s24 h2
  clear hw1 hw2 hsh h3 hwo
  refine ⟨_,rfl,?_⟩
  dsimp (config:={ eta:=false,zeta:=false,iota:=false }) only [gName]
  refine meet (λ σ H5=>∃ z,σ=[some (.ref p),some (vt [c]),some (.int (j0:Int)),some (vt path),some (.ref D),some (.int ((d-i:Nat):Int)),some (vt kn),some (.ref e),some wt,some z]/\Same H4 H5/\FrV K H5 z (wv (f::L) f d l (n+1) i kn).1 (wv (f::L) f d l (n+1) i kn).2) (λ N hN=>?_) ?_
  ·refine ⟨_,rfl,_,rfl,_,_,rfl,lenvS zp,.inl ⟨_,_,rfl,rfl,_,rfl,if2 (λ z=>?_) (λ z=>?_)⟩⟩
   ·obtain ⟨r,rfl⟩:∃ r,i=r+1:=⟨i-1,by omega⟩
    obtain ⟨c0,hc0,pre⟩:=next_of (show kn.length<d by omega) hkp
    have hse:seen f d l kn (n+1)=true:=seen_yes (falls_iff.mpr hkp)
    have hmix:=wv_seen (L:=f::L) (r:=r) hse
    have hwk:=(wv_ok S (show n+1<=l.length by omega) (r+1) kn (by omega)).mono (wb_le S (show r+1<=d by omega) (Nat.le_trans hsl1 hnl))
    have hch:=(wch_ok S (show n+1<=l.length by omega) (show kn.length<d by omega) (λ c=>wv_ok S (show n+1<=l.length by omega) r (kn++[c]) (by rw [List.length_append]; show _+1+_=_; omega))).mono (wb_le S (show r<=d by omega) (Nat.le_trans hsl1 hnl))
    rcases List.eq_nil_or_concat ts with rfl | ⟨ts',u,rfl⟩
    ·simp at hts
    rw [List.concat_eq_append] at *
    have hu:=hT1 u (by rw [List.getElem?_append_right (by simp at hts; omega)]; simp at hts; simp [hts])
    have hk1:path.take (d-(r+1-1))=kn++[c0]:=by
     have e1:d-(r+1-1)=d-(r+1)+1:=by omega
     have e2:d-(r+1)<path.length:=by omega
     have e3:path.take (d-(r+1-1))=kn++[path[d-(r+1)]]:=by rw [e1,List.take_add_one,hK,List.getElem?_eq_getElem e2]; rfl
     have e4:=(pre path[d-(r+1)]).mp (by rw [hpath,← e3]; exact List.take_prefix _ _)
     rw [e3,e4]
    rw [hk1] at hu
    obtain ⟨ch,ev,rfl,hch1,hev⟩:=hu
    have sub:Same (mn (off p tb rp H1) D) H4:=((mn_same _ _).trans (off_sub _ _ _ _)).trans (s2.trans s24)
    refine ⟨_,rfl,_,rfl,p,dx,_,rfl,g4 _ _ ob,(gf_no _ _ _ _).2.1,_,rfl,_,rfl,_,rfl,ixL (.inl (.inl eD4)) (at_last ts' _) ?_⟩
    refine ⟨p,tb,rp,fr,f,L,d,l,n,B,kn,r,c0,ch,ev,rfl,G.same g4,S,hnl,by omega,pre,same_tup sub hch1,hev.same sub,λ y H5 s5 hy=>?_⟩
    have b1:=hwk.ab
    have b2:=hwk.bb
    rw [hmix] at b1 b2
    have bBD:(wo (f::L) f d l (n+1) kn).2*(prodW (wch (f::L) f d l (n+1) r kn)).2<=2^8900:=by
     have:2*((wo (f::L) f d l (n+1) kn).2*(prodW (wch (f::L) f d l (n+1) r kn)).2)<=2^8900:=b2
     have p1:=Int.mul_pos (show 0<(wo (f::L) f d l (n+1) kn).2 by have:=w1.b1; omega) (show 0<(prodW (wch (f::L) f d l (n+1) r kn)).2 by have:1<=(prodW (wch (f::L) f d l (n+1) r kn)).2:=hch.b1; omega)
     omega
    refine ⟨wt,y,_,_,_,_,rfl,hwt.same s5,hy,lt_pow w1.ab (by decide),lt_pow w1.bb (by decide),lt_pow hch.ab (by decide),lt_pow hch.bb (by decide),lt_pow bBD (by decide),λ H6 y6 s6 hy6=>?_⟩
    refine ⟨y6,_,_,rfl,hy6,lt_pow b1 (by decide),lt_pow bBD (by decide),λ H7 y7 s7 hy7=>?_⟩
    exact hN _ _ ⟨y7,rfl,(s5.trans s6).trans s7,by rw [hmix]; exact hy7⟩
   ·have hi0:i=0:=by omega
    subst hi0
    exact hN _ _ ⟨wt,rfl,Same.refl _,hwt⟩
  rintro _ H5 ⟨z,rfl,s5,hz5⟩
  refine ⟨_,rfl,tyL (.inl (.inl (s5 _ _ eD4))),_,rfl,_,rfl,ixT (same_tup s5 h14) rfl ⟨_,rfl,q0,cntL (f::L) f d l kn n,j0,v,rfl,same_lst s5 h24,hv,by rw [cntL_len]; omega,λ r6 H6 s6 hr6 e6=>?_⟩⟩
  refine ⟨_,rfl,_,rfl,by rw [sizeLine_eq]; show 3<=_; decide,λ u hu=>⟨by rw [sizeLine_eq]; show 2<=_; decide,λ ch hch=>?_⟩⟩
  try dsimp (config:={ proj:=false,eta:=false,zeta:=false,iota:=false }) only [tNil,tC]
  have s7:Same H6 (upd (upd H6 u (.tup [.ref r6,wt,z])) ch (.tup [vt kn,.ref u])):=(same_new hu _).trans (same_new hch _)
  have e7u:upd (upd H6 u (.tup [.ref r6,wt,z])) ch (.tup [vt kn,.ref u]) u=some (.tup [.ref r6,wt,z]):=new_at hch upd_same
  have e7c:upd (upd H6 u (.tup [.ref r6,wt,z])) ch (.tup [vt kn,.ref u]) ch=some (.tup [vt kn,.ref u]):=upd_same
  generalize upd (upd H6 u (.tup [.ref r6,wt,z])) ch (.tup [vt kn,.ref u])=H7 at s7 e7u e7c ⊢
  have s47:=(s5.trans s6).trans s7
  have eD7:=s47 _ _ eD4
  have g7:=g4.trans s47
  have T3:=G.three.same g7
  have nD:D ≠ p/\D ≠ tb/\D ≠ rp:=by
   obtain ⟨⟨_,_,a1⟩,⟨_,a2⟩,⟨_,a3⟩⟩:=G.three
   exact ⟨λ y=>(by rw [y,a1] at hD; cases hD),λ y=>(by rw [y,a2] at hD; cases hD),λ y=>(by rw [y,a3] at hD; cases hD)⟩
  have n6:r6 ≠ p/\r6 ≠ tb/\r6 ≠ rp/\r6 ≠ D:=by
   obtain ⟨⟨_,_,a1⟩,⟨_,a2⟩,⟨_,a3⟩⟩:=G.three.same (g4.trans s5)
   have a4:=s5 _ _ eD4
   exact ⟨λ y=>(by rw [y,a1] at hr6; cases hr6),λ y=>(by rw [y,a2] at hr6; cases hr6),λ y=>(by rw [y,a3] at hr6; cases hr6),λ y=>(by rw [y,a4] at hr6; cases hr6)⟩
  have oD7:off p tb rp H7 D=some (.lst ts):=off_at eD7 nD.1 nD.2.1 nD.2.2
  have tdn:TD K (mn (off p tb rp H7) D) (f::L) f d l (n+1) (.ref ch) kn:=by
   refine ⟨ch,.ref u,rfl,SqT.minus oD7 (T3.tup (.inl (.inl e7c))),u,r6,wt,z,rfl,SqT.minus oD7 (T3.tup (.inl (.inl e7u))),?_,(T3.fr (hwt.same s47)).minus oD7,?_⟩
   ·rw [hset]
    exact .inl (.inl (mn_at (off_at (s7 _ _ e6) n6.1 n6.2.1 n6.2.2.1) n6.2.2.2))
   ·rw [hkn]
    exact (T3.fr (hz5.same (s6.trans s7))).minus oD7
  refine appL eD7 (by rw [sizeLine_eq]; omega) ?_
  have up:Same (mn (off p tb rp H7) D) (mn (off p tb rp (upd H7 D (.lst (ts++[.ref ch])))) D):=mn_up λ b o hb e=>off_up hb e
  refine ⟨ts++[.ref ch],_,_,_,_,_,rfl,over_same hD g7,upd_same,by rw [List.length_append,hts]; rfl,λ j v hj=>?_⟩
  by_cases y:j<ts.length
  ·rw [List.getElem?_append_left y] at hj
   exact ((hTD j v hj).same (mn_up λ b o _ e=>off_same (s2.trans (s24.trans s47)) b o e)).same up
  ·rw [List.getElem?_append_right (by omega)] at hj
   have:j-ts.length=0:=by
    have:=(List.getElem?_eq_some_iff.mp hj).1
    simp at this; omega
   rw [this] at hj
   cases hj
   have ej:j=i:=by omega
   rw [ej,hK]
   exact tdn.same up
 ·rintro _ H1 ⟨ts,r5,r6,r7,r8,r9,rfl,g,eD,hts,hTD⟩
  exact ⟨_,rfl,q D H1 ts g hD eD (by omega) hTD⟩
theorem putK_len {κ:Type} [DecidableEq κ] (kvs:List (κ × V)) (k:κ) (v:V):(putK kvs k v).length<=kvs.length+1:=by
 unfold putK
 split
 ·rw [List.length_map]; omega
 ·rw [List.length_append]; exact Nat.le_refl _
theorem off_eq {p t r:Addr} {H H':Hp} (h:∀ b,b ≠ p->b ≠ t->b ≠ r->H' b=H b):off p t r H'=off p t r H:=by
 funext b
 unfold off
 by_cases z:b=p\/b=t\/b=r
 ·rw [if_pos z,if_pos z]
 ·rw [if_neg z,if_neg z]
  exact h b (λ e=>z (.inl e)) (λ e=>z (.inr (.inl e))) (λ e=>z (.inr (.inr e)))
theorem GT.put {F:Hp} {L:List Nat} {f d:Nat} {l:List Nat} {kvs:List (Key × V)} {m m':List Nat->Nat} {kn:List Nat} {e:V} (h:GT K F L f d l kvs m) (hs:seen f d l kn (m' kn)=true) (he:EAt K F e L f d l (m' kn) kn) (hm:∀ k,k ≠ kn->m' k=m k):GT K F L f d l (putK kvs (key kn) e) m':=by
 refine ⟨λ k hk hl=>?_,λ k v hk hl=>?_⟩
 ·rw [valV_put] at hk
  by_cases z:key k=key kn
  ·rw [if_pos z] at hk; cases hk
  ·rw [if_neg z] at hk
   rw [hm k λ y=>z (by rw [y])]
   exact h.non k hk hl
 ·rw [valV_put] at hk
  by_cases z:key k=key kn
  ·rw [if_pos z] at hk
   cases hk
   have:=key_inj z
   subst this
   exact ⟨hs,he⟩
  ·rw [if_neg z] at hk
   rw [hm k λ y=>z (by rw [y])]
   exact h.som k v hk hl
theorem GT.next {F:Hp} {L:List Nat} {f d:Nat} {l:List Nat} {kvs:List (Key × V)} {n:Nat} {m:List Nat->Nat} (h:GT K F L f d l kvs m) (h1:∀ k,k.length<=d->k <+: eldL f d l n->m k=n+1) (h2:∀ k,¬ k <+: eldL f d l n->m k=n):GT K F L f d l kvs (λ _=>n+1):=by
 refine ⟨λ k hk hl=>?_,λ k v hk hl=>?_⟩
 ·by_cases z:k <+: eldL f d l n
  ·have:=h.non k hk hl
   rw [h1 k hl z] at this; exact this
  ·have:=h.non k hk hl
   rw [h2 k z] at this
   show seen f d l k (n+1)=false
   rw [seen_no (falls_no z)]; exact this
 ·by_cases z:k <+: eldL f d l n
  ·have:=h.som k v hk hl
   rw [h1 k hl z] at this; exact this
  ·have:=h.som k v hk hl
   rw [h2 k z] at this
   refine ⟨?_,this.2.congr (cntL_no (falls_no z)) (wv_off _ z)⟩
   show seen f d l k (n+1)=true
   rw [seen_no (falls_no z)]; exact this.1
theorem GT.congr {F:Hp} {L:List Nat} {f d:Nat} {l:List Nat} {kvs:List (Key × V)} {m m':List Nat->Nat} (h:GT K F L f d l kvs m) (e:∀ k,k.length<=d->m' k=m k):GT K F L f d l kvs m' :=
 ⟨λ k hk hl=>by rw [e k hl]; exact h.non k hk hl,λ k v hk hl=>by rw [e k hl]; exact h.som k v hk hl⟩
theorem off_mn {p t r R:Addr} {H H':Hp} (s:Same H H') (hR:H R=none):Same (off p t r H) (mn (off p t r H') R):=λ b o h =>
 mn_at (off_same s b o h) λ e=>by
  have:=off_sub _ _ _ _ b o h
  rw [e,hR] at this; cases this
theorem pre_len {a b c:List Nat} (h1:a <+: c) (h2:b <+: c) (h:a.length=b.length):a=b:=by
 rw [List.prefix_iff_eq_take] at h1 h2
 rw [h1,h2,h]
def spGrow (K:PySem.W.Frag) (C:Addr):Sp:=λ vs H Q _=>∃ (p tb rp fr:Addr) (f:Nat) (L:List Nat) (d:Nat) (l:List Nat) (n B c:Nat),vs=[.ref p,vt [c]]/\GO K C p tb rp fr H f L d l n B/\Sm (f::L) f d l/\l[n]?=some c/\B<=10000/\
 ∀ H',GO K C p tb rp fr H' f L d l (n+1) (B+(d+1))->(∀ b o,H b=some o->b ≠ p->b ≠ tb->b ≠ rp->H' b=some o)->Q .non H'
theorem ok_Qs (T:Txt K mg t):FnOk P w K mg base (CX1 P w) 7 t.a_Qs t.fd_Qs ["self", "sign"] (spGrow K t.c_Growth):=by
 refine T.F_Qs.okn (k:=6) sc_Qs (λ vs H Q E h=>?_) (λ cdv A outer s H vs Q E hr h=>?_)
 ·obtain ⟨p,tb,rp,fr,f,L,d,l,n,B,c,rfl,_⟩:=h; rfl
 obtain ⟨p,tb,rp,fr,f,L,d,l,n,B,c,rfl,G,S,hc,hB,q⟩:=h
 have G_Qg:=@ok_Qg P w K mg base t T
 have d6:=S.d6
 have ll:=S.ll
 have hnl:=(List.getElem?_eq_some_iff.mp hc).1
 obtain ⟨dx,ob⟩:=G.ob
 refine ⟨_,(pss_cons (ps_set (i:=2) sc_Qs.nd rfl (Or.inl rfl) (pe_meth (pv 0) T.cl_Growth T.me_Qg G_Qg hr T.b_Qg .nil pass1 (pa_cons (pv 1) pa_nil)))
  (pss_cons (ps_expr (pe_bm PySem.F.plainAttrs_list PySem.F.slot_list_append PySem.F.type_list_append mt_app (pe_fld (pv 0) rfl) (pa_cons (pe_lc (compSc_of (N:=["knot", "entry", "self"]) (cap:=[none,none,some 0]) (by kernel_rfl)) rfl (pi_list (pv 2)) ⟨λ _=>(pg_tup rfl (pgs_cons (pg_name (i:=0) (show List.Nodup (["knot", "entry", "self"]:List Str) by decide +kernel) rfl (Or.inl rfl)) (pgs_cons (pg_name (i:=1) (show List.Nodup (["knot", "entry", "self"]:List Str) by decide +kernel) rfl (Or.inl rfl)) pgs_nil))),λ _=>pf_nil,λ _=>(pe_tup (PAs.h (pas_cons (pv 0) (pas_cons (pe_dget1 (hu_of hr) (pe_fld (pv 2) rfl) (pv 0) ⟨rfl,rfl,rfl,rfl⟩) pas_nil))))⟩) pa_nil)))
  (pss_cons (ps_for PassesOwn.never rfl (pi_list (pv 2)) (pg_tup rfl (pgs_cons (pg_name (i:=3) sc_Qs.nd rfl (Or.inl rfl)) (pgs_cons (pg_name (i:=4) sc_Qs.nd rfl (Or.inl rfl)) pgs_nil))) (pss_one (ps_dput (hu_of hr) (pe_fld (pv 0) rfl) (pv 3) (pv 4) rfl)))
  (pss_one (ps_fldaug (pv 0) (pv 1) ipAdd))))),?_⟩
 refine ⟨_,rfl,p,dx,_,rfl,ob,(gf_no _ _ _ _).2.2.1,_,rfl,p,tb,rp,fr,f,L,d,l,n,B,c,rfl,G,S,hc,λ D H1 ts s1 hD e1 hts hTD=>?_⟩
 have G1:=G.same s1
 have T1:=G1.three
 obtain ⟨kvs,td,kl,gt⟩:=G1.td
 obtain ⟨rs,rl,rn,rh⟩:=G1.rl
 have ob1:=s1 _ _ ob
 have hlen:=eldL_len f d l n
 have nD:D ≠ p/\D ≠ tb/\D ≠ rp:=by
  obtain ⟨⟨_,_,a1⟩,⟨_,a2⟩,⟨_,a3⟩⟩:=G.three
  exact ⟨λ y=>(by rw [y,a1] at hD; cases hD),λ y=>(by rw [y,a2] at hD; cases hD),λ y=>(by rw [y,a3] at hD; cases hD)⟩
 have npt:p ≠ tb:=λ y=>by rw [y,td] at ob1; cases ob1
 have npr:p ≠ rp:=λ y=>by rw [y,rl] at ob1; cases ob1
 have ntr:tb ≠ rp:=λ y=>by rw [y,rl] at td; cases td
 refine ⟨_,rfl,p,_,dx,_,_,rfl,ob1,T.cl_Growth,T.na_Growth_replaced,gf_rep _ _ _ _,tyL (.inl (.inl rl)),?_⟩
 refine ⟨_,rfl,D,rfl,⟨_,.inl (.inl e1)⟩,λ R hR cp=>?_⟩
 have nR:R ≠ p/\R ≠ tb/\R ≠ rp:=⟨λ y=>(by rw [y,ob1] at hR; cases hR),λ y=>(by rw [y,td] at hR; cases hR),λ y=>(by rw [y,rl] at hR; cases hR)⟩
 refine lc_walk (walk_list (xs:=ts)) (λ i σ H'=>∃ r0 r1 ys,σ=[r0,r1,some (.ref p)]/\Same H1 H'/\H' R=some (.lst ys)/\ys.length=i/\∀ (j:Nat) x,ys[j]?=some x->RPair K (mn (off p tb rp H') R) (f::L) f d l x n ((eldL f d l n).take (d-j)))
  ⟨none,none,[],rfl,same_new hR _,upd_same,rfl,λ j x h=>nomatch h⟩ (λ i σ H' _ ⟨_,_,_,_,g,_⟩=>.inl (.inl (g _ _ e1))) ?_ ?_
 ·rintro i x _ H2 hx ⟨r0,r1,ys,rfl,g,eR,hy,hP⟩
  have hi:=(List.getElem?_eq_some_iff.mp hx).1
  obtain ⟨ch,e,rfl,h1,h2⟩:=hTD i x hx
  have sub:Same (mn (off p tb rp H1) D) H2:=((mn_same _ _).trans (off_sub _ _ _ _)).trans g
  refine ⟨ch,_,rfl,same_tup sub h1,rfl,_,_,rfl,_,_,rfl,rfl,?_⟩
  simp only [tTrue,if_true]
  generalize hkn:(eldL f d l n).take (d-i)=kn at h1 h2
  have hkl:kn.length<=d:=by rw [← hkn,List.length_take]; omega
  refine ⟨_,rfl,_,rfl,p,_,dx,_,_,rfl,g _ _ ob1,T.cl_Growth,T.na_Growth_table,gf_table _ _ _ _,tb,rfl,.inl ⟨kvs,.inl (g _ _ td)⟩,_,rfl,valV kvs (key kn),DGet.k (k:=key kn) (g _ _ td),?_⟩
  refine ⟨by rw [sizeLine_eq]; show 2<=_; decide,λ u hu=>?_⟩
  have s3:=same_new hu (.tup [vt kn,(valV kvs (key kn)).getD .non])
  have e3:upd H2 u (.tup [vt kn,(valV kvs (key kn)).getD .non]) u=some (.tup [vt kn,(valV kvs (key kn)).getD .non]):=upd_same
  try dsimp (config:={ proj:=false,eta:=false,zeta:=false,iota:=false }) only [tNil,tC]
  generalize upd H2 u (.tup [vt kn,(valV kvs (key kn)).getD .non])=H3 at s3 e3 ⊢
  have g3:=g.trans s3
  have T3:=T1.same g3
  have oR:off p tb rp H3 R=some (.lst ys):=off_at (s3 _ _ eR) nR.1 nR.2.1 nR.2.2
  have rp3:RPair K (mn (off p tb rp H3) R) (f::L) f d l (.ref u) n kn:=by
   refine ⟨u,_,rfl,SqT.minus oR (T3.tup (.inl (.inl e3))),?_⟩
   cases z:valV kvs (key kn) with
   | none=>exact .inl ⟨rfl,gt.non kn z hkl⟩
   | some v=>exact .inr ⟨(gt.som kn v z hkl).1,(gt.som kn v z hkl).2.same (off_mn g3 hR)⟩
  have up:Same (mn (off p tb rp H3) R) (mn (off p tb rp (upd H3 R (.lst (ys++[.ref u])))) R):=mn_up λ b o hb e=>off_up hb e
  refine ⟨ys,s3 _ _ eR,by rw [sizeLine_eq]; omega,_,_,ys++[.ref u],rfl,over_same hR g3,upd_same,by rw [List.length_append,hy]; rfl,λ j x hj=>?_⟩
  by_cases y:j<ys.length
  ·rw [List.getElem?_append_left y] at hj
   exact ((hP j x hj).same (mn_up λ b o _ e=>off_same s3 b o e)).same up
  ·rw [List.getElem?_append_right (by omega)] at hj
   have:j-ys.length=0:=by
    have:=(List.getElem?_eq_some_iff.mp hj).1
    simp at this; omega
   rw [this] at hj
   cases hj
   have ej:j=i:=by omega
   rw [ej,hkn]
   exact rp3.same up
 rintro _ H2 ⟨r0,r1,ys,rfl,g,eR,hy,hP⟩
 try dsimp (config:={ proj:=false,eta:=false,zeta:=false,iota:=false }) only [tNil,tC]
 refine appL (g _ _ rl) (by rw [sizeLine_eq]; omega) ?_
 have RLn:RL K (off p tb rp H2) (f::L) f d l (.ref R) n:=⟨R,ys,rfl,.inl (.inl (off_at eR nR.1 nR.2.1 nR.2.2)),by omega,λ i x hx=>(hP i x hx).same (mn_same _ _)⟩
 have sF:Same (mn (off p tb rp H1) D) (off p tb rp H2):=(mn_same _ _).trans (off_same g)
 have hoff:∀ H',(∀ b,b ≠ tb->H' b=upd H2 rp (.lst (rs++[.ref R])) b)->off p tb rp H'=off p tb rp H2:=λ H' h=>off_eq λ b h1 h2 h3=>(h b h2).trans (upd_ne h3)
 have gt0:=gt.same (off_same (p:=p) (t:=tb) (r:=rp) g)
 have fa2:=same_tup (off_same (p:=p) (t:=tb) (r:=rp) g) G1.fa
 have rh2:∀ (j:Nat) v,rs[j]?=some v->RL K (off p tb rp H2) (f::L) f d l v j:=λ j v hj=>(rh j v hj).same (off_same g)
 have ob2:=g _ _ ob1
 have td2:=g _ _ td
 have rl2:=g _ _ rl
 have eD2:=g _ _ e1
 refine ⟨_,rfl,D,rfl,⟨_,.inl (.inl ((upd_ne nD.2.2).trans eD2))⟩,?_⟩
 refine for_walk (walk_list (xs:=ts)) (λ i σ H'=>∃ r3 r4 kvs',σ=[some (.ref p),some (vt [c]),some (.ref D),r3,r4]/\(∀ b,b ≠ tb->H' b=upd H2 rp (.lst (rs++[.ref R])) b)/\H' tb=some (.dK kvs')/\kvs'.length<=B+i/\
  GT K (off p tb rp H2) (f::L) f d l kvs' (λ k=>if falls f d l k n=true/\d<k.length+i then n+1 else n)) ⟨_,_,kvs,rfl,λ _ _=>rfl,(upd_ne ntr).trans td2,kl,gt0.congr λ k hk=>if_neg (by omega)⟩ (λ i σ H' _ ⟨_,_,_,_,h,_⟩=>.inl (.inl ((h D nD.2.1).trans ((upd_ne nD.2.2).trans eD2)))) ?_ ?_
 ·rintro i x _ H3 hx ⟨r3,r4,kvs',rfl,h3,t3,k3,gt3⟩
  have hi:=(List.getElem?_eq_some_iff.mp hx).1
  have hTx:=(hTD i x hx).same sF
  have hkp:(eldL f d l n).take (d-i) <+: eldL f d l n:=List.take_prefix _ _
  have hkl:((eldL f d l n).take (d-i)).length=d-i:=by rw [List.length_take]; omega
  generalize (eldL f d l n).take (d-i)=kn at hTx hkp hkl
  obtain ⟨ch,e,rfl,h1,h2⟩:=hTx
  have s3:Same (off p tb rp H2) H3:=(hoff H3 h3) ▸ off_sub p tb rp H3
  have ob3:H3 p=_:=(h3 p npt).trans ((upd_ne npr).trans ob2)
  refine ⟨ch,_,rfl,same_tup s3 h1,rfl,_,_,rfl,_,_,rfl,rfl,?_⟩
  refine ⟨_,rfl,_,rfl,p,_,dx,_,_,rfl,ob3,T.cl_Growth,T.na_Growth_table,gf_table _ _ _ _,_,rfl,tb,_,rfl,DPut.k (k:=key kn) t3 (by rw [sizeLine_eq]; omega),?_⟩
  refine ⟨_,_,putK kvs' (key kn) e,rfl,λ b hb=>by rw [upd_ne hb]; exact h3 b hb,upd_same,by have:=putK_len kvs' (key kn) e; omega,?_⟩
  have hfk:=falls_iff.mpr hkp
  have hmk:(if falls f d l kn n=true/\d<kn.length+(i+1) then n+1 else n)=n+1:=if_pos ⟨hfk,by omega⟩
  refine gt3.put (m':=λ k=>if falls f d l k n=true/\d<k.length+(i+1) then n+1 else n) (kn:=kn) ?_ ?_ ?_
  ·show seen f d l kn (if falls f d l kn n=true/\d<kn.length+(i+1) then n+1 else n)=true
   rw [hmk]; exact seen_yes hfk
  ·show EAt K _ e (f::L) f d l (if falls f d l kn n=true/\d<kn.length+(i+1) then n+1 else n) kn
   rw [hmk]; exact h2
  ·intro k hk
   show (if _ then n+1 else n)=(if _ then n+1 else n)
   by_cases y:falls f d l k n=true/\d<k.length+i
   ·rw [if_pos y,if_pos ⟨y.1,by omega⟩]
   ·rw [if_neg y]
    refine if_neg λ ⟨a,b⟩=>?_
    by_cases y2:d<k.length+i
    ·exact y ⟨a,y2⟩
    ·exact hk (pre_len (falls_iff.mp a) hkp (by omega))
 ·rintro _ H3 ⟨r3,r4,kvs',rfl,h3,t3,k3,gt3⟩
  have ob3:H3 p=_:=(h3 p npt).trans ((upd_ne npr).trans ob2)
  have ht:(l.take n).length=n:=by rw [List.length_take]; omega
  have h4:=hoff H3 h3
  refine ⟨_,rfl,p,_,dx,_,_,rfl,ob3,T.cl_Growth,T.na_Growth_text,gf_text _ _ _ _,_,rfl,.inr (catX (by rw [sizeLine_eq,ht]; show _+1<=_; omega) ?_)⟩
  refine ⟨dx,_,ob3,by show 4<1000; decide,?_⟩
  rw [gf_put,show l.take n++[c]=l.take (n+1) by rw [List.take_add_one,hc]; rfl]
  have h5:off p tb rp (upd H3 p (.ins t.c_Growth dx (gflds fr (vt (l.take (n+1))) tb rp)))=off p tb rp H2:=(off_put (.inl rfl)).trans h4
  refine q _ ⟨⟨dx,upd_same⟩,⟨kvs',(upd_ne npt.symm).trans t3,?_,?_⟩,⟨rs++[.ref R],(upd_ne npr.symm).trans ((h3 rp ntr.symm).trans upd_same),by rw [List.length_append,rn]; rfl,λ j v hj=>?_⟩,?_⟩ λ b o hb h1 h2 h3'=>?_
  ·rw [hts] at k3; exact k3
  ·rw [h5]
   refine gt3.next (n:=n) (λ k hk hp=>if_pos ⟨falls_iff.mpr hp,by omega⟩) (λ k hp=>if_neg λ ⟨a,_⟩=>hp (falls_iff.mp a))
  ·rw [h5]
   by_cases y:j<rs.length
   ·rw [List.getElem?_append_left y] at hj
    exact rh2 j v hj
   ·rw [List.getElem?_append_right (by omega)] at hj
    have:j-rs.length=0:=by
     have:=(List.getElem?_eq_some_iff.mp hj).1
     simp at this; omega
    rw [this] at hj
    cases hj
    have ej:j=n:=by omega
    rw [ej]; exact RLn
  ·rw [h5]; exact fa2
  ·rw [upd_ne h1,h3 b h2,upd_ne h3']
   exact g _ _ (s1 _ _ hb)
def spGWeight (K:PySem.W.Frag) (C:Addr):Sp:=λ vs H Q _=>∃ (p tb rp fr:Addr) (f:Nat) (L:List Nat) (d:Nat) (l:List Nat) (n B:Nat),vs=[.ref p]/\GO K C p tb rp fr H f L d l n B/\(f::L).length<=100/\∀ z H',Same H H'->FrV K H' z (wv (f::L) f d l n d []).1 (wv (f::L) f d l n d []).2->Q z H'
theorem ok_Qh (T:Txt K mg t):FnOk P w K mg base (CX1 P w) 3 t.a_Qh t.fd_Qh ["self"] (spGWeight K t.c_Growth):=by
 refine T.F_Qh.okn (k:=2) sc_Qh (λ vs H Q E h=>?_) (λ cdv A outer s H vs Q E hr h=>?_)
 ·obtain ⟨p,tb,rp,fr,f,L,d,l,n,B,rfl,_⟩:=h; rfl
 obtain ⟨p,tb,rp,fr,f,L,d,l,n,B,rfl,G,hL,q⟩:=h
 have G_Ql:=@ok_Ql P w K mg base t T
 obtain ⟨dx,ob⟩:=G.ob
 refine ⟨_,(pss_one (ps_ret (pe_ix ixAny (pe_meth (pv 0) T.cl_Growth T.me_Ql G_Ql hr T.b_Ql .nil pass1 (pa_cons pe_str pa_nil)) (pe_glob (v:=.int 2) rfl T.m_WEIGHT ⟨_,rfl⟩) (λ _ _=>rfl)))),?_⟩
 refine ⟨_,rfl,p,dx,_,rfl,ob,(gf_no _ _ _ _).1,p,tb,rp,fr,f,L,d,l,n,B,[],by rw [str_nil0]; rfl,G,hL,Nat.zero_le _,λ z H1 s1 hz=>?_⟩
 obtain ⟨e,q0,xw,yw,rfl,h1,h2,h3,h4⟩:=hz.same (off_sub _ _ _ _)
 exact ixT h1 rfl (q yw H1 s1 h4)
theorem same_off {p t r:Addr} {H H':Hp} (s:Same H H') (h1:H p=none) (h2:H t=none) (h3:H r=none):Same H (off p t r H'):=λ b o e =>
 off_at (s b o e) (λ z=>by rw [z,h1] at e; cases e) (λ z=>by rw [z,h2] at e; cases e) (λ z=>by rw [z,h3] at e; cases e)
theorem GT.empty {F:Hp} {L:List Nat} {f d:Nat} {l:List Nat}:GT K F L f d l [] (λ _=>0):=⟨λ _ _ _=>rfl,λ _ _ h=>nomatch h⟩
def spGrown (K:PySem.W.Frag) (C:Addr):Sp:=λ vs H Q _=>∃ (fr:Addr) (f:Nat) (L:List Nat) (d:Nat) (l:List Nat),vs=[.ref fr,vt l]/\SqT K H fr [vt (f::L),.int d]/\Sm (f::L) f d l/\∀ p tb rp H',Same H H'->H p=none->H tb=none->H rp=none->GO K C p tb rp fr H' f L d l l.length (l.length*(d+1))->Q (.ref p) H'
theorem ok_Qcb (T:Txt K mg t):FnOk P w K mg base (CX1 P w) 8 t.a_Qcb t.fd_Qcb ["frame", "text"] (spGrown K t.c_Growth):=by
 refine T.F_Qcb.okn (k:=7) sc_Qcb (λ vs H Q E h=>?_) (λ cdv A outer s H vs Q E hr h=>?_)
 ·obtain ⟨fr,f,L,d,l,rfl,_⟩:=h; rfl
 obtain ⟨fr,f,L,d,l,rfl,hf,S,q⟩:=h
 have G_Qr:=(@ok_Qr P w K mg base t T).mono (show 1<=6 by decide)
 have G_Qs:=@ok_Qs P w K mg base t T
 refine ⟨_,(pss_cons (ps_set (i:=2) sc_Qcb.nd rfl (Or.inl rfl) (pe_make T.mk_Growth G_Qr hr rfl T.m_Growth T.b_Qr .nil pass1 (pa_cons (pv 0) pa_nil)))
  (pss_cons (ps_for PassesOwn.never rfl (piAny (pv 1)) (pg_name (i:=3) sc_Qcb.nd rfl (Or.inl rfl)) (pss_one (ps_expr (pe_meth (pv 2) T.cl_Growth T.me_Qs G_Qs hr T.b_Qs .nil pass1 (pa_cons (pv 3) pa_nil)))))
  (pss_one (ps_ret (pv 2))))),?_⟩
 refine ⟨_,rfl,λ p dx np ndx nex=>?_⟩
 have s0:Same H (upd (upd H dx (.own p)) p (.ins t.c_Growth dx [])):=λ b o e=>by
  rw [upd_ne (ne_of_none e np),upd_ne (ne_of_none e ndx)]
  exact e
 refine ⟨p,fr,dx,rfl,upd_same,λ tb rp H1 htb hrp hne e1 e2 e3 k1=>⟨rfl,?_⟩⟩
 have s1:Same H H1:=λ b o e=>k1 b o (s0 b o e) (ne_of_none e np)
 have ntb:=s0.free htb
 have nrp:=s0.free hrp
 have G0:GO K t.c_Growth p tb rp fr H1 f L d l 0 (0*(d+1)):=⟨⟨dx,e1⟩,⟨[],e2,Nat.zero_le _,GT.empty⟩,⟨[],e3,rfl,λ j v h=>nomatch h⟩,same_tup (same_off s1 np ntb nrp) hf⟩
 refine ⟨_,rfl,.inr (.inr ⟨_,rfl,?_⟩)⟩
 refine for_walk (walk_tx l) (λ i σ H'=>∃ r3,σ=[some (.ref fr),some (vt l),some (.ref p),r3]/\Same H H'/\GO K t.c_Growth p tb rp fr H' f L d l i (i*(d+1))) ⟨_,rfl,s1,G0⟩ (λ _ _ _ _ _=>trivial) ?_ ?_
 ·rintro i x _ H2 hx ⟨r3,rfl,s2,G2⟩
  obtain ⟨c,hc,rfl⟩:=sign_at hx
  obtain ⟨dy,ob⟩:=G2.ob
  refine ⟨_,rfl,p,dy,_,rfl,ob,(gf_no _ _ _ _).2.2.2.2.1,_,rfl,p,tb,rp,fr,f,L,d,l,i,_,c,rfl,G2,S,hc,by have:=(List.getElem?_eq_some_iff.mp hc).1; have h1:=S.ll; have h2:=S.d6; exact Nat.le_trans (Nat.mul_le_mul (show i<=200 by omega) (show d+1<=7 by omega)) (by decide),λ H3 G3 k3=>?_⟩
  rw [show i*(d+1)+(d+1)=(i+1)*(d+1) by rw [Nat.add_mul,Nat.one_mul]] at G3
  exact ⟨_,rfl,λ b o e=>k3 b o (s2 b o e) (ne_of_none e np) (ne_of_none e ntb) (ne_of_none e nrp),G3⟩
 ·rintro _ H2 ⟨r3,rfl,s2,G2⟩
  rw [List.length_map] at G2
  exact ⟨_,rfl,q p tb rp H2 s2 np ntb nrp G2⟩
def spWW (K:PySem.W.Frag) (C:Addr):Sp:=λ vs H Q _=>∃ (p tb rp fr:Addr) (f:Nat) (L:List Nat) (d:Nat) (l:List Nat) (n B c:Nat),vs=[.ref p,vt [c]]/\GO K C p tb rp fr H f L d l n B/\Sm (f::L) f d l/\l[n]?=some c/\
 ∀ z H',Same H H'->FrV K H' z (wv (f::L) f d l (n+1) d []).1 (wv (f::L) f d l (n+1) d []).2->Q z H'
theorem ok_Qa (T:Txt K mg t):FnOk P w K mg base (CX1 P w) 7 t.a_Qa t.fd_Qa ["self", "sign"] (spWW K t.c_Growth):=by
 refine T.F_Qa.okn (k:=6) sc_Qa (λ vs H Q E h=>?_) (λ cdv A outer s H vs Q E hr h=>?_)
 ·obtain ⟨p,tb,rp,fr,f,L,d,l,n,B,c,rfl,_⟩:=h; rfl
 obtain ⟨p,tb,rp,fr,f,L,d,l,n,B,c,rfl,G,S,hc,q⟩:=h
 have G_Qg:=@ok_Qg P w K mg base t T
 obtain ⟨dx,ob⟩:=G.ob
 refine ⟨_,(pss_one (ps_ret (pe_ix ixAny (pe_ix ixAny (pe_ix ixAny (pe_meth (pv 0) T.cl_Growth T.me_Qg G_Qg hr T.b_Qg .nil pass1 (pa_cons (pv 1) pa_nil)) (pe_un un_neg pe_int) (λ _ _=>rfl)) pe_int (λ _ _=>rfl)) (pe_glob (v:=.int 2) rfl T.m_WEIGHT ⟨_,rfl⟩) (λ _ _=>rfl)))),?_⟩
 refine ⟨_,rfl,p,dx,_,rfl,ob,(gf_no _ _ _ _).2.2.1,_,rfl,p,tb,rp,fr,f,L,d,l,n,B,c,rfl,G,S,hc,λ D H1 ts s1 hD e1 hts hTD=>?_⟩
 rcases List.eq_nil_or_concat ts with rfl | ⟨ts',u,rfl⟩
 ·simp at hts
 rw [List.concat_eq_append] at *
 have hl:ts'.length=d:=by simpa using hts
 obtain ⟨ch,e,rfl,h1,h2⟩:=hTD d u (by rw [List.getElem?_append_right (by omega),hl,Nat.sub_self]; rfl)
 rw [Nat.sub_self,List.take_zero] at h1 h2
 have sub:Same (mn (off p tb rp H1) D) H1:=(mn_same _ _).trans (off_sub _ _ _ _)
 obtain ⟨e',q0,xw,yw,rfl,g1,g2,g3,g4⟩:=h2.same sub
 refine ⟨_,rfl,ixL (.inl (.inl e1)) (at_last ts' _) (ixT (same_tup sub h1) rfl (ixT g1 rfl ?_))⟩
 exact q yw H1 s1 g4
def EqW (x y:Int × Int):Prop:=0<x.2/\0<y.2/\x.1*y.2=y.1*x.2
theorem EqW.refl {x:Int × Int} (h:0<x.2):EqW x x:=⟨h,h,rfl⟩
theorem EqW.trans {x y z:Int × Int} (h1:EqW x y) (h2:EqW y z):EqW x z:=by
 obtain ⟨a,b,c⟩:=h1
 obtain ⟨_,e,f⟩:=h2
 refine ⟨a,e,Int.eq_of_mul_eq_mul_right (a:=y.2) (by omega) ?_⟩
 grind
theorem eldL_loc (f d:Nat) (l x:List Nat) {n:Nat} (hn:n<=l.length):eldL f d (l++x) n=eldL f d l n:=by
 unfold eldL
 refine List.map_congr_left λ j _=>?_
 split
 ·rename_i z
  rw [List.getD_eq_getElem?_getD,List.getD_eq_getElem?_getD,List.getElem?_append_left (by omega)]
 ·rfl
theorem falls_loc (f d:Nat) (l x k:List Nat) {n:Nat} (hn:n<=l.length):falls f d (l++x) k n=falls f d l k n:=by
 unfold falls; rw [eldL_loc f d l x hn]
theorem cntL_loc (L:List Nat) (f d:Nat) (l x k:List Nat) {n:Nat} (hn:n<=l.length):cntL L f d (l++x) k n=cntL L f d l k n:=by
 unfold cntL
 refine List.map_congr_left λ c _=>?_
 congr 1
 refine List.filter_congr λ j hj=>?_
 have hj':=List.mem_range.mp hj
 rw [falls_loc f d l x k (by omega),List.getElem?_append_left (by omega)]
theorem seen_loc (f d:Nat) (l x k:List Nat) {n:Nat} (hn:n<=l.length):seen f d (l++x) k n=seen f d l k n:=by
 unfold seen
 rw [Bool.eq_iff_iff,List.any_eq_true,List.any_eq_true]
 constructor
 ·rintro ⟨j,hj,h⟩
  exact ⟨j,hj,by rw [← falls_loc f d l x k (by have:=List.mem_range.mp hj; omega)]; exact h⟩
 ·rintro ⟨j,hj,h⟩
  exact ⟨j,hj,by rw [falls_loc f d l x k (by have:=List.mem_range.mp hj; omega)]; exact h⟩
theorem wv_loc (L:List Nat) (f d:Nat) (l x:List Nat) {n:Nat} (hn:n<=l.length):∀ (r:Nat) (k:List Nat),wv L f d (l++x) n r k=wv L f d l n r k
 | 0,k=>by unfold wv wo; rw [cntL_loc L f d l x k hn]
 | r+1,k=>by
   show (if _ then _ else _)=(if _ then _ else _)
   rw [seen_loc f d l x k hn,List.map_congr_left λ c _=>wv_loc L f d l x hn r (k++[c])]
   unfold wo
   rw [cntL_loc L f d l x k hn]
theorem sum_odd:∀ cs:List Nat,(cs.map λ v:Nat=>(2*(v:Int)+1)).sum=2*(cs.sum:Int)+cs.length
 | []=>rfl
 | c::cs=>by
   rw [List.map_cons,List.sum_cons,sum_odd cs,List.sum_cons,List.length_cons]; omega
theorem sum_mul (a:Int) {α:Type} (g:α->Int):∀ cs:List α,(cs.map λ c=>a*g c).sum=a*(cs.map g).sum
 | []=>by simp
 | c::cs=>by rw [List.map_cons,List.sum_cons,List.map_cons,List.sum_cons,sum_mul a g cs]; grind
theorem sum_lin (a b:Int) {α:Type} (g h:α->Int):∀ cs:List α,(cs.map λ c=>g c*a+h c*b).sum=(cs.map g).sum*a+(cs.map h).sum*b
 | []=>by simp
 | c::cs=>by rw [List.map_cons,List.sum_cons,List.map_cons,List.sum_cons,List.map_cons,List.sum_cons,sum_lin a b g h cs]; grind
theorem prodI_split {g:Nat->Int} {c0:Nat}:∀ {L:List Nat},L.Nodup->c0 ∈ L->prodI (L.map g)=g c0*prodI ((L.filter λ c=>decide (c ≠ c0)).map g)
 | [],_,h=>nomatch h
 | c::L,hn,h=>by
   obtain ⟨h1,h2⟩:=List.nodup_cons.mp hn
   show g c*prodI (L.map g)=_
   by_cases z:c=c0
   ·subst z
    rw [List.filter_cons,if_neg (by simp)]
    rw [List.filter_eq_self.mpr λ y hy=>by simp; exact λ e=>h1 (e ▸ hy)]
   ·rcases List.mem_cons.mp h with e | hm
    ·exact absurd e.symm z
    ·rw [List.filter_cons,if_pos (by simp [z])]
     show _=g c0*(g c*_)
     rw [prodI_split h2 hm]; grind
theorem prodI_ones {g:Nat->Int}:∀ {L:List Nat},(∀ c ∈ L,g c=1)->prodI (L.map g)=1
 | [],_=>rfl
 | c::L,h=>by
   show g c*prodI (L.map g)=1
   rw [h c List.mem_cons_self,prodI_ones λ c' h'=>h c' (List.mem_cons_of_mem _ h')]; rfl
theorem seen_up {f d:Nat} {l k:List Nat} {c n:Nat} (h:seen f d l k n=false):seen f d l (k++[c]) n=false:=by
 unfold seen at *
 rw [List.any_eq_false] at *
 intro j hj z
 exact h j hj (falls_iff.mpr ((List.prefix_append k [c]).trans (falls_iff.mp z)))
def gC (f d:Nat) (l k:List Nat) (n c:Nat):Nat:=((List.range n).filter λ j=>falls f d l k j && decide (l[j]?=some c)).length
theorem wo_next {L:List Nat} {f d:Nat} {l k:List Nat} {c:Nat} (hL:L.Nodup) (hc:c ∈ L) (hk:k <+: eldL f d l l.length):
 wo L f d (l++[c]) (l.length+1) k=((wo L f d l l.length k).1*(2*(gC f d l k l.length c:Int)+1),(wo L f d l l.length k).2*(2*((cntL L f d l k l.length).sum:Nat)+(L.length:Nat))):=by
 obtain ⟨i,hi⟩:=List.getElem?_of_mem hc
 obtain ⟨v,h1,_,h3⟩:=wo_on (l:=l++[c]) (n:=l.length) (k:=k) hL (by rw [eldL_loc f d l [c] (Nat.le_refl _)]; exact hk) hi (by simp)
 have e1:wo L f d (l++[c]) l.length k=wo L f d l l.length k:=by unfold wo; rw [cntL_loc L f d l [c] k (Nat.le_refl _)]
 rw [cntL_loc L f d l [c] k (Nat.le_refl _)] at h1 h3
 have ev:v=gC f d l k l.length c:=by
  unfold cntL at h1
  rw [List.getElem?_map,hi] at h1
  exact (Option.some.inj h1).symm
 rw [h3,e1,ev]
theorem sum_gC {L:List Nat} {f d:Nat} {l k:List Nat} {n:Nat}:(L.map λ c=>2*(gC f d l k n c:Int)+1).sum=2*((cntL L f d l k n).sum:Nat)+(L.length:Nat):=by
 have h:=sum_odd (cntL L f d l k n)
 rw [cntL_len] at h
 rw [← h]
 unfold cntL
 rw [List.map_map]; rfl
theorem wv_sum {L:List Nat} {f d:Nat} {l:List Nat} (hL:L.Nodup) (hf:f ∈ L) (hl:∀ c ∈ l,c ∈ L):∀ (r:Nat) (k:List Nat),k.length+r=d->k <+: eldL f d l l.length->
 ∃ B,(∀ c ∈ L,(wv L f d (l++[c]) (l.length+1) r k).2=B)/\(L.map λ c=>(wv L f d (l++[c]) (l.length+1) r k).1).sum*(wv L f d l l.length r k).2=(wv L f d l l.length r k).1*B:=by
 intro r
 induction r with
 | zero =>
   intro k hk hp
   refine ⟨(wo L f d l l.length k).2*(2*((cntL L f d l k l.length).sum:Nat)+(L.length:Nat)),λ c hc=>?_,?_⟩
   ·show (wo L f d (l++[c]) (l.length+1) k).2=_
    rw [wo_next hL hc hp]
   ·show (L.map λ c=>(wo L f d (l++[c]) (l.length+1) k).1).sum*(wo L f d l l.length k).2=(wo L f d l l.length k).1*_
    rw [List.map_congr_left (g:=λ c=>(wo L f d l l.length k).1*(2*(gC f d l k l.length c:Int)+1)) λ c hc=>by rw [wo_next hL hc hp],sum_mul,sum_gC]
    grind
 | succ r ih =>
   intro k hk hp
   obtain ⟨c0,hc0,pre⟩:=next_of (show k.length<d by omega) hp
   have hc0L:=eldL_in hf hl (Nat.le_refl _) c0 hc0
   obtain ⟨Y,hY,hS⟩:=ih (k++[c0]) (by rw [List.length_append]; show _+1+_=_; omega) ((pre c0).mpr rfl)
   have hoff:∀ c c',c' ≠ c0->wv L f d (l++[c]) (l.length+1) r (k++[c'])=wv L f d l l.length r (k++[c']):=λ c c' hne=>by
    rw [wv_off r (λ z=>hne ((pre c').mp (by rw [← eldL_loc f d l [c] (Nat.le_refl _)]; exact z))),wv_loc L f d l [c] (Nat.le_refl _)]
   have hse:∀ c,seen f d (l++[c]) k (l.length+1)=true:=λ c=>seen_yes (falls_iff.mpr (by rw [eldL_loc f d l [c] (Nat.le_refl _)]; exact hp))
   have e1:∀ c,(prodW (L.map λ c'=>wv L f d (l++[c]) (l.length+1) r (k++[c']))).1=(wv L f d (l++[c]) (l.length+1) r (k++[c0])).1*prodI ((L.filter λ c'=>decide (c' ≠ c0)).map λ c'=>(wv L f d l l.length r (k++[c'])).1):=λ c=>by
    show prodI ((L.map _).map _)=_
    rw [List.map_map]
    refine (prodI_split hL hc0L).trans ?_
    refine congrArg (λ z=>_*prodI z) ?_
    refine List.map_congr_left λ c' h'=>?_
    show (wv L f d (l++[c]) (l.length+1) r (k++[c'])).1=_
    rw [hoff c c' (by simpa using (List.mem_filter.mp h').2)]
   have e2:∀ c,(prodW (L.map λ c'=>wv L f d (l++[c]) (l.length+1) r (k++[c']))).2=(wv L f d (l++[c]) (l.length+1) r (k++[c0])).2*prodI ((L.filter λ c'=>decide (c' ≠ c0)).map λ c'=>(wv L f d l l.length r (k++[c'])).2):=λ c=>by
    show prodI ((L.map _).map _)=_
    rw [List.map_map]
    refine (prodI_split hL hc0L).trans ?_
    refine congrArg (λ z=>_*prodI z) ?_
    refine List.map_congr_left λ c' h'=>?_
    show (wv L f d (l++[c]) (l.length+1) r (k++[c'])).2=_
    rw [hoff c c' (by simpa using (List.mem_filter.mp h').2)]
   have z1:(prodW (L.map λ c'=>wv L f d l l.length r (k++[c']))).1=(wv L f d l l.length r (k++[c0])).1*prodI ((L.filter λ c'=>decide (c' ≠ c0)).map λ c'=>(wv L f d l l.length r (k++[c'])).1):=by
    show prodI ((L.map _).map _)=_
    rw [List.map_map]
    exact prodI_split hL hc0L
   have z2:(prodW (L.map λ c'=>wv L f d l l.length r (k++[c']))).2=(wv L f d l l.length r (k++[c0])).2*prodI ((L.filter λ c'=>decide (c' ≠ c0)).map λ c'=>(wv L f d l l.length r (k++[c'])).2):=by
    show prodI ((L.map _).map _)=_
    rw [List.map_map]
    exact prodI_split hL hc0L
   have hR1:∀ c' ∈ L.filter (λ c'=>decide (c' ≠ c0)),seen f d l k l.length=false->wv L f d l l.length r (k++[c'])=(1,1):=λ c' _ z=>wv_unseen (seen_up z)
   have hX0:seen f d l k l.length=false->wv L f d l l.length r (k++[c0])=(1,1):=λ z=>wv_unseen (seen_up z)
   have hR1':seen f d l k l.length=false->prodI ((L.filter λ c'=>decide (c' ≠ c0)).map λ c'=>(wv L f d l l.length r (k++[c'])).1)=1:=λ z=>prodI_ones λ c' h'=>by rw [hR1 c' h' z]
   have hR2':seen f d l k l.length=false->prodI ((L.filter λ c'=>decide (c' ≠ c0)).map λ c'=>(wv L f d l l.length r (k++[c'])).2)=1:=λ z=>prodI_ones λ c' h'=>by rw [hR1 c' h' z]
   generalize prodI ((L.filter λ c'=>decide (c' ≠ c0)).map λ c'=>(wv L f d l l.length r (k++[c'])).1)=R1 at *
   generalize prodI ((L.filter λ c'=>decide (c' ≠ c0)).map λ c'=>(wv L f d l l.length r (k++[c'])).2)=R2 at *
   have hwc:∀ c ∈ L,wv L f d (l++[c]) (l.length+1) (r+1) k=((wo L f d l l.length k).1*(2*(gC f d l k l.length c:Int)+1)*(Y*R2)+(wv L f d (l++[c]) (l.length+1) r (k++[c0])).1*R1*((wo L f d l l.length k).2*(2*((cntL L f d l k l.length).sum:Nat)+(L.length:Nat))),
    2*((wo L f d l l.length k).2*(2*((cntL L f d l k l.length).sum:Nat)+(L.length:Nat))*(Y*R2))):=λ c hc=>by
    rw [wv_seen (hse c)]
    unfold mixW
    rw [e1,e2,wo_next hL hc hp,hY c hc]
   refine ⟨2*((wo L f d l l.length k).2*(2*((cntL L f d l k l.length).sum:Nat)+(L.length:Nat))*(Y*R2)),λ c hc=>by rw [hwc c hc],?_⟩
   have hsum:(L.map λ c=>(wv L f d (l++[c]) (l.length+1) (r+1) k).1).sum=(wo L f d l l.length k).1*(2*((cntL L f d l k l.length).sum:Nat)+(L.length:Nat))*(Y*R2)+(L.map λ c=>(wv L f d (l++[c]) (l.length+1) r (k++[c0])).1).sum*(R1*((wo L f d l l.length k).2*(2*((cntL L f d l k l.length).sum:Nat)+(L.length:Nat)))):=by
    rw [List.map_congr_left (g:=λ c=>((wo L f d l l.length k).1*(2*(gC f d l k l.length c:Int)+1))*(Y*R2)+(wv L f d (l++[c]) (l.length+1) r (k++[c0])).1*(R1*((wo L f d l l.length k).2*(2*((cntL L f d l k l.length).sum:Nat)+(L.length:Nat))))) λ c hc=>by rw [hwc c hc]; grind]
    rw [sum_lin,sum_mul,sum_gC]
   rw [hsum]
   generalize (L.map λ c=>(wv L f d (l++[c]) (l.length+1) r (k++[c0])).1).sum=SX at *
   generalize hSS:(2*((cntL L f d l k l.length).sum:Nat)+(L.length:Nat):Int)=SS at *
   cases z:seen f d l k l.length with
   | true =>
     rw [wv_seen z]
     unfold mixW
     rw [z1,z2]
     generalize wv L f d l l.length r (k++[c0])=X0 at *
     generalize wo L f d l l.length k=a at *
     grind
   | false =>
     have hwo:=wo_unseen (L:=L) z
     have hX:=hX0 z
     have h1:=hR1' z
     have h2:=hR2' z
     rw [wv_unseen z,hwo,h1,h2]
     rw [hX] at hS
     grind
def WT (L:List Nat) (f d:Nat) (l:List Nat):Int × Int:=wv L f d l l.length d []
theorem abs_of {a:Int} {k:Nat} (h0:0<=a) (h:a<=2^k) (hk:k<100000):a.natAbs<2^100000:=by
 have h1:=lt_pow h hk
 have h2:(a.natAbs:Int)<((2^100000:Nat):Int):=by
  rw [Int.natCast_pow]
  have:(a.natAbs:Int)=a:=by omega
  rw [this]; exact h1
 exact Int.ofNat_lt.mp h2
theorem EAt_loc (F:Hp) (v:V) (L:List Nat) (f d:Nat) (l x k:List Nat) {n:Nat} (hn:n<=l.length):EAt K F v L f d (l++x) n k ↔ EAt K F v L f d l n k:=by
 unfold EAt wo
 rw [cntL_loc L f d l x k hn,wv_loc L f d l x hn]
theorem GT_loc (F:Hp) (L:List Nat) (f d:Nat) (l x:List Nat) (kvs:List (Key × V)) {n:Nat} (hn:n<=l.length):GT K F L f d (l++x) kvs (λ _=>n) ↔ GT K F L f d l kvs (λ _=>n) :=
 ⟨λ h=>⟨λ k e hl=>(seen_loc f d l x k hn) ▸ h.non k e hl,λ k v e hl=>⟨(seen_loc f d l x k hn) ▸ (h.som k v e hl).1,(EAt_loc F v L f d l x k hn).mp (h.som k v e hl).2⟩⟩,
  λ h=>⟨λ k e hl=>(seen_loc f d l x k hn).symm ▸ h.non k e hl,λ k v e hl=>⟨(seen_loc f d l x k hn).symm ▸ (h.som k v e hl).1,(EAt_loc F v L f d l x k hn).mpr (h.som k v e hl).2⟩⟩⟩
theorem RL_loc (F:Hp) (L:List Nat) (f d:Nat) (l x:List Nat) (v:V) {j:Nat} (hj:j<=l.length):RL K F L f d (l++x) v j ↔ RL K F L f d l v j:=by
 unfold RL RPair
 rw [eldL_loc f d l x hj]
 constructor
 ·rintro ⟨a,xs,e,h1,h2,h3⟩
  refine ⟨a,xs,e,h1,h2,λ i y hy=>?_⟩
  obtain ⟨ch,z,e1,e2,e3⟩:=h3 i y hy
  refine ⟨ch,z,e1,e2,?_⟩
  rw [seen_loc f d l x _ hj,EAt_loc F z L f d l x _ hj] at e3
  exact e3
 ·rintro ⟨a,xs,e,h1,h2,h3⟩
  refine ⟨a,xs,e,h1,h2,λ i y hy=>?_⟩
  obtain ⟨ch,z,e1,e2,e3⟩:=h3 i y hy
  refine ⟨ch,z,e1,e2,?_⟩
  rw [seen_loc f d l x _ hj,EAt_loc F z L f d l x _ hj]
  exact e3
theorem GO_loc {C p tb rp fr:Addr} {H:Hp} {f:Nat} {L:List Nat} {d:Nat} {l x:List Nat} {n B:Nat} (hn:n<=l.length):GO K C p tb rp fr H f L d (l++x) n B ↔ GO K C p tb rp fr H f L d l n B:=by
 have ht:(l++x).take n=l.take n:=List.take_append_of_le_length hn
 constructor
 ·intro h
  obtain ⟨rs,h1,h2,h3⟩:=h.rl
  obtain ⟨kvs,g1,g2,g3⟩:=h.td
  exact ⟨ht ▸ h.ob,⟨kvs,g1,g2,(GT_loc _ _ f d l x kvs hn).mp g3⟩,⟨rs,h1,h2,λ j v hj=>(RL_loc _ _ f d l x v (by have:=(List.getElem?_eq_some_iff.mp hj).1; omega)).mp (h3 j v hj)⟩,h.fa⟩
 ·intro h
  obtain ⟨rs,h1,h2,h3⟩:=h.rl
  obtain ⟨kvs,g1,g2,g3⟩:=h.td
  exact ⟨ht.symm ▸ h.ob,⟨kvs,g1,g2,(GT_loc _ _ f d l x kvs hn).mpr g3⟩,⟨rs,h1,h2,λ j v hj=>(RL_loc _ _ f d l x v (by have:=(List.getElem?_eq_some_iff.mp hj).1; omega)).mpr (h3 j v hj)⟩,h.fa⟩
theorem GO.more {C p tb rp fr:Addr} {H:Hp} {f:Nat} {L:List Nat} {d:Nat} {l:List Nat} {B:Nat} (x:List Nat) (h:GO K C p tb rp fr H f L d l l.length B):GO K C p tb rp fr H f L d (l++x) l.length B:=(GO_loc (Nat.le_refl _)).mpr h
theorem GO.less {C p tb rp fr:Addr} {H:Hp} {f:Nat} {L:List Nat} {d:Nat} {l x:List Nat} {B:Nat} (h:GO K C p tb rp fr H f L d (l++x) l.length B):GO K C p tb rp fr H f L d l l.length B:=(GO_loc (Nat.le_refl _)).mp h
theorem prodI_dvd {g h:Nat->Int}:∀ {L:List Nat},(∀ c ∈ L,g c ∣ h c)->prodI (L.map g) ∣ prodI (L.map h)
 | [],_=>Int.dvd_refl _
 | c::L,hd=>by
   show g c*prodI (L.map g) ∣ h c*prodI (L.map h)
   exact Int.mul_dvd_mul (hd c List.mem_cons_self) (prodI_dvd λ c' h'=>hd c' (List.mem_cons_of_mem _ h'))
theorem wv_dvd {L:List Nat} {f d:Nat} {l:List Nat} (hL:L.Nodup) (hl:∀ c ∈ l,c ∈ L) {n:Nat} (hn:n<l.length):∀ (r:Nat) (k:List Nat),(wv L f d l n r k).2 ∣ (wv L f d l (n+1) r k).2:=by
 have hwo:∀ k,(wo L f d l n k).2 ∣ (wo L f d l (n+1) k).2:=λ k=>by
  by_cases z:k <+: eldL f d l n
  ·have hc:=List.getElem?_eq_getElem hn
   obtain ⟨i,hi⟩:=List.getElem?_of_mem (hl _ (List.getElem_mem hn))
   obtain ⟨v,_,_,h3⟩:=wo_on hL z hi hc
   rw [h3]
   exact Int.dvd_mul_right _ _
  ·rw [wo_off z]; exact Int.dvd_refl _
 intro r
 induction r with
 | zero=>exact hwo
 | succ r ih =>
   intro k
   by_cases z:k <+: eldL f d l n
   ·cases hs:seen f d l k n with
    | false=>rw [wv_unseen hs]; exact Int.one_dvd _
    | true =>
      rw [wv_seen hs,wv_seen (seen_yes (falls_iff.mpr z))]
      refine Int.mul_dvd_mul (Int.dvd_refl _) (Int.mul_dvd_mul (hwo k) ?_)
      show prodI ((L.map _).map _) ∣ prodI ((L.map _).map _)
      rw [List.map_map,List.map_map]
      exact prodI_dvd λ c _=>ih (k++[c])
   ·rw [wv_off (r+1) z]; exact Int.dvd_refl _
theorem WT_dvd {L:List Nat} {f d:Nat} {t:List Nat} (hL:L.Nodup) {c:Nat} (hl:∀ x ∈ t++[c],x ∈ L):(WT L f d t).2 ∣ (WT L f d (t++[c])).2:=by
 unfold WT
 rw [List.length_append]
 have:=wv_dvd (f:=f) (d:=d) (l:=t++[c]) (n:=t.length) hL hl (by simp) d []
 rw [wv_loc L f d t [c] (Nat.le_refl _)] at this
 exact this
theorem WT_dvd_app {L:List Nat} {f d:Nat} (hL:L.Nodup):∀ {x t:List Nat},(∀ c ∈ t++x,c ∈ L)->(WT L f d t).2 ∣ (WT L f d (t++x)).2
 | [],t,_=>by rw [List.append_nil]; exact Int.dvd_refl _
 | c::x,t,h=>by
   have e:t++c::x=(t++[c])++x:=by simp
   rw [e] at h ⊢
   exact Int.dvd_trans (WT_dvd hL λ y hy=>h y (List.mem_append_left _ hy)) (WT_dvd_app hL h)
theorem WT_bot {L:List Nat} {f d:Nat} {t:List Nat} (hL:L.Nodup) (hf:f ∈ L) (hl:∀ x ∈ t,x ∈ L) {c c':Nat} (hc:c ∈ L) (hc':c' ∈ L):(WT L f d (t++[c])).2=(WT L f d (t++[c'])).2:=by
 obtain ⟨B,h1,_⟩:=wv_sum (d:=d) hL hf hl d [] (by simp) (List.nil_prefix)
 have e:∀ c,WT L f d (t++[c])=wv L f d (t++[c]) (t.length+1) d []:=λ c=>by unfold WT; rw [List.length_append]; rfl
 rw [e,e,h1 c hc,h1 c' hc']
def wU (L:List Nat) (f d:Nat) (U:Int) (t:List Nat):Int:=(WT L f d t).1*(U / (WT L f d t).2)
theorem wU_eq {L:List Nat} {f d:Nat} {U:Int} {t:List Nat} (h:(WT L f d t).2 ∣ U):wU L f d U t*(WT L f d t).2=(WT L f d t).1*U:=by
 unfold wU
 rw [Int.mul_assoc,Int.ediv_mul_cancel h]
theorem wU_split {L:List Nat} {f d:Nat} {U:Int} {t:List Nat} (hL:L.Nodup) (hf:f ∈ L) (hl:∀ x ∈ t,x ∈ L) (hp:0<(WT L f d t).2) (hq:∀ c ∈ L,0<(WT L f d (t++[c])).2) (hU:∀ c ∈ L,(WT L f d (t++[c])).2 ∣ U) (hU0:(WT L f d t).2 ∣ U):(L.map λ c=>wU L f d U (t++[c])).sum=wU L f d U t:=by
 obtain ⟨B,h1,h2⟩:=wv_sum (d:=d) hL hf hl d [] (by simp) (List.nil_prefix)
 have e:∀ c,WT L f d (t++[c])=wv L f d (t++[c]) (t.length+1) d []:=λ c=>by unfold WT; rw [List.length_append]; rfl
 have hB:0<B:=by rw [← h1 f hf,← e]; exact hq f hf
 have h3:(L.map λ c=>wU L f d U (t++[c])).sum=(U / B)*(L.map λ c=>(wv L f d (t++[c]) (t.length+1) d []).1).sum:=by
  rw [← sum_mul]
  congr 1
  refine List.map_congr_left λ c hc=>?_
  unfold wU
  rw [e,h1 c hc,Int.mul_comm]
 have hUB:B ∣ U:=by rw [← h1 f hf,← e]; exact hU f hf
 have h4:=Int.ediv_mul_cancel hUB
 have h5:=wU_eq hU0
 have h2':(L.map λ c=>(wv L f d (t++[c]) (t.length+1) d []).1).sum*(WT L f d t).2=(WT L f d t).1*B:=h2
 rw [h3]
 refine Int.eq_of_mul_eq_mul_right (a:=(WT L f d t).2) (by omega) ?_
 rw [h5,Int.mul_assoc,h2',← h4]
 grind
theorem wU_mul {L:List Nat} {f d:Nat} {U m:Int} {t:List Nat} (hp:0<(WT L f d t).2) (h:(WT L f d t).2 ∣ U):wU L f d (U*m) t=wU L f d U t*m:=by
 have h1:=wU_eq h
 have h2:=wU_eq (f:=f) (d:=d) (t:=t) (Int.dvd_mul_of_dvd_left (c:=m) h)
 refine Int.eq_of_mul_eq_mul_right (a:=(WT L f d t).2) (by omega) ?_
 rw [h2]
 grind
def pre:List Nat->Nat->List Nat
 | [],_=>[]
 | c::L,x=>if c=x then [] else c::pre L x
theorem pre_take:∀ {L:List Nat} {j x:Nat},L.Nodup->L[j]?=some x->L.take j=pre L x
 | [],_,_,_,h=>nomatch h
 | c::L,0,x,_,h=>by
   cases h
   show []=(if c=c then [] else _)
   rw [if_pos rfl]
 | c::L,j+1,x,hn,h=>by
   obtain ⟨h1,h2⟩:=List.nodup_cons.mp hn
   have hx:L[j]?=some x:=h
   have hne:¬ c=x:=λ e=>h1 (e ▸ List.mem_of_getElem? hx)
   show c::L.take j=(if c=x then [] else c::pre L x)
   rw [if_neg hne,pre_take h2 hx]
theorem pre_sub {L:List Nat} {x c:Nat} (h:c ∈ pre L x):c ∈ L:=by
 induction L with
 | nil=>exact nomatch h
 | cons y L ih =>
   unfold pre at h
   split at h
   ·exact nomatch h
   ·rcases List.mem_cons.mp h with rfl | h
    ·exact List.mem_cons_self
    ·exact List.mem_cons_of_mem _ (ih h)
theorem pre_last {L:List Nat} {j x:Nat} (hn:L.Nodup) (hx:L[j]?=some x) (hj:j+1=L.length):pre L x++[x]=L:=by
 rw [← pre_take hn hx]
 have:L.take j++[x]=L.take (j+1):=by rw [List.take_add_one,hx]; rfl
 rw [this,hj,List.take_length]
def aN (L:List Nat) (f d:Nat) (U:Int) (t:List Nat) (x:Nat):Int:=((pre L x).map λ c=>wU L f d U (t++[c])).sum
def lowN (L:List Nat) (f d:Nat) (U:Int):List Nat->List Nat->Int
 | _,[]=>0
 | t,x::xs=>aN L f d U t x+lowN L f d U (t++[x]) xs
theorem low_app (L:List Nat) (f d:Nat) (U:Int):∀ (xs ys t:List Nat),lowN L f d U t (xs++ys)=lowN L f d U t xs+lowN L f d U (t++xs) ys
 | [],ys,t=>by rw [List.append_nil]; show lowN L f d U t ys=0+_; omega
 | x::xs,ys,t=>by
   show aN L f d U t x+lowN L f d U (t++[x]) (xs++ys)=aN L f d U t x+lowN L f d U (t++[x]) xs+lowN L f d U (t++x::xs) ys
   rw [low_app L f d U xs ys (t++[x]),show t++[x]++xs=t++x::xs by simp]
   omega
structure Gd (L:List Nat) (f d N:Nat):Prop where
 nd:L.Nodup
 fm:f ∈ L
 ps:∀ t:List Nat,t.length<=N->(∀ c ∈ t,c ∈ L)->0<(WT L f d t).2/\0<(WT L f d t).1
theorem Gd.div {L:List Nat} {f d N:Nat} (g:Gd L f d N) {t xs:List Nat} {x c:Nat} {U:Int} (ht:∀ y ∈ t++x::xs,y ∈ L) (hc:c ∈ L) (hU:(WT L f d (t++x::xs)).2 ∣ U):(WT L f d (t++[c])).2 ∣ U:=by
 have hx:x ∈ L:=ht x (by simp)
 rw [WT_bot g.nd g.fm (λ y hy=>ht y (List.mem_append_left _ hy)) hc hx]
 have e:t++x::xs=(t++[x])++xs:=by simp
 rw [e] at ht hU
 exact Int.dvd_trans (WT_dvd_app g.nd ht) hU
theorem low_mul {L:List Nat} {f d N:Nat} (g:Gd L f d N) {U m:Int}:∀ (xs t:List Nat),(t++xs).length<=N->(∀ y ∈ t++xs,y ∈ L)->(WT L f d (t++xs)).2 ∣ U->lowN L f d (U*m) t xs=lowN L f d U t xs*m
 | [],t,_,_,_=>by show (0:Int)=0*m; rw [Int.zero_mul]
 | x::xs,t,hN,ht,hU=>by
   have e:t++x::xs=(t++[x])++xs:=by simp
   have ih:=low_mul g (m:=m) xs (t++[x]) (by rw [← e]; exact hN) (by rw [← e]; exact ht) (by rw [← e]; exact hU)
   show aN L f d (U*m) t x+_=(aN L f d U t x+lowN L f d U (t++[x]) xs)*m
   rw [ih]
   have h1:aN L f d (U*m) t x=aN L f d U t x*m:=by
    unfold aN
    refine Eq.trans ?_ (Int.mul_comm m _)
    rw [← sum_mul]
    congr 1
    refine List.map_congr_left λ c hc=>?_
    have hcL:=pre_sub hc
    rw [wU_mul (g.ps _ (by rw [List.length_append] at hN ⊢; simp at hN ⊢; omega) λ y hy=>by
     rcases List.mem_append.mp hy with z | z
     ·exact ht y (List.mem_append_left _ z)
     ·cases List.mem_singleton.mp z
      exact hcL).1 (g.div ht hcL hU),Int.mul_comm]
   rw [h1,Int.add_mul]
theorem wU_nonneg {L:List Nat} {f d N:Nat} (g:Gd L f d N) {U:Int} (hU:0<=U) {t:List Nat} (ht:t.length<=N) (hl:∀ c ∈ t,c ∈ L):0<=wU L f d U t:=by
 obtain ⟨h1,h2⟩:=g.ps t ht hl
 exact Int.mul_nonneg (by omega) (Int.ediv_nonneg hU (by omega))
theorem pre_split:∀ {L:List Nat} {x:Nat},x ∈ L->∃ r,L=pre L x++x::r
 | [],_,h=>nomatch h
 | c::L,x,h=>by
   unfold pre
   by_cases z:c=x
   ·subst z; rw [if_pos rfl]; exact ⟨L,rfl⟩
   ·rw [if_neg z]
    rcases List.mem_cons.mp h with e | h
    ·exact absurd e.symm z
    ·obtain ⟨r,hr⟩:=pre_split h
     exact ⟨r,by rw [List.cons_append,← hr]⟩
theorem sum_nn {g:Nat->Int}:∀ {L:List Nat},(∀ c ∈ L,0<=g c)->0<=(L.map g).sum
 | [],_=>Int.le_refl _
 | c::L,h=>by
   rw [List.map_cons,List.sum_cons]
   have:=h c List.mem_cons_self
   have:=sum_nn (L:=L) λ c' h'=>h c' (List.mem_cons_of_mem _ h')
   omega
theorem low_le {L:List Nat} {f d N:Nat} (g:Gd L f d N) {U:Int} (hU0:0<=U):∀ (xs t:List Nat),(t++xs).length<=N->(∀ y ∈ t++xs,y ∈ L)->(WT L f d (t++xs)).2 ∣ U->0<=lowN L f d U t xs/\lowN L f d U t xs+wU L f d U (t++xs)<=wU L f d U t
 | [],t,_,_,_=>by rw [List.append_nil]; exact ⟨Int.le_refl _,by show 0+_<=_; omega⟩
 | x::xs,t,hN,ht,hU=>by
   have e:t++x::xs=(t++[x])++xs:=by simp
   have ih:=low_le g hU0 xs (t++[x]) (by rw [← e]; exact hN) (by rw [← e]; exact ht) (by rw [← e]; exact hU)
   rw [← e] at ih
   have htl:∀ y ∈ t,y ∈ L:=λ y hy=>ht y (List.mem_append_left _ hy)
   have hx:x ∈ L:=ht x (by simp)
   have hlen:t.length+1<=N:=by rw [List.length_append] at hN; simp at hN; omega
   have hc1:∀ c ∈ L,∀ y ∈ t++[c],y ∈ L:=λ c hc y hy=>by
    rcases List.mem_append.mp hy with z | z
    ·exact htl y z
    ·cases List.mem_singleton.mp z
     exact hc
   have nn:∀ c ∈ L,0<=wU L f d U (t++[c]):=λ c hc=>wU_nonneg g hU0 (by rw [List.length_append]; exact hlen) (hc1 c hc)
   have hs:=wU_split (U:=U) g.nd g.fm htl (g.ps t (by omega) htl).1 (λ c hc=>(g.ps _ (by rw [List.length_append]; exact hlen) (hc1 c hc)).1) (λ c hc=>g.div ht hc hU) (Int.dvd_trans (WT_dvd_app g.nd ht) hU)
   obtain ⟨r,hr⟩:=pre_split hx
   have h9:(L.map λ c=>wU L f d U (t++[c])).sum=((pre L x++x::r).map λ c=>wU L f d U (t++[c])).sum:=by rw [← hr]
   rw [List.map_append,List.sum_append,List.map_cons,List.sum_cons] at h9
   have n1:0<=aN L f d U t x:=sum_nn λ c hc=>nn c (pre_sub hc)
   have n2:0<=(r.map λ c=>wU L f d U (t++[c])).sum:=sum_nn λ c hc=>nn c (by rw [hr]; simp [hc])
   show 0<=aN L f d U t x+_/\aN L f d U t x+_+_<=_
   unfold aN at *
   omega
def FrU (K:PySem.W.Frag) (H:Hp) (x:V) (A U:Int):Prop:=∃ p n e,x=.ref p/\SqT K H p [.int n,.int e]/\0<=n/\0<e/\n*U=A*e/\gcdI n e=1
theorem FrU.same {H H':Hp} {x:V} {A U:Int} (h:FrU K H x A U) (g:Same H H'):FrU K H' x A U:=by
 obtain ⟨p,n,e,e0,h1,h2⟩:=h
 exact ⟨p,n,e,e0,same_tup g h1,h2⟩
theorem fru_le {n e A U:Int} (hU:0<U) (hn:0<=n) (he:0<e) (hc:n*U=A*e) (hg:gcdI n e=1):e<=U/\n<=A/\0<=A:=by
 have n1:Nat.gcd n.natAbs e.natAbs=1:=by unfold gcdI at hg; omega
 have d1:e.natAbs ∣ U.natAbs:=by
  refine (Nat.Coprime.symm n1).dvd_of_dvd_mul_left ?_
  rw [← Int.natAbs_mul,hc,Int.natAbs_mul]
  exact Nat.dvd_mul_left _ _
 have d2:=Nat.le_of_dvd (by omega) d1
 have h1:e<=U:=by omega
 have hA:0<=A:=by
  have h0:=Int.mul_nonneg hn (show 0<=U by omega)
  rw [hc] at h0
  exact Int.nonneg_of_mul_nonneg_left h0 he
 refine ⟨h1,?_,hA⟩
 have h2:A*e<=A*U:=Int.mul_le_mul_of_nonneg_left h1 hA
 rw [← hc] at h2
 exact Int.le_of_mul_le_mul_right h2 hU
theorem FrV.toU {H:Hp} {x:V} {L:List Nat} {f d:Nat} {t:List Nat} {U:Int} (h:FrV K H x (WT L f d t).1 (WT L f d t).2) (hp:0<(WT L f d t).2) (hU:(WT L f d t).2 ∣ U):FrU K H x (wU L f d U t) U:=by
 obtain ⟨p,n,e,e0,h1,n0,d0,c1,g1,_⟩:=h
 refine ⟨p,n,e,e0,h1,by omega,d0,?_,g1⟩
 have h2:=wU_eq hU
 refine Int.eq_of_mul_eq_mul_right (a:=(WT L f d t).2) (by omega) ?_
 grind
theorem abs_lt0 {x:Int} {e:Nat} (h0:0<=x) (h:x<2^e):x.natAbs<2^e:=by
 have h2:x<((2^e:Nat):Int):=by rw [Int.natCast_pow]; exact h
 omega
def spPlusU (K:PySem.W.Frag):Sp:=λ vs H Q _=>∃ x y A C U,vs=[x,y]/\FrU K H x A U/\FrU K H y C U/\0<U/\U<=2^6300/\A<=2^7000/\C<=2^7000/\∀ H' z,Same H H'->FrU K H' z (A+C) U->Q z H'
theorem ok_plusU (T:Txt K mg t):FnOk P w K mg base (CX1 P w) 3 t.a_plus t.fd_plus ["one", "other"] (spPlusU K):=by
 refine T.F_plus.okn (k:=2) sc_plus (λ vs H Q E h=>?_) (λ cdv A outer s H vs Q E hr h=>?_)
 ·obtain ⟨x,y,_,_,_,rfl,_⟩:=h; rfl
 obtain ⟨_,_,a,c,U,rfl,⟨p,n,d,rfl,h1,n0,d0,c1,g1⟩,⟨q',m,f,rfl,h2,m0,f0,c2,g2⟩,hU,bU,ba,bc,q⟩:=h
 have G_Qbe:=@ok_fractionQ P w K mg base t T
 obtain ⟨l1,l2,l3⟩:=fru_le hU n0 d0 c1 g1
 obtain ⟨k1,k2,k3⟩:=fru_le hU m0 f0 c2 g2
 refine ⟨_,(pss_one (ps_ret (pe_call G_Qbe hr rfl T.m_Qbe T.F_Qbe.kp T.b_Qbe .nil pass1 (PAs.h (pas_cons (pe_op oAddN (pe_op oMulN (pe_ix ixAny (pv 0) pe_int (λ _ _=>rfl)) (pe_ix ixAny (pv 1) pe_int (λ _ _=>rfl))) (pe_op oMulN (pe_ix ixAny (pv 1) pe_int (λ _ _=>rfl)) (pe_ix ixAny (pv 0) pe_int (λ _ _=>rfl)))) (pas_cons (pe_op oMulN (pe_ix ixAny (pv 0) pe_int (λ _ _=>rfl)) (pe_ix ixAny (pv 1) pe_int (λ _ _=>rfl))) pas_nil)))))),?_⟩
 have sm:∀ {x:Int} {e:Nat},0<=x->x<=2^e->e<100000->x.natAbs<2^100000:=λ h0 h he=>abs_of h0 h he
 have mo1:MulOk n f:=mulB (sm n0 (Int.le_trans l2 ba) (by decide)) (sm (by omega) (Int.le_trans k1 bU) (by decide))
 have mo2:MulOk m d:=mulB (sm m0 (Int.le_trans k2 bc) (by decide)) (sm (by omega) (Int.le_trans l1 bU) (by decide))
 have mo3:MulOk d f:=mulB (sm (by omega) (Int.le_trans l1 bU) (by decide)) (sm (by omega) (Int.le_trans k1 bU) (by decide))
 have hde:0<d*f:=Int.mul_pos d0 f0
 have hdf:d*f<2^13499:=lt_pow (mul_le_pow (by omega) (Int.le_trans l1 bU) (Int.le_trans k1 bU)) (by decide)
 have p1:0<=n*f:=Int.mul_nonneg n0 (by omega)
 have p2:0<=m*d:=Int.mul_nonneg m0 (by omega)
 have htop:n*f+m*d<2^13499:=by
  have t1:n*f<=2^13300:=mul_le_pow (by omega) (Int.le_trans l2 ba) (Int.le_trans k1 bU)
  have t2:m*d<=2^13300:=mul_le_pow (by omega) (Int.le_trans k2 bc) (Int.le_trans l1 bU)
  have t3:(2:Int)^13300*2^1<=2^13301:=mul_le_pow (by decide) (Int.le_refl _) (Int.le_refl _)
  have t4:(2:Int)^13300*2^1=2^13300*2:=rfl
  exact lt_pow (a:=13301) (by omega) (by decide)
 refine ⟨_,rfl,ixT h1 rfl ⟨_,rfl,ixT h2 rfl (.inl ⟨_,_,rfl,rfl,mo1,_,rfl,ixT h2 rfl ⟨_,rfl,ixT h1 rfl (.inl ⟨_,_,rfl,rfl,mo2,.inl ⟨_,_,rfl,rfl,?_⟩⟩)⟩⟩)⟩⟩
 refine ⟨_,rfl,ixT h1 rfl ⟨_,rfl,ixT h2 rfl (.inl ⟨_,_,rfl,rfl,mo3,?_⟩)⟩⟩
 refine ⟨n*f+m*d,d*f,rfl,λ z=>absurd z (by omega),λ _=>⟨.inr ⟨abs_lt0 (by omega) htop,abs_lt hde (Int.le_refl _) hdf⟩,λ r hr0=>?_⟩⟩
 have nc:=num_cross (t:=n*f+m*d) (b:=d*f) (by omega)
 have dp:=den_pos (t:=n*f+m*d) (b:=d*f) (by omega)
 have ng:=num_gcd (t:=n*f+m*d) (b:=d*f) (by omega)
 refine q _ _ (same_new hr0 _) ⟨r,_,_,rfl,.inl (.inl upd_same),?_,dp,?_,ng⟩
 ·have h0:0<=num (n*f+m*d) (d*f)*(d*f):=by rw [nc]; exact Int.mul_nonneg (by omega) (by omega)
  exact Int.nonneg_of_mul_nonneg_left h0 hde
 ·generalize num (n*f+m*d) (d*f)=N at *
  generalize den (n*f+m*d) (d*f)=M at *
  refine Int.eq_of_mul_eq_mul_right (a:=d*f) (by omega) ?_
  grind
def spOverU (K:PySem.W.Frag):Sp:=λ vs H Q _=>∃ x y A U C D,vs=[x,y]/\FrU K H x A U/\FrV K H y C D/\0<U/\U<=2^6300/\C<=2^6300/\A<=2^7000/\D<=2^6300/\∀ H' z,Same H H'->FrU K H' z (A*D) (U*C)->Q z H'
theorem ok_overU (T:Txt K mg t):FnOk P w K mg base (CX1 P w) 3 t.a_over t.fd_over ["one", "other"] (spOverU K):=by
 refine T.F_over.okn (k:=2) sc_over (λ vs H Q E h=>?_) (λ cdv A outer s H vs Q E hr h=>?_)
 ·obtain ⟨x,y,_,_,_,_,rfl,_⟩:=h; rfl
 obtain ⟨_,_,a,U,c,e,rfl,⟨p,n,d,rfl,h1,n0,d0,c1,g1⟩,⟨q',m,f,rfl,h2,m0,f0,c2,g2,l3,l4⟩,hU,bU,bc,ba,be,q⟩:=h
 have G_Qbe:=@ok_fractionQ P w K mg base t T
 obtain ⟨l1,l2,_⟩:=fru_le hU n0 d0 c1 g1
 refine ⟨_,(pss_one (ps_ret (pe_call G_Qbe hr rfl T.m_Qbe T.F_Qbe.kp T.b_Qbe .nil pass1 (PAs.h (pas_cons (pe_op oMulN (pe_ix ixAny (pv 0) pe_int (λ _ _=>rfl)) (pe_ix ixAny (pv 1) pe_int (λ _ _=>rfl))) (pas_cons (pe_op oMulN (pe_ix ixAny (pv 0) pe_int (λ _ _=>rfl)) (pe_ix ixAny (pv 1) pe_int (λ _ _=>rfl))) pas_nil)))))),?_⟩
 have mo1:MulOk n f:=mulB (abs_of n0 (Int.le_trans l2 ba) (by decide)) (abs_of (by omega) (Int.le_trans l4 be) (by decide))
 have mo2:MulOk d m:=mulB (abs_of (by omega) (Int.le_trans l1 bU) (by decide)) (abs_of (by omega) (Int.le_trans l3 bc) (by decide))
 have hde:0<d*m:=Int.mul_pos d0 m0
 have hdf:d*m<2^13499:=lt_pow (mul_le_pow (by omega) (Int.le_trans l1 bU) (Int.le_trans l3 bc)) (by decide)
 have p1:0<=n*f:=Int.mul_nonneg n0 (by omega)
 have htop:n*f<2^13499:=lt_pow (mul_le_pow (by omega) (Int.le_trans l2 ba) (Int.le_trans l4 be)) (by decide)
 refine ⟨_,rfl,ixT h1 rfl ⟨_,rfl,ixT h2 rfl (.inl ⟨_,_,rfl,rfl,mo1,?_⟩)⟩⟩
 refine ⟨_,rfl,ixT h1 rfl ⟨_,rfl,ixT h2 rfl (.inl ⟨_,_,rfl,rfl,mo2,?_⟩)⟩⟩
 refine ⟨n*f,d*m,rfl,λ z=>absurd z (by omega),λ _=>⟨.inr ⟨abs_lt0 (by omega) htop,abs_lt hde (Int.le_refl _) hdf⟩,λ r hr0=>?_⟩⟩
 have nc:=num_cross (t:=n*f) (b:=d*m) (by omega)
 have dp:=den_pos (t:=n*f) (b:=d*m) (by omega)
 have ng:=num_gcd (t:=n*f) (b:=d*m) (by omega)
 refine q _ _ (same_new hr0 _) ⟨r,_,_,rfl,.inl (.inl upd_same),?_,dp,?_,ng⟩
 ·have h0:0<=num (n*f) (d*m)*(d*m):=by rw [nc]; exact Int.mul_nonneg (by omega) (by omega)
  exact Int.nonneg_of_mul_nonneg_left h0 hde
 ·generalize num (n*f) (d*m)=N at *
  generalize den (n*f) (d*m)=M at *
  refine Int.eq_of_mul_eq_mul_right (a:=d*m) (by omega) ?_
  grind
theorem nought_fr (T:Txt K mg t) (H:Hp) (U:Int):FrU K H (.ref t.q_NOUGHT) 0 U:=⟨t.q_NOUGHT,0,1,rfl,.inr T.tc_NOUGHT,by decide,by decide,by rw [Int.zero_mul,Int.zero_mul],by decide⟩
structure P3 (x:Int × Int) (e:Nat):Prop where
 a1:1<=x.1
 ab:x.1<=x.2
 bb:x.2<=2^e
theorem P3.one (e:Nat):P3 (1,1) e:=⟨by decide,by decide,ipow_pos e⟩
theorem P3.p2 {x:Int × Int} {e:Nat} (h:P3 x e):P2 x e:=⟨h.a1,Int.le_trans h.a1 h.ab,Int.le_trans h.ab h.bb,h.bb⟩
theorem P3.mono {x:Int × Int} {e e':Nat} (h:P3 x e) (z:e<=e'):P3 x e':=⟨h.a1,h.ab,Int.le_trans h.bb (ipow_le z)⟩
theorem prodW_P3:∀ {ab:List (Int × Int)} {es:List Nat},ab.length=es.length->(∀ (i:Nat) x e,ab[i]?=some x->es[i]?=some e->P3 x e)->P3 (prodW ab) es.sum
 | [],[],_,_=>P3.one 0
 | x::ab,e::es,hl,h=>by
   have h1:=h 0 x e rfl rfl
   have h2:=prodW_P3 (ab:=ab) (es:=es) (by simpa using hl) λ i y g hy hg=>h (i+1) y g hy hg
   have a1:=h1.a1
   have a2:=h2.a1
   have b1:=h1.ab
   have b2:=h2.ab
   refine ⟨?_,?_,?_⟩
   ·show 1<=x.1*(prodW ab).1
    exact Int.mul_pos (by omega) (by omega)
   ·show x.1*(prodW ab).1<=x.2*(prodW ab).2
    exact Int.mul_le_mul b1 b2 (by omega) (by omega)
   ·show x.2*(prodW ab).2<=_
    rw [List.sum_cons]
    exact mul_le_pow (by omega) h1.bb h2.bb
 | [],_::_,hl,_=>by cases hl
 | _::_,[],hl,_=>by cases hl
def tb (r n:Nat):Nat:=(8+9*r)*n
theorem sum_tb (r:Nat) (g:Nat->Nat):∀ L:List Nat,(L.map λ c=>tb r (g c)).sum=tb r (L.map g).sum
 | []=>by simp [tb]
 | c::L=>by
   rw [List.map_cons,List.sum_cons,List.map_cons,List.sum_cons,sum_tb r g L]
   unfold tb
   rw [Nat.mul_add]
theorem wo_P3 {L:List Nat} {f d:Nat} {l:List Nat} (S:Sm L f d l) {n:Nat} (hn:n<=l.length) (h125:l.length<=125) (k:List Nat):P3 (wo L f d l n k) (8*(sg f d l k n).length):=by
 obtain ⟨a,_⟩:=wo_ok S hn k
 refine ⟨a,wo_le1 S k hn,?_⟩
 have hsum:(cntL L f d l k n).sum=(sg f d l k n).length:=sg_len S.nd S.al _ hn
 have hle:(sg f d l k n).length<=n:=sg_le ..
 unfold wo
 rw [hsum]
 exact botW_le8 S.l6 _ (by omega)
theorem mix_P3 {a b:Int × Int} {e s:Nat} (hs:1<=s) (ha:P3 a (8*s)) (hb:P3 b e):P3 (mixW a b) (e+9*s):=by
 have a1:=ha.a1
 have b1:=hb.a1
 have a2:=ha.ab
 have b2:=hb.ab
 have m1:a.1*b.2<=a.2*b.2:=Int.mul_le_mul_of_nonneg_right a2 (by omega)
 have m2:b.1*a.2<=a.2*b.2:=by rw [Int.mul_comm a.2]; exact Int.mul_le_mul_of_nonneg_right b2 (by omega)
 have p1:0<a.1*b.2:=Int.mul_pos (by omega) (by omega)
 have p2:0<b.1*a.2:=Int.mul_pos (by omega) (by omega)
 have q:=mul_le_pow (by omega) ha.bb hb.bb
 refine ⟨?_,?_,?_⟩
 ·show 1<=a.1*b.2+b.1*a.2; omega
 ·show a.1*b.2+b.1*a.2<=2*(a.2*b.2); omega
 ·show 2*(a.2*b.2)<=_
  have q2:=mul_le_pow (x:=2) (a:=1) (by have:=Int.mul_pos (show 0<a.2 by omega) (show 0<b.2 by omega); omega) (by decide) q
  exact Int.le_trans q2 (ipow_le (by omega))
theorem wv_P3 {L:List Nat} {f d:Nat} {l:List Nat} (S:Sm L f d l) {n:Nat} (hn:n<=l.length) (h125:l.length<=125):∀ r k,k.length+r=d->P3 (wv L f d l n r k) (tb r (sg f d l k n).length):=by
 intro r
 induction r with
 | zero=>intro k _; exact (wo_P3 S hn h125 k).mono (by unfold tb; omega)
 | succ r ih =>
   intro k hk
   cases z:seen f d l k n with
   | false=>rw [wv_unseen z]; exact P3.one _
   | true =>
     rw [wv_seen z]
     have:=prodW_P3 (ab:=L.map λ c=>wv L f d l n r (k++[c])) (es:=L.map λ c=>tb r (sg f d l (k++[c]) n).length) (by simp) λ i x e hx he=>by
      rw [List.getElem?_map] at hx he
      cases hc:L[i]? with
      | none=>rw [hc] at hx; cases hx
      | some c=>rw [hc] at hx he; cases hx; cases he; exact ih _ (by rw [List.length_append]; show _+1+_=_; omega)
     rw [sum_tb,sg_part S.nd S.fm S.al (by omega) n hn] at this
     exact (mix_P3 (seen_len z) (wo_P3 S hn h125 k) this).mono (by unfold tb; rw [show 8+9*(r+1)=(8+9*r)+9 by omega,Nat.add_mul (8+9*r) 9]; exact Nat.le_refl _)
def spWA (K:PySem.W.Frag) (C:Addr):Sp:=λ vs H Q _=>∃ (p tb rp fr:Addr) (f:Nat) (L:List Nat) (d:Nat) (t:List Nat) (B x:Nat) (U:Int),vs=[.ref p,vt [x]]/\GO K C p tb rp fr H f L d t t.length B/\x ∈ f::L/\(∀ c ∈ f::L,Sm (f::L) f d (t++[c]))/\(∀ c ∈ f::L,(WT (f::L) f d (t++[c])).2 ∣ U)/\0<U/\U<=2^6300/\
 (∀ c ∈ f::L,0<=wU (f::L) f d U (t++[c])/\wU (f::L) f d U (t++[c])<=2^6900)/\∀ z H',Same H H'->FrU K H' z (aN (f::L) f d U t x) U->Q z H'
theorem sum_up {g:Nat->Int} {b:Int} (hb:0<=b):∀ {L:List Nat},(∀ c ∈ L,g c<=b)->(L.map g).sum<=L.length*b
 | [],_=>by show (0:Int)<=((0:Nat):Int)*b; rw [Int.natCast_zero,Int.zero_mul]; exact Int.le_refl _
 | c::L,h=>by
   rw [List.map_cons,List.sum_cons,List.length_cons]
   have h1:=h c List.mem_cons_self
   have h2:=sum_up hb (L:=L) λ c' h'=>h c' (List.mem_cons_of_mem _ h')
   rw [Int.natCast_add,Int.add_mul]
   have:((1:Nat):Int)*b=b:=by rw [Int.natCast_one,Int.one_mul]
   omega
theorem ok_Qj (T:Txt K mg t):FnOk P w K mg base (CX1 P w) 8 t.a_Qj t.fd_Qj ["growth", "sign"] (spWA K t.c_Growth):=by
 refine T.F_Qj.okn (k:=7) sc_Qj (λ vs H Q E h=>?_) (λ cdv A outer s H vs Q E hr h=>?_)
 ·obtain ⟨p,tb,rp,fr,f,L,d,tt,B,x,U,rfl,_⟩:=h; rfl
 obtain ⟨p,tb,rp,fr,f,L,d,tt,B,x,U,rfl,G,hx,Sc,hdv,hU,bU,hw,q⟩:=h
 have G_plus:=(@ok_plusU P w K mg base t T).mono (show 3<=7 by decide)
 have G_Qa:=@ok_Qa P w K mg base t T
 have l6:=(Sc x hx).l6
 have nd:=(Sc x hx).nd
 have zL:(f::L).length<=sizeLine:=by rw [sizeLine_eq]; omega
 obtain ⟨dx,ob⟩:=G.ob
 have fa:=same_tup (off_sub p tb rp H) G.fa
 refine ⟨_,(pss_cons (ps_set (i:=2) sc_Qj.nd rfl (Or.inl rfl) (pe_ix ixAny (pe_fld (pv 0) rfl) pe_int (λ _ _=>rfl)))
  (pss_cons (ps_set (i:=3) sc_Qj.nd rfl (Or.inl rfl) (pe_glob (v:=.ref t.q_NOUGHT) rfl T.m_NOUGHT rfl))
  (pss_cons (ps_for PassesOwn.never rfl (piAny (pe_slice slAny (pv 2) po_none (po_some (pe_bm PySem.F.plainAttrs_str PySem.F.slot_str_index PySem.F.type_str_index mt_index (pv 2) (pa_cons (pv 1) pa_nil))))) (pg_name (i:=4) sc_Qj.nd rfl (Or.inl rfl)) (pss_one (ps_set (i:=3) sc_Qj.nd rfl (Or.inl rfl) (pe_call G_plus hr rfl T.m_plus T.F_plus.kp T.b_plus .nil pass1 (PAs.h (pas_cons (pv 3) (pas_cons (pe_meth (pv 0) T.cl_Growth T.me_Qa G_Qa hr T.b_Qa .nil pass1 (pa_cons (pv 4) pa_nil)) pas_nil)))))))
  (pss_one (ps_ret (pv 3)))))),?_⟩
 refine ⟨_,rfl,p,_,dx,_,_,rfl,ob,T.cl_Growth,T.na_Growth_frame,gf_frame _ _ _ _,ixT fa rfl ?_⟩
 refine ⟨_,rfl,_,rfl,rfl,_,rfl,f::L,x,rfl,rfl,hx,λ j hj=>⟨_,rfl,.inr (cutT zL ?_)⟩⟩
 rw [cut_to,pre_take nd hj]
 refine .inr (.inr ⟨_,rfl,?_⟩)
 refine for_walk (walk_tx (pre (f::L) x)) (λ i σ H'=>∃ v r4,σ=[some (.ref p),some (vt [x]),some (vt (f::L)),some v,r4]/\Same H H'/\FrU K H' v (((pre (f::L) x).take i).map λ c=>wU (f::L) f d U (tt++[c])).sum U) ⟨_,_,rfl,Same.refl _,nought_fr T H U⟩ (λ _ _ _ _ _=>trivial) ?_ ?_
 ·rintro i y _ H1 hy ⟨v,r4,rfl,g,hv⟩
  obtain ⟨c,hc,rfl⟩:=sign_at hy
  have hcm:=pre_sub (List.mem_of_getElem? hc)
  have hpl:(pre (f::L) x).length<=6:=by
   rw [← pre_take nd hj,List.length_take]; omega
  obtain ⟨w0,w1⟩:=hw c hcm
  have hs:=sum_up (b:=(2:Int)^6900) (L:=(pre (f::L) x).take i) (g:=λ c=>wU (f::L) f d U (tt++[c])) (Int.le_trans (by decide) (ipow_pos 6900)) λ c hc=>(hw c (pre_sub (List.mem_of_mem_take hc))).2
  have hs2:(((pre (f::L) x).take i).map λ c=>wU (f::L) f d U (tt++[c])).sum<=2^7000:=by
   refine Int.le_trans hs ?_
   have h1:((((pre (f::L) x).take i).length:Nat):Int)<=2^3:=by rw [List.length_take]; omega
   exact Int.le_trans (mul_le_pow (Int.le_trans (by decide) (ipow_pos 6900)) h1 (Int.le_refl _)) (ipow_le (by decide))
  refine ⟨_,rfl,_,rfl,p,dx,_,rfl,g _ _ ob,(gf_no _ _ _ _).2.2.2.2.2.2,_,rfl,p,tb,rp,fr,f,L,d,tt++[c],tt.length,B,c,rfl,(G.same g).more [c],Sc c hcm,by simp,λ z H2 s2 hz=>?_⟩
  have hz':FrV K H2 z (WT (f::L) f d (tt++[c])).1 (WT (f::L) f d (tt++[c])).2:=by unfold WT; rw [List.length_append]; exact hz
  have hb1:0<(WT (f::L) f d (tt++[c])).2:=by have:=(wv_ok (Sc c hcm) (Nat.le_refl _) d [] (by simp)).b1; show 0<(wv (f::L) f d (tt++[c]) (tt++[c]).length d []).2; omega
  refine ⟨v,z,_,_,U,rfl,hv.same s2,hz'.toU hb1 (hdv c hcm),hU,bU,hs2,Int.le_trans w1 (ipow_le (by decide)),λ H3 y3 s3 hy3=>?_⟩
  refine ⟨y3,_,rfl,g.trans (s2.trans s3),?_⟩
  rw [List.take_add_one,hc,List.map_append,List.sum_append]
  show FrU K H3 y3 (_+(wU (f::L) f d U (tt++[c])+0)) U
  rw [Int.add_zero]; exact hy3
 ·rintro _ H1 ⟨v,r4,rfl,g,hv⟩
  rw [List.length_map,List.take_length] at hv
  exact ⟨_,rfl,q v H1 g hv⟩
structure Sp (L:List Nat) (f d N:Nat):Prop where
 nd:L.Nodup
 l6:L.length<=6
 fm:f ∈ L
 d6:d<=6
 ll:N<=125
 lw:wb d N<=8900
 lb:tb d N<=6300
theorem Sp.sm {L:List Nat} {f d N:Nat} (h:Sp L f d N) {t:List Nat} (ht:t.length<=N) (hc:∀ c ∈ t,c ∈ L):Sm L f d t:=⟨h.nd,h.l6,h.fm,h.d6,by have:=h.ll; omega,Nat.le_trans (by unfold wb; exact Nat.mul_le_mul_left _ ht) h.lw,hc⟩
theorem Sp.p3 {L:List Nat} {f d N:Nat} (h:Sp L f d N) {t:List Nat} (ht:t.length<=N) (hc:∀ c ∈ t,c ∈ L):P3 (WT L f d t) (tb d t.length):=(wv_P3 (h.sm ht hc) (Nat.le_refl _) (Nat.le_trans ht h.ll) d [] (by simp)).mono (by unfold tb; exact Nat.mul_le_mul_left _ (sg_le ..))
theorem Sp.p2 {L:List Nat} {f d N:Nat} (h:Sp L f d N) {t:List Nat} (ht:t.length<=N) (hc:∀ c ∈ t,c ∈ L):P2 (WT L f d t) 6300:=(h.p3 ht hc).p2.mono (Nat.le_trans (by unfold tb; exact Nat.mul_le_mul_left _ ht) h.lb)
theorem Sp.gd {L:List Nat} {f d N:Nat} (h:Sp L f d N):Gd L f d N:=⟨h.nd,h.fm,λ t ht hc=>by have:=h.p2 ht hc; have a:=this.a1; have b:=this.b1; exact ⟨by omega,by omega⟩⟩
theorem Sp.wU_le {L:List Nat} {f d N:Nat} (h:Sp L f d N) {t:List Nat} (ht:t.length<=N) (hc:∀ c ∈ t,c ∈ L) {U:Int} (hU:0<U) (bU:U<=2^6300):0<=wU L f d U t/\wU L f d U t<=2^6300:=by
 have g:=h.p3 ht hc
 have g1:=g.a1
 have g2:=g.ab
 refine ⟨wU_nonneg h.gd (by omega) ht hc,Int.le_trans ?_ bU⟩
 have h0:=Int.ediv_nonneg (a:=U) (b:=(WT L f d t).2) (by omega) (by omega)
 have h1:(WT L f d t).1*(U / (WT L f d t).2)<=(WT L f d t).2*(U / (WT L f d t).2):=Int.mul_le_mul_of_nonneg_right g2 h0
 exact Int.le_trans h1 (Int.mul_ediv_self_le (by omega))
theorem keep_off {p tb rp:Addr} {H H':Hp} (h:∀ b o,H b=some o->b ≠ p->b ≠ tb->b ≠ rp->H' b=some o):Same (off p tb rp H) (off p tb rp H'):=λ b o e=>by
 unfold Bp.off at e ⊢
 split at e
 ·cases e
 ·rename_i z
  rw [if_neg z]
  exact h b o e (λ y=>z (.inl y)) (λ y=>z (.inr (.inl y))) (λ y=>z (.inr (.inr y)))
theorem Three.fru {C p t r:Addr} {H:Hp} {x:V} {A U:Int} (T3:Three C p t r H) (h:FrU K H x A U):FrU K (off p t r H) x A U:=by
 obtain ⟨q,n,d,e,h1,h2⟩:=h
 exact ⟨q,n,d,e,T3.tup h1,h2⟩
def SpAt (K:PySem.W.Frag) (H:Hp) (z1 z2:V) (L:List Nat) (f d:Nat) (ah l:List Nat):Prop :=
 FrU K H z1 (lowN L f d (WT L f d (ah++l)).2 ah l*(WT L f d ah).2) ((WT L f d (ah++l)).2*(WT L f d ah).1)/\FrU K H z2 (wU L f d (WT L f d (ah++l)).2 (ah++l)*(WT L f d ah).2) ((WT L f d (ah++l)).2*(WT L f d ah).1)
theorem SpAt.same {H H':Hp} {z1 z2:V} {L:List Nat} {f d:Nat} {ah l:List Nat} (h:SpAt K H z1 z2 L f d ah l) (s:Same H H'):SpAt K H' z1 z2 L f d ah l:=⟨h.1.same s,h.2.same s⟩
def spSpan (K:PySem.W.Frag) (C:Addr):L2.Sp:=λ vs H Q E=>∃ (fr:Addr) (f:Nat) (L:List Nat) (d:Nat) (l ah:List Nat),vs=[.ref fr,vt l,vt ah]/\SqT K H fr [vt (f::L),.int d]/\(∀ c ∈ l,c<16^8)/\(∀ c ∈ ah,c<16^8)/\
 ((∃ c ∈ ah,c ∉ f::L)->E (.ref C) none H)/\((∀ c ∈ ah,c ∈ f::L)->(∃ c ∈ l,c ∉ f::L)->E (.ref C) none H)/\
 ((∀ c ∈ ah,c ∈ f::L)->(∀ c ∈ l,c ∈ f::L)->Bp.Sp (f::L) f d (ah++l).length/\∀ H' r z1 z2,Same H H'->H' r=some (.tup [z1,z2])->SpAt K H' z1 z2 (f::L) f d ah l->Q (.ref r) H')
theorem ok_span (T:Txt K mg t):FnOk P w K mg base (CX1 P w) 9 t.a_span t.fd_span ["frame", "text", "ahead"] (spSpan K t.c_NoText):=by
 refine T.F_span.okx (k:=8) sc_span (λ vs H Q E h=>?_) (λ cdv A outer s H vs Q E hr h=>?_)
 ·obtain ⟨fr,f,L,d,l,ah,rfl,_⟩:=h; rfl
 obtain ⟨fr,f,L,d,l,ah,rfl,hF,h16,h16a,q1,q2,q3⟩:=h
 have G_Qbl:=(@ok_Qbl P w K mg base t T).mono (show 1<=8 by decide)
 have G_Qcb:=@ok_Qcb P w K mg base t T
 have G_Qh:=(@ok_Qh P w K mg base t T).mono (show 3<=8 by decide)
 have G_Qs:=(@ok_Qs P w K mg base t T).mono (show 7<=8 by decide)
 have G_Qj:=@ok_Qj P w K mg base t T
 have G_plus:=(@ok_plusU P w K mg base t T).mono (show 3<=8 by decide)
 have G_over:=(@ok_overU P w K mg base t T).mono (show 3<=8 by decide)
 refine ⟨_,(pss_cons (ps_expr (pe_call G_Qbl hr rfl T.m_Qbl T.F_Qbl.kp T.b_Qbl .nil passes1 (PAs.h (pas_cons (pv 0) (pas_cons (pv 2) pas_nil)))))
  (pss_cons (ps_expr (pe_call G_Qbl hr rfl T.m_Qbl T.F_Qbl.kp T.b_Qbl .nil passes1 (PAs.h (pas_cons (pv 0) (pas_cons (pv 1) pas_nil)))))
  (pss_cons (ps_set (i:=3) sc_span.nd rfl (Or.inl rfl) (pe_call G_Qcb hr rfl T.m_Qcb T.F_Qcb.kp T.b_Qcb .nil pass1 (PAs.h (pas_cons (pv 0) (pas_cons (pv 2) pas_nil)))))
  (pss_cons (ps_set (i:=4) sc_span.nd rfl (Or.inl rfl) (pe_meth0 (pv 3) T.cl_Growth T.me_Qh G_Qh hr T.b_Qh .nil pass1))
  (pss_cons (ps_set (i:=5) sc_span.nd rfl (Or.inl rfl) (pe_glob (v:=.ref t.q_NOUGHT) rfl T.m_NOUGHT rfl))
  (pss_cons (ps_for PassesOwn.leaving rfl (piAny (pv 1)) (pg_name (i:=6) sc_span.nd rfl (Or.inl rfl)) (pss_cons (ps_set (i:=5) sc_span.nd rfl (Or.inl rfl) (pe_call G_plus hr rfl T.m_plus T.F_plus.kp T.b_plus .nil pass1 (PAs.h (pas_cons (pv 5) (pas_cons (pe_call G_Qj hr rfl T.m_Qj T.F_Qj.kp T.b_Qj .nil pass1 (PAs.h (pas_cons (pv 3) (pas_cons (pv 6) pas_nil)))) pas_nil)))))
  (pss_one (ps_expr (pe_meth (pv 3) T.cl_Growth T.me_Qs G_Qs hr T.b_Qs .nil pass1 (pa_cons (pv 6) pa_nil))))))
  (pss_one (ps_ret (pe_tup (PAs.h (pas_cons (pe_call G_over hr rfl T.m_over T.F_over.kp T.b_over .nil pass1 (PAs.h (pas_cons (pv 5) (pas_cons (pv 4) pas_nil)))) (pas_cons (pe_call G_over hr rfl T.m_over T.F_over.kp T.b_over .nil pass1 (PAs.h (pas_cons (pe_meth0 (pv 3) T.cl_Growth T.me_Qh G_Qh hr T.b_Qh .nil pass1) (pas_cons (pv 4) pas_nil)))) pas_nil)))))))))))),?_⟩
 refine ⟨_,rfl,_,rfl,fr,f::L,_,ah,rfl,hF,h16a,λ ha=>?_,λ hbad=>q1 hbad⟩
 refine ⟨_,rfl,_,rfl,fr,f::L,_,l,rfl,hF,h16,λ hl=>?_,λ hbad=>q2 ha hbad⟩
 obtain ⟨P0,q⟩:=q3 ha hl
 clear q1 q2 q3
 have hT:∀ c ∈ ah++l,c ∈ f::L:=λ c hc=>by
  rcases List.mem_append.mp hc with z | z
  ·exact ha c z
  ·exact hl c z
 have hTl:(ah++l).length=ah.length+l.length:=List.length_append
 have gd:=P0.gd
 have pT:=P0.p2 (t:=ah++l) (Nat.le_refl _) hT
 have pA:=P0.p2 (t:=ah) (by omega) ha
 have l6:=P0.l6
 have ST:=P0.sm (t:=ah++l) (Nat.le_refl _) hT
 have SA:=P0.sm (t:=ah) (by omega) ha
 have hU0:0<(WT (f::L) f d (ah++l)).2:=by have:=pT.b1; omega
 have hUb:=pT.bb
 generalize hU:(WT (f::L) f d (ah++l)).2=U at hU0 hUb
 have hll:=P0.ll
 have hd6:=P0.d6
 refine ⟨_,rfl,_,rfl,fr,f,L,d,ah,rfl,hF,SA,λ g tb rp H1 s1 ng ntb nrp G1=>?_⟩
 obtain ⟨dx,ob1⟩:=G1.ob
 refine ⟨_,rfl,g,dx,_,rfl,ob1,(gf_no _ _ _ _).2.2.2.1,g,tb,rp,fr,f,L,d,ah,ah.length,_,rfl,G1,by omega,λ wh H2 s2 hwh=>?_⟩
 have G2:=(G1.same s2).more l
 have s02:=s1.trans s2
 have hB0:ah.length*(d+1)<=2000:=Nat.le_trans (Nat.mul_le_mul (show ah.length<=150 by omega) (show d+1<=7 by omega)) (by decide)
 generalize ah.length*(d+1)=B0 at G2 hB0
 refine ⟨_,rfl,.inr (.inr ⟨_,rfl,?_⟩)⟩
 refine for_walk (walk_tx l) (λ i σ H'=>∃ low r6 B,σ=[some (.ref fr),some (vt l),some (vt ah),some (.ref g),some wh,some low,r6]/\Same H H'/\GO K t.c_Growth g tb rp fr H' f L d (ah++l) (ah.length+i) B/\B<=2000+7*i/\FrV K (off g tb rp H') wh (WT (f::L) f d ah).1 (WT (f::L) f d ah).2/\FrU K (off g tb rp H') low (lowN (f::L) f d U ah (l.take i)) U)
  ⟨_,_,B0,rfl,s02,G2,by omega,G2.three.fr hwh,nought_fr T _ U⟩ (λ _ _ _ _ _=>trivial) ?_ ?_
 ·rintro i x _ H3 hx ⟨low,r6,B,rfl,s3,G3,hB,k1,k2⟩
  obtain ⟨c,hc,rfl⟩:=sign_at hx
  have hi:=(List.getElem?_eq_some_iff.mp hc).1
  have hcL:=hl c (List.mem_of_getElem? hc)
  have sub3:=off_sub g tb rp H3
  have et:ah++l=(ah++l.take i)++l.drop i:=by rw [List.append_assoc,List.take_append_drop]
  have elen:(ah++l.take i).length=ah.length+i:=by rw [List.length_append,List.length_take]; omega
  have hti:∀ y ∈ ah++l.take i,y ∈ f::L:=λ y hy=>by
   rcases List.mem_append.mp hy with z | z
   ·exact ha y z
   ·exact hl y (List.mem_of_mem_take z)
  have htc:∀ c' ∈ f::L,∀ y ∈ ah++l.take i++[c'],y ∈ f::L:=λ c' hc' y hy=>by
   rcases List.mem_append.mp hy with z | z
   ·exact hti y z
   ·cases List.mem_singleton.mp z
    exact hc'
  have hlen:∀ c':Nat,(ah++l.take i++[c']).length<=(ah++l).length:=λ c'=>by rw [List.length_append,elen,hTl]; show _+1<=_; omega
  have etc:ah++l=(ah++l.take i)++c::l.drop (i+1):=by
   rw [et]; congr 1
   rw [← List.getElem_cons_drop hi]
   rw [List.getElem?_eq_getElem hi] at hc
   cases hc; rfl
  have hdv:∀ c' ∈ f::L,(WT (f::L) f d (ah++l.take i++[c'])).2 ∣ U:=λ c' hc'=>gd.div (t:=ah++l.take i) (x:=c) (xs:=l.drop (i+1)) (by rw [← etc]; exact hT) hc' (by rw [← etc,hU]; exact Int.dvd_refl _)
  have Gt:GO K t.c_Growth g tb rp fr H3 f L d (ah++l.take i) (ah++l.take i).length B:=by
   rw [elen]
   rw [et] at G3
   exact (GO_loc (by rw [elen]; exact Nat.le_refl _)).mp G3
  have hdi:(WT (f::L) f d (ah++l.take i)).2 ∣ U:=by
   have:=WT_dvd_app (f:=f) (d:=d) gd.nd (t:=ah++l.take i) (x:=l.drop i) (by rw [← et]; exact hT)
   rw [← et,hU] at this; exact this
  have hlow:=low_le gd (Int.le_of_lt hU0) (l.take i) ah (by rw [elen,hTl]; omega) hti hdi
  have hwa:=P0.wU_le (t:=ah) (by omega) ha hU0 hUb
  have hwi:=P0.wU_le (t:=ah++l.take i) (by rw [elen,hTl]; omega) hti hU0 hUb
  refine ⟨_,rfl,_,rfl,_,rfl,g,tb,rp,fr,f,L,d,ah++l.take i,B,c,U,rfl,Gt,hcL,λ c' hc'=>P0.sm (hlen c') (htc c' hc'),hdv,hU0,hUb,λ c' hc'=>?_,λ z H4 s4 hz=>?_⟩
  ·have:=P0.wU_le (hlen c') (htc c' hc') hU0 hUb
   exact ⟨this.1,Int.le_trans this.2 (ipow_le (by decide))⟩
  have hai:aN (f::L) f d U (ah++l.take i) c<=2^7000:=by
   have h1:=low_le gd (Int.le_of_lt hU0) [c] (ah++l.take i) (hlen c) (htc c hcL) (hdv c hcL)
   have h2:=(P0.wU_le (hlen c) (htc c hcL) hU0 hUb).1
   have h3:lowN (f::L) f d U (ah++l.take i) [c]=aN (f::L) f d U (ah++l.take i) c:=by show _+0=_; rw [Int.add_zero]
   rw [h3] at h1
   exact Int.le_trans (show _<=wU (f::L) f d U (ah++l.take i) by omega) (Int.le_trans hwi.2 (ipow_le (by decide)))
  refine ⟨low,z,_,_,U,rfl,(k2.same sub3).same s4,hz,hU0,hUb,Int.le_trans (show _<=wU (f::L) f d U ah by omega) (Int.le_trans hwa.2 (ipow_le (by decide))),hai,λ H5 y s5 hy=>?_⟩
  have s35:=s4.trans s5
  have G5:=G3.same s35
  obtain ⟨d5,ob5⟩:=G5.ob
  refine ⟨_,rfl,g,d5,_,rfl,ob5,(gf_no _ _ _ _).2.2.2.2.1,_,rfl,g,tb,rp,fr,f,L,d,ah++l,ah.length+i,B,c,rfl,G5,ST,by rw [List.getElem?_append_right (by omega),Nat.add_sub_cancel_left]; exact hc,by omega,λ H6 G6 k6=>?_⟩
  refine ⟨y,_,_,rfl,λ b o e=>k6 b o (s35 b o (s3 b o e)) (ne_of_none e ng) (ne_of_none e ntb) (ne_of_none e nrp),G6,by omega,(k1.same (off_same s35)).same (keep_off k6),?_⟩
  rw [List.take_add_one,hc,show (some c).toList=[c] from rfl,low_app]
  show FrU K _ y (_+(aN (f::L) f d U (ah++l.take i) c+0)) U
  rw [Int.add_zero]
  exact (G5.three.fru hy).same (keep_off k6)
 ·rintro _ H3 ⟨low,r6,B,rfl,s3,G3,hB,k1,k2⟩
  rw [List.length_map,List.take_length] at k2
  rw [List.length_map,← hTl] at G3
  have sub3:=off_sub g tb rp H3
  obtain ⟨d3,ob3⟩:=G3.ob
  have hlow:=low_le gd (Int.le_of_lt hU0) l ah (Nat.le_refl _) hT (by rw [hU]; exact Int.dvd_refl _)
  have hwa:=P0.wU_le (t:=ah) (by omega) ha hU0 hUb
  have hwT:=P0.wU_le (t:=ah++l) (Nat.le_refl _) hT hU0 hUb
  refine ⟨_,rfl,_,rfl,low,wh,_,U,_,_,rfl,k2.same sub3,k1.same sub3,hU0,hUb,pA.ab,Int.le_trans (show _<=wU (f::L) f d U ah by omega) (Int.le_trans hwa.2 (ipow_le (by decide))),Int.le_trans pA.bb (ipow_le (by decide)),λ H4 z1 s4 hz1=>?_⟩
  refine ⟨_,rfl,g,d3,_,rfl,s4 _ _ ob3,(gf_no _ _ _ _).2.2.2.1,g,tb,rp,fr,f,L,d,ah++l,(ah++l).length,B,rfl,G3.same s4,by omega,λ y H5 s5 hy=>?_⟩
  have hy':FrU K H5 y (wU (f::L) f d U (ah++l)) U:=FrV.toU hy (by rw [hU]; exact hU0) (by rw [hU]; exact Int.dvd_refl _)
  refine ⟨_,rfl,y,wh,_,U,_,_,rfl,hy',((k1.same sub3).same s4).same s5,hU0,hUb,pA.ab,Int.le_trans hwT.2 (ipow_le (by decide)),Int.le_trans pA.bb (ipow_le (by decide)),λ H6 z2 s6 hz2=>?_⟩
  refine ⟨by rw [sizeLine_eq]; show 2<=_; decide,λ r hr0=>?_⟩
  have s7:=same_new hr0 (.tup [z1,z2])
  refine q _ r z1 z2 (s3.trans (s4.trans (s5.trans (s6.trans s7)))) upd_same ⟨?_,?_⟩
  ·rw [hU]; exact ((hz1.same s5).same s6).same s7
  ·rw [hU]; exact hz2.same s7
def isB (c:Nat):Bool:=decide (c ∈ [48,49])
def valB (l:List Nat):Int:=l.foldl (λ a c=>a*2+if c=49 then 1 else 0) 0
theorem valB_snoc (l:List Nat) (c:Nat):valB (l++[c])=valB l*2+if c=49 then 1 else 0:=by unfold valB; rw [List.foldl_append]; rfl
theorem rev_ind {α:Type} {p:List α->Prop} (h0:p []) (h1:∀ l c,p l->p (l++[c])):∀ l,p l:=by
 intro l
 have:∀ n (l:List α),l.length=n->p l:=by
  intro n
  induction n with
  | zero=>intro l h; cases l with
    | nil=>exact h0
    | cons _ _=>cases h
  | succ n ih =>
    intro l h
    have hne:l ≠ []:=by intro z; subst z; cases h
    rw [← List.dropLast_concat_getLast hne]
    exact h1 _ _ (ih _ (by rw [List.length_dropLast]; omega))
 exact this _ l rfl
theorem valB_bd (l:List Nat):0<=valB l/\valB l<2^l.length:=by
 refine rev_ind (p:=λ l=>0<=valB l/\valB l<2^l.length) ?_ ?_ l
 ·decide
 ·intro l c ⟨h0,h1⟩
  rw [valB_snoc,List.length_append,show [c].length=1 from rfl,Int.pow_succ]
  split<;>omega
theorem str01:V.str (Str.ofString "01")=vt [48,49]:=congrArg V.str (by decide +kernel)
theorem str1:V.str (Str.ofString "1")=vt [49]:=congrArg V.str (by decide +kernel)
theorem two_pow (m:Nat):(0:Int)<2^m:=Int.pow_pos (by decide)
theorem two_succ (m:Nat):(2:Int)^(m+1)=2^m*2:=Int.pow_succ ..
theorem valB_cons (c:Nat) (l:List Nat):valB (c::l)=(if c=49 then 1 else 0)*2^l.length+valB l:=by
 have go:∀ (l:List Nat) (a:Int),l.foldl (λ a c=>a*2+if c=49 then 1 else 0) a=a*2^l.length+l.foldl (λ a c=>a*2+if c=49 then 1 else 0) 0:=by
  intro l
  induction l with
  | nil=>intro a; show a=a*1+0; omega
  | cons d l ih =>
    intro a
    rw [List.foldl_cons,List.foldl_cons,ih,ih (0*2+_),List.length_cons,two_succ,Int.add_mul,Int.zero_mul,Int.zero_add,Int.mul_assoc,Int.mul_comm 2 (2^l.length),Int.add_assoc]
 unfold valB
 rw [List.foldl_cons,go l,Int.zero_mul,Int.zero_add]
def spTwosOf:L2.Sp:=λ vs H Q _=>∃ (n:Int) (m:Nat),vs=[.int n,.int m]/\0<=n/\n<2^m/\m<=9000/\∀ (l:List Nat) H',Same H H'->l.length=m->l.all isB=true->valB l=n->Q (vt l) H'
theorem fdiv_two (n:Int):n.fdiv 2=n / 2:=Int.fdiv_eq_ediv_of_nonneg _ (by decide)
theorem ok_Qi (T:Txt K mg t):FnOk P w K mg base (CX1 P w) 1 t.a_Qi t.fd_Qi ["number", "many"] spTwosOf:=by
 refine T.F_Qi.okn (k:=0) sc_Qi (λ vs H Q E h=>?_) (λ cdv A outer s H vs Q E hr h=>?_)
 ·obtain ⟨n,m,rfl,_⟩:=h; rfl
 obtain ⟨n,m,rfl,n0,nm,hm,q⟩:=h
 refine ⟨_,(pss_cons (ps_set (i:=2) sc_Qi.nd rfl (Or.inl rfl) (pe_lst pa_nil))
  (pss_cons (ps_for PassesOwn.never rfl (pi_range1 rfl T.m_range (pa_cons (pv 1) pa_nil)) (pg_name (i:=3) sc_Qi.nd rfl (Or.inl rfl)) (pss_cons (ps_expr (pe_bm PySem.F.plainAttrs_list PySem.F.slot_list_append PySem.F.type_list_append mt_app (pv 2) (pa_cons (pe_ix ixAny pe_str (pe_op op_mod (pv 0) pe_int) (λ _ _=>rfl)) pa_nil)))
  (pss_one (ps_set (i:=0) sc_Qi.nd rfl (Or.inl rfl) (pe_op op_fdivL (pv 0) pe_int)))))
  (pss_one (ps_ret (pe_joinRevL rfl rfl T.m_reversed bt_reversed pe_str (pv 2)))))),?_⟩
 refine ⟨by decide,λ l0 hl0=>?_⟩
 repeat array_get_dec
 refine ⟨by omega,by omega,?_⟩
 refine for_range (λ i σ H'=>∃ (bs:List Nat) (k:Int) (r:Option V),σ=[some (.int k),some (.int (m:Int)),some (.ref l0),r]/\Same H H'/\H' l0=some (.lst ((bs.map λ c=>[c]).map vt))/\bs.length=i/\bs.all isB=true/\0<=k/\n=valB bs.reverse+2^i*k)
  ⟨[],n,_,rfl,same_new hl0 _,upd_same,rfl,rfl,n0,by show n=0+1*n; omega⟩ ?_ ?_
 ·rintro i _ H1 hi ⟨bs,k,r,rfl,g1,e1,hbl,hB,k0,hn⟩
  rw [Int.toNat_natCast] at hi
  have m1:=Int.emod_nonneg k (show (2:Int) ≠ 0 by decide)
  have m2:=Int.emod_lt_of_pos k (show (0:Int)<2 by decide)
  have hk:=Int.mul_ediv_add_emod k 2
  have step:∀ c:Nat,isB c=true->(if c=49 then 1 else 0)=k % 2->(bs++[c]).length=i+1/\(bs++[c]).all isB=true/\0<=k.fdiv 2/\n=valB (bs++[c]).reverse+2^(i+1)*k.fdiv 2:=by
   intro c hc hck
   refine ⟨by rw [List.length_append,hbl]; rfl,by rw [List.all_append,hB]; simpa using hc,by rw [fdiv_two]; omega,?_⟩
   rw [List.reverse_append,List.reverse_singleton,List.singleton_append,valB_cons,List.length_reverse,hbl,hck,hn,two_succ,fdiv_two]
   have e2:(2:Int)^i*k=2^i*(2*(k / 2)+k % 2):=by rw [hk]
   rw [e2,Int.mul_add,Int.mul_comm (k % 2),← Int.mul_assoc]
   omega
  have zb:((bs.map λ c=>[c]).map vt).length<sizeLine:=by rw [List.length_map,List.length_map,sizeLine_eq]; omega
  refine ⟨_,rfl,tyL (SqL.of e1),?_⟩
  repeat array_get_dec
  rw [str01]
  have hc:k % 2=0\/k % 2=1:=by omega
  rcases hc with e | e
  ·refine ixS (l:=[48,49]) (by decide) (show atI [48,49] (k % 2)=some 48 by rw [e]; rfl) ?_
   refine ⟨l0,_,_,rfl,rfl,e1,zb,?_⟩
   repeat array_get_dec
   refine ⟨bs++[48],_,_,rfl,over_same hl0 g1,?_,step 48 rfl (by rw [e]; rfl)⟩
   rw [upd_same,List.map_append,List.map_append]; rfl
  ·refine ixS (l:=[48,49]) (by decide) (show atI [48,49] (k % 2)=some 49 by rw [e]; rfl) ?_
   refine ⟨l0,_,_,rfl,rfl,e1,zb,?_⟩
   repeat array_get_dec
   refine ⟨bs++[49],_,_,rfl,over_same hl0 g1,?_,step 49 rfl (by rw [e]; rfl)⟩
   rw [upd_same,List.map_append,List.map_append]; rfl
 ·rintro _ H1 ⟨bs,k,r,rfl,g1,e1,hbl,hB,k0,hn⟩
  rw [Int.toNat_natCast] at hbl hn
  refine ⟨[],str_nil,_,rfl,l0,bs.map λ c=>[c],rfl,SqL.of e1,⟨by rw [flatten_ones]; omega,by rw [List.length_map]; omega,by decide⟩,?_⟩
  rw [between_nil,← List.map_reverse,flatten_ones]
  refine q _ _ g1 (by rw [List.length_reverse]; exact hbl) (by rw [List.all_reverse]; exact hB) ?_
  have hv:=(valB_bd bs.reverse).1
  have kz:k=0:=by
   by_cases z:k=0
   ·exact z
   ·exfalso
    have:(2:Int)^m*1<=2^m*k:=Int.mul_le_mul_of_nonneg_left (by omega) (Int.le_of_lt (two_pow m))
    omega
  rw [hn,kz,Int.mul_zero,Int.add_zero]
theorem ceil_ok {n d:Int} (hd:0<d):n<=(n+d-1).fdiv d*d/\((n+d-1).fdiv d-1)*d<n:=by
 rw [Int.fdiv_eq_ediv_of_nonneg _ (by omega)]
 have h1:=Int.mul_ediv_add_emod (n+d-1) d
 have h2:=Int.emod_nonneg (n+d-1) (show d ≠ 0 by omega)
 have h3:=Int.emod_lt_of_pos (n+d-1) hd
 rw [Int.mul_comm] at h1
 generalize (n+d-1) / d=x at *
 rw [Int.sub_mul,Int.one_mul]
 omega
def spFirst (K:PySem.W.Frag):L2.Sp:=λ vs H Q _=>∃ (p:Addr) (a b pt:Int),vs=[.ref p,.int pt]/\SqT K H p [.int a,.int b]/\0<b/\b.natAbs<2^8999/\a.natAbs<2^20000/\pt.natAbs<2^20000/\∀ x:Int,a*pt<=x*b->(x-1)*b<a*pt->Q (.int x) H
theorem ok_Qo (T:Txt K mg t):FnOk P w K mg base (CX1 P w) 1 t.a_Qo t.fd_Qo ["low", "parts"] (spFirst K):=by
 refine T.F_Qo.okn (k:=0) sc_Qo (λ vs H Q E h=>?_) (λ cdv A outer s H vs Q E hr h=>?_)
 ·obtain ⟨p,a,b,pt,rfl,_⟩:=h; rfl
 obtain ⟨p,a,b,pt,rfl,e0,b0,bb,ba,bp,q⟩:=h
 refine ⟨_,(pss_one (ps_ret (pe_op op_fdivL (pe_op op_sub (pe_op oAddN (pe_op oMulN (pe_ix ixAny (pv 0) pe_int (λ _ _=>rfl)) (pv 1)) (pe_ix ixAny (pv 0) pe_int (λ _ _=>rfl))) pe_int) (pe_ix ixAny (pv 0) pe_int (λ _ _=>rfl))))),?_⟩
 refine ⟨_,rfl,ixT e0 rfl ⟨_,rfl,.inl ⟨_,_,rfl,rfl,mulB (pow_lt ba (by decide)) (pow_lt bp (by decide)),_,rfl,ixT e0 rfl (.inl ⟨_,_,rfl,rfl,_,_,rfl,rfl,_,rfl,ixT e0 rfl ⟨_,_,rfl,rfl,⟨by omega,bb⟩,?_⟩⟩)⟩⟩⟩
 obtain ⟨c1,c2⟩:=ceil_ok (n:=a*pt) b0
 exact q _ c1 c2
theorem conv_le {a b lo W p x:Int} (hb:0<b) (hW:0<W) (e:a*W=lo*b):a*p<=x*b ↔ lo*p<=x*W:=by
 have e1:a*p*W=lo*p*b:=by rw [Int.mul_right_comm,e,Int.mul_right_comm]
 constructor
 ·intro h
  have h1:=Int.mul_le_mul_of_nonneg_right h (Int.le_of_lt hW)
  rw [e1,Int.mul_right_comm x b W] at h1
  exact Int.le_of_mul_le_mul_right h1 hb
 ·intro h
  have h1:=Int.mul_le_mul_of_nonneg_right h (Int.le_of_lt hb)
  rw [← e1,Int.mul_right_comm x W b] at h1
  exact Int.le_of_mul_le_mul_right h1 hW
theorem conv_lt {a b lo W p x:Int} (hb:0<b) (hW:0<W) (e:a*W=lo*b):x*b<a*p ↔ x*W<lo*p:=by
 have:=conv_le (p:=p) (x:=x) hb hW e
 omega
def NoFit (lo wi W:Int) (m:Nat):Prop:=∀ x:Int,lo*2^m<=x*W->(lo+wi)*2^m<(x+1)*W
structure BitsIn (lo wi W:Int) (l:List Nat):Prop where
 len:l.length<=6302
 all:l.all isB=true
 low:lo*2^l.length<=valB l*W
 fst:(valB l-1)*W<lo*2^l.length
 hig:(valB l+1)*W<=(lo+wi)*2^l.length
 few:l.length=0\/NoFit lo wi W (l.length-1)
 sml:wi*2^l.length<4*W
def spBitsOf (K:PySem.W.Frag):L2.Sp:=λ vs H Q _=>∃ (x y:V) (W lo wi:Int),vs=[x,y]/\FrU K H x lo W/\FrU K H y wi W/\0<W/\W<2^6300/\0<=lo/\0<wi/\lo+wi<=W/\
 ∀ (l:List Nat) H',Same H H'->BitsIn lo wi W l->Q (vt l) H'
theorem narrow {lo wi W:Int} {m:Nat} (h:wi*2^m<W):NoFit lo wi W m:=λ x hx=>by
 rw [Int.add_mul,Int.add_mul,Int.one_mul]; omega
theorem least {lo W x y p:Int} (hW:0<W) (h:(x-1)*W<lo*p) (hy:lo*p<=y*W):x<=y:=by
 have:(x-1)*W<y*W:=by omega
 have:=Int.lt_of_mul_lt_mul_right this (Int.le_of_lt hW)
 omega
theorem ok_Qbp (T:Txt K mg t):FnOk P w K mg base (CX1 P w) 4 t.a_Qbp t.fd_Qbp ["low", "width"] (spBitsOf K):=by
 refine T.F_Qbp.okn (k:=3) sc_Qbp (λ vs H Q E h=>?_) (λ cdv A outer s H vs Q E hr h=>?_)
 ·obtain ⟨x,y,W,lo,wi,rfl,_⟩:=h; rfl
 obtain ⟨_,_,W,lo,wi,rfl,F1,F2,W0,W1,lo0,wi0,hle,k⟩:=h
 have G_plus:=@ok_plusU P w K mg base t T
 have G_Qo:=(@ok_Qo P w K mg base t T).mono (show 1<=3 by decide)
 have G_Qi:=(@ok_Qi P w K mg base t T).mono (show 1<=3 by decide)
 have F1':=F1
 have F2':=F2
 obtain ⟨p,a,b,rfl,h1,a0,b0,ea,ga⟩:=F1'
 obtain ⟨q,c,e,rfl,h2,c0,e0,ec,gc⟩:=F2'
 obtain ⟨bb,ba,_⟩:=fru_le W0 a0 b0 ea ga
 obtain ⟨be,bc,_⟩:=fru_le W0 c0 e0 ec gc
 have W44:W<=2^6300:=Int.le_of_lt W1
 have up:(2:Int)^6300<=2^7000:=ipow_le (by decide)
 refine ⟨_,(pss_cons (ps_set (i:=2) sc_Qbp.nd rfl (Or.inl rfl) (pe_call G_plus hr rfl T.m_plus T.F_plus.kp T.b_plus .nil pass1 (PAs.h (pas_cons (pv 0) (pas_cons (pv 1) pas_nil)))))
  (pss_cons (ps_set (i:=3) sc_Qbp.nd rfl (Or.inl rfl) pe_int)
  (pss_cons (ps_set (i:=4) sc_Qbp.nd rfl (Or.inl rfl) pe_int)
  (pss_cons (ps_while PassesOwn.never (pt_cmpR oLt (pe_op oMulN (pe_ix ixAny (pv 1) pe_int (λ _ _=>rfl)) (pv 4)) (pe_ix ixAny (pv 1) pe_int (λ _ _=>rfl)) (nomark _)) (pss_cons (ps_aug (i:=3) sc_Qbp.nd rfl (Or.inl rfl) pe_int ipAdd)
  (pss_one (ps_aug (i:=4) sc_Qbp.nd rfl (Or.inl rfl) pe_int ipMul))))
  (pss_cons (ps_while PassesOwn.never (pt_cmpR op_gt (pe_op oMulN (pe_op oAddN (pe_call G_Qo hr rfl T.m_Qo T.F_Qo.kp T.b_Qo .nil pass1 (PAs.h (pas_cons (pv 0) (pas_cons (pv 4) pas_nil)))) pe_int) (pe_ix ixAny (pv 2) pe_int (λ _ _=>rfl))) (pe_op oMulN (pe_ix ixAny (pv 2) pe_int (λ _ _=>rfl)) (pv 4)) (nomark _)) (pss_cons (ps_aug (i:=3) sc_Qbp.nd rfl (Or.inl rfl) pe_int ipAdd)
  (pss_one (ps_aug (i:=4) sc_Qbp.nd rfl (Or.inl rfl) pe_int ipMul))))
  (pss_one (ps_ret (pe_call G_Qi hr rfl T.m_Qi T.F_Qi.kp T.b_Qi .nil pass1 (PAs.h (pas_cons (pe_call G_Qo hr rfl T.m_Qo T.F_Qo.kp T.b_Qo .nil pass1 (PAs.h (pas_cons (pv 0) (pas_cons (pv 4) pas_nil)))) (pas_cons (pv 3) pas_nil))))))))))),?_⟩
 refine ⟨_,rfl,_,rfl,_,_,lo,wi,W,rfl,F1,F2,W0,W44,by omega,by omega,λ H1 z g1 hz=>?_⟩
 obtain ⟨r,u,v,rfl,h3,u0,v0,eu,gu⟩:=hz
 obtain ⟨bv,bu,_⟩:=fru_le W0 u0 v0 eu gu
 have nb:∀ {x:Int},0<=x->x<=2^6300->x.natAbs<2^6301:=λ {x} h0 h=>by
  have h1:=lt_pow h (show 6300<6301 by decide)
  have h2:x<((2^6301:Nat):Int):=by rw [Int.natCast_pow]; exact h1
  omega
 have xa:=nb a0 (by omega)
 have xb:=nb (show 0<=b by omega) (by omega)
 have xc:=nb c0 (by omega)
 have xu:=nb u0 (by omega)
 have xv:=nb (show 0<=v by omega) (by omega)
 have h1':=same_tup g1 h1
 have h2':=same_tup g1 h2
 clear h1 h2
 have pb:∀ {m:Nat},m<=6302->((2:Int)^m).natAbs<2^6303:=λ h=>by rw [Int.natAbs_pow]; exact Nat.pow_lt_pow_right (by decide) (by omega)
 refine while_by (λ σ H'=>∃ m:Nat,σ=[some (.ref p),some (.ref q),some (.ref r),some (.int (m:Int)),some (.int (2^m))]/\H'=H1/\m<=6300/\(m=0\/wi*2^(m-1)<W)) (λ σ _=>match σ with | [_,_,_,some (.int m),_]=>(7000-m).toNat | _=>0) ⟨0,rfl,rfl,by decide,.inl rfl⟩ ?_ ?_
 ·rintro _ H1 ⟨m,rfl,rfl,hm,hnf⟩
  refine ⟨_,rfl,ixT h2' rfl ⟨_,rfl,.inl ⟨_,_,rfl,rfl,mulB (pow_lt xc (by decide)) (pow_lt (pb (by omega)) (by decide)),_,rfl,ixT h2' rfl (.inl ⟨_,_,rfl,rfl,_,rfl,?_⟩)⟩⟩⟩
  refine if2 (λ hlt=>?_) (λ hge=>?_)
  ·have hlt':wi*2^m<W:=by
    have l1:c*2^m<e:=hlt
    have l2:c*2^m*W<e*W:=Int.mul_lt_mul_of_pos_right l1 W0
    rw [Int.mul_right_comm,ec,Int.mul_right_comm,Int.mul_comm e W] at l2
    exact Int.lt_of_mul_lt_mul_right l2 (Int.le_of_lt e0)
   have hm2:m<6300:=by
    rcases Nat.lt_or_ge m 6300 with h | h
    ·exact h
    ·exfalso
     have p1:(2:Int)^6300<=2^m:=ipow_le h
     have p2:1*(2:Int)^m<=wi*2^m:=Int.mul_le_mul_of_nonneg_right (by omega) (Int.le_of_lt (two_pow m))
     omega
   repeat array_get_dec
   try dsimp (config:={ proj:=false,eta:=false,zeta:=false,iota:=false }) only [tNil,tC]
   rw [← two_succ]
   refine ⟨⟨m+1,by push_cast; rfl,rfl,by omega,.inr hlt'⟩,?_⟩
   show (7000-((m:Int)+1)).toNat<(7000-(m:Int)).toNat
   omega
  ·have hge':W<=wi*2^m:=by
    have l1:e<=c*2^m:=by have:=hge; omega
    have l2:e*W<=c*2^m*W:=Int.mul_le_mul_of_nonneg_right l1 (Int.le_of_lt W0)
    rw [Int.mul_right_comm,ec,Int.mul_right_comm,Int.mul_comm e W] at l2
    exact Int.le_of_mul_le_mul_right l2 e0
   have hlt2:wi*2^m<2*W:=by
    rcases hnf with rfl | h
    ·rw [Int.pow_zero,Int.mul_one]; omega
    ·rcases m with _ | m
     ·rw [Int.pow_zero,Int.mul_one]; omega
     ·rw [two_succ,← Int.mul_assoc]
      have h':wi*2^m<W:=h
      omega
   have hnf0:m=0\/NoFit lo wi W (m-1):=hnf.imp id λ h=>narrow h
   refine while_by (λ σ H'=>∃ m:Nat,σ=[some (.ref p),some (.ref q),some (.ref r),some (.int (m:Int)),some (.int (2^m))]/\H'=H1/\m<=6301/\W<=wi*2^m/\(2*W<=wi*2^m\/m<=6300)/\(m=0\/NoFit lo wi W (m-1))/\wi*2^m<4*W)
    (λ σ _=>match σ with | [_,_,_,_,some (.int pt)]=>if 2*W<=wi*pt then 0 else 1 | _=>0) ⟨m,rfl,rfl,by omega,hge',.inr hm,hnf0,by omega⟩ ?_ ?_
   ·rintro _ H1 ⟨m,rfl,rfl,hm2,hW2,hm3,hnf2,hsm⟩
    refine ⟨_,rfl,_,rfl,p,a,b,2^m,rfl,h1',b0,pow_lt xb (by decide),pow_lt xa (by decide),pow_lt (pb (by omega)) (by decide),λ x hx1 hx2=>?_⟩
    have hx1':lo*2^m<=x*W:=(conv_le b0 W0 ea).mp hx1
    have hx2':(x-1)*W<lo*2^m:=(conv_lt b0 W0 ea).mp hx2
    have hx0:0<=x:=by
     rcases Int.lt_or_le x 0 with h | h
     ·exfalso
      have s1:x*W<0:=Int.mul_neg_of_neg_of_pos h W0
      have s2:0<=lo*2^m:=Int.mul_nonneg lo0 (Int.le_of_lt (two_pow m))
      omega
     ·exact h
    have hxb:x<=2^m:=by
     refine least W0 hx2' ?_
     have:lo*2^m<=W*2^m:=Int.mul_le_mul_of_nonneg_right (by omega) (Int.le_of_lt (two_pow m))
     rw [Int.mul_comm W] at this; exact this
    have pbm:=pb (m:=m) (by omega)
    have xb1:(x+1).natAbs<2^6304:=by rw [show (6304:Nat)=6303+1 from rfl,Nat.pow_succ]; omega
    have fit:(u*2^m<(x+1)*v) ↔ ((lo+wi)*2^m<(x+1)*W):=by
     have:=conv_le (p:=2^m) (x:=x+1) v0 W0 eu
     have e3:u*2^m=(x+1)*v ↔ (lo+wi)*2^m=(x+1)*W:=by
      have y1:u*2^m*W=(lo+wi)*2^m*v:=by rw [Int.mul_right_comm,eu,Int.mul_right_comm]
      constructor
      ·intro h
       rw [h,Int.mul_right_comm] at y1
       exact (Int.eq_of_mul_eq_mul_right (by omega) y1).symm
      ·intro h
       rw [h,Int.mul_right_comm (x+1)] at y1
       exact Int.eq_of_mul_eq_mul_right (by omega) y1
     omega
    refine .inl ⟨_,_,rfl,rfl,_,rfl,ixT h3 rfl (.inl ⟨_,_,rfl,rfl,mulB (pow_lt xb1 (by decide)) (pow_lt xv (by decide)),_,rfl,ixT h3 rfl ⟨_,rfl,.inl ⟨_,_,rfl,rfl,mulB (pow_lt xu (by decide)) (pow_lt pbm (by decide)),_,_,rfl,rfl,_,rfl,?_⟩⟩⟩)⟩
    refine if2 (λ hgt=>?_) (λ hng=>?_)
    ·have hgt':=fit.mp hgt
     have small:wi*2^m<2*W:=by
      rw [Int.add_mul] at hgt'
      have:(x+1)*W=(x-1)*W+2*W:=by rw [Int.add_mul,Int.sub_mul]; omega
      omega
     have m400:m<=6300:=by omega
     repeat array_get_dec
     try dsimp (config:={ proj:=false,eta:=false,zeta:=false,iota:=false }) only [tNil,tC]
     rw [← two_succ]
     have dbl:wi*2^(m+1)=wi*2^m*2:=by rw [two_succ,← Int.mul_assoc]
     have big:2*W<=wi*2^(m+1):=by omega
     refine ⟨⟨m+1,by push_cast; rfl,rfl,by omega,by omega,.inl big,.inr λ y hy=>?_,by omega⟩,?_⟩
     ·have:=least W0 hx2' hy
      have:(x+1)*W<=(y+1)*W:=Int.mul_le_mul_of_nonneg_right (by omega) (Int.le_of_lt W0)
      show (lo+wi)*2^m<(y+1)*W
      omega
     ·show (if 2*W<=wi*2^(m+1) then 0 else 1)<(if 2*W<=wi*2^m then 0 else 1)
      rw [if_pos big,if_neg (by omega)]; decide
    ·have hng':(x+1)*W<=(lo+wi)*2^m:=by
      have:=λ h=>hng (fit.mpr h)
      omega
     refine ⟨_,rfl,_,rfl,p,a,b,2^m,rfl,h1',b0,pow_lt xb (by decide),pow_lt xa (by decide),pow_lt pbm (by decide),λ x2 hy1 hy2=>?_⟩
     have hy1':lo*2^m<=x2*W:=(conv_le b0 W0 ea).mp hy1
     have hy2':(x2-1)*W<lo*2^m:=(conv_lt b0 W0 ea).mp hy2
     have exx:x2=x:=by have s1:=least W0 hx2' hy1'; have s2:=least W0 hy2' hx1'; omega
     subst exx
     have hlt:x2<2^m:=by
      have s1:(lo+wi)*2^m<=W*2^m:=Int.mul_le_mul_of_nonneg_right hle (Int.le_of_lt (two_pow m))
      rw [Int.mul_comm W] at s1
      have s2:(x2+1)*W<=2^m*W:=by omega
      have:=Int.le_of_mul_le_mul_right s2 W0
      omega
     refine ⟨_,rfl,x2,m,rfl,hx0,hlt,by omega,λ l H3 g3 hll hlB hlv=>?_⟩
     refine k l H3 (g1.trans g3) ⟨by omega,hlB,?_,?_,?_,?_,?_⟩
     ·rw [hll,hlv]; exact hx1'
     ·rw [hll,hlv]; exact hx2'
     ·rw [hll,hlv]; exact hng'
     ·rw [hll]; exact hnf2
     ·rw [hll]; exact hsm
   ·exact mon_test (mon_op mon_rI0 (mon_op (mon_or mon_rI (mon_or mon_repX mon_rep)) (mon_op (mon_or mon_rI0 (mon_or mon_catX (mon_or mon_cat mon_catT))) (mon_call2 (λ vs H Q Q' hq ⟨p,a,b,pt,e1,f,z,z2,z3,z4,q⟩=>⟨p,a,b,pt,e1,f,z,z2,z3,z4,λ x y1 y2=>hq _ _ (q x y1 y2)⟩) mon_var mon_var) mon_c) (mon_op mon_ix mon_var mon_c)) (mon_op (mon_or mon_rI (mon_or mon_repX mon_rep)) (mon_op mon_ix mon_var mon_c) mon_var))
 ·exact mon_test (mon_op (mon_or mon_rI0 mon_lt) (mon_op (mon_or mon_rI (mon_or mon_repX mon_rep)) (mon_op mon_ix mon_var mon_c) mon_var) (mon_op mon_ix mon_var mon_c))
theorem conv_ge {a b lo W p x:Int} (hb:0<b) (hW:0<W) (e:a*W=lo*b):x*b<=a*p ↔ x*W<=lo*p:=by
 have e1:a*p*W=lo*p*b:=by rw [Int.mul_right_comm,e,Int.mul_right_comm]
 constructor
 ·intro h
  have h1:=Int.mul_le_mul_of_nonneg_right h (Int.le_of_lt hW)
  rw [e1,Int.mul_right_comm x b W] at h1
  exact Int.le_of_mul_le_mul_right h1 hb
 ·intro h
  have h1:=Int.mul_le_mul_of_nonneg_right h (Int.le_of_lt hb)
  rw [← e1,Int.mul_right_comm x W b] at h1
  exact Int.le_of_mul_le_mul_right h1 hW
theorem BitsIn.conv {lo wi W lo' wi' W':Int} {l:List Nat} (h:BitsIn lo wi W l) (hW:0<W) (hW':0<W') (e1:lo'*W=lo*W') (e2:wi'*W=wi*W'):BitsIn lo' wi' W' l:=by
 have e3:(lo'+wi')*W=(lo+wi)*W':=by rw [Int.add_mul,e1,e2,Int.add_mul]
 refine ⟨h.len,h.all,(conv_le hW' hW e1).mpr h.low,(conv_lt hW' hW e1).mpr h.fst,(conv_ge hW' hW e3).mpr h.hig,?_,?_⟩
 ·rcases h.few with z | z
  ·exact .inl z
  ·refine .inr λ x hx=>?_
   have h1:=z x ((conv_le hW' hW e1).mp hx)
   have h2:=conv_ge (p:=2^(l.length-1)) (x:=x+1) hW' hW e3
   omega
 ·have h1:=conv_ge (p:=2^l.length) (x:=4) hW' hW e2
  have:=h.sml
  omega
theorem NoFit.less {lo wi W:Int} {m:Nat} (hW:0<W) (h:NoFit lo wi W (m+1)):NoFit lo wi W m:=λ x hx=>by
 have e1:(2*x+1)*W=x*W*2+W:=by rw [Int.add_mul,Int.one_mul,Int.mul_assoc,Int.mul_comm 2]
 have e2:(x+1)*W=x*W+W:=by rw [Int.add_mul,Int.one_mul]
 have e3:2*x*W=x*W*2:=by rw [Int.mul_assoc,Int.mul_comm]
 have h1:=h (2*x) (by rw [two_succ,← Int.mul_assoc]; omega)
 rw [two_succ,← Int.mul_assoc] at h1
 omega
theorem NoFit.down {lo wi W:Int} {m n:Nat} (hW:0<W) (h:NoFit lo wi W n) (hmn:m<=n):NoFit lo wi W m:=by
 induction n with
 | zero=>have:m=0:=by omega
         subst this; exact h
 | succ n ih =>
   by_cases z:m=n+1
   ·subst z; exact h
   ·exact ih (h.less hW) (by omega)
theorem bits_inj:∀ (l m:List Nat),l.length=m.length->l.all isB=true->m.all isB=true->valB l=valB m->l=m:=by
 refine rev_ind (p:=λ l=>∀ m:List Nat,l.length=m.length->l.all isB=true->m.all isB=true->valB l=valB m->l=m) ?_ ?_
 ·intro m h _ _ _
  exact (List.length_eq_zero_iff.mp h.symm).symm
 ·intro l c ih m hl h1 h2 hv
  rcases List.eq_nil_or_concat m with rfl | ⟨m',d,rfl⟩
  ·simp at hl
  rw [List.concat_eq_append] at *
  rw [List.all_append,Bool.and_eq_true] at h1 h2
  have hc:c ∈ [48,49]:=by have:=List.all_eq_true.mp h1.2 c (by simp); exact of_decide_eq_true this
  have hd:d ∈ [48,49]:=by have:=List.all_eq_true.mp h2.2 d (by simp); exact of_decide_eq_true this
  rw [valB_snoc,valB_snoc] at hv
  have hcd:c=d/\valB l=valB m':=by
   simp only [List.mem_cons,List.not_mem_nil,or_false] at hc hd
   rcases hc with rfl | rfl<;>rcases hd with rfl | rfl<;>simp at hv ⊢<;>omega
  rw [hcd.1,ih m' (by simpa using hl) h1.1 h2.1 hcd.2]
theorem BitsIn.len_le {lo wi W:Int} {l m:List Nat} (hW:0<W) (hl:BitsIn lo wi W l) (hm:BitsIn lo wi W m):m.length<=l.length:=by
 rcases Nat.lt_or_ge l.length m.length with z | z
 ·exfalso
  rcases hm.few with y | y
  ·omega
  ·have:=(y.down hW (m:=l.length) (by omega)) _ hl.low
   have:=hl.hig
   omega
 ·exact z
theorem BitsIn.one {lo wi W:Int} {l m:List Nat} (hW:0<W) (hl:BitsIn lo wi W l) (hm:BitsIn lo wi W m):l=m:=by
 have e:l.length=m.length:=Nat.le_antisymm (BitsIn.len_le hW hm hl) (BitsIn.len_le hW hl hm)
 refine bits_inj l m e hl.all hm.all ?_
 have h1:=hl.fst
 have h2:=hl.low
 have h3:=hm.fst
 have h4:=hm.low
 rw [← e] at h3 h4
 have s1:=least hW h1 h4
 have s2:=least hW h3 h2
 omega
def LoW (L:List Nat) (f d:Nat) (ah l:List Nat):Int:=lowN L f d (WT L f d (ah++l)).2 ah l*(WT L f d ah).2
def WiW (L:List Nat) (f d:Nat) (ah l:List Nat):Int:=wU L f d (WT L f d (ah++l)).2 (ah++l)*(WT L f d ah).2
def WhW (L:List Nat) (f d:Nat) (ah l:List Nat):Int:=(WT L f d (ah++l)).2*(WT L f d ah).1
theorem wU_self {L:List Nat} {f d:Nat} {t:List Nat} (h:0<(WT L f d t).2):wU L f d (WT L f d t).2 t=(WT L f d t).1:=by
 unfold wU
 rw [Int.ediv_self (by omega),Int.mul_one]
structure SB (L:List Nat) (f d:Nat) (ah l:List Nat):Prop where
 w0:0<WhW L f d ah l
 w1:WhW L f d ah l<2^6300
 lo:0<=LoW L f d ah l
 wi:0<WiW L f d ah l
 le:LoW L f d ah l+WiW L f d ah l<=WhW L f d ah l
theorem sb_of {L:List Nat} {f d:Nat} {ah l:List Nat} (P0:Bp.Sp L f d (ah++l).length) (hT:∀ c ∈ ah++l,c ∈ L) (hb:tb d (ah++l).length+tb d ah.length<6300):SB L f d ah l:=by
 have ha:∀ c ∈ ah,c ∈ L:=λ c hc=>hT c (List.mem_append_left _ hc)
 have hNa:ah.length<=(ah++l).length:=by rw [List.length_append]; omega
 have pT:=P0.p3 (Nat.le_refl _) hT
 have pA:=P0.p3 hNa ha
 have g:=P0.gd
 have t1:=pT.a1
 have t2:=pT.ab
 have q1:=pA.a1
 have q2:=pA.ab
 obtain ⟨l1,l2⟩:=low_le g (U:=(WT L f d (ah++l)).2) (by omega) l ah (Nat.le_refl _) hT (Int.dvd_refl _)
 refine ⟨Int.mul_pos (by omega) (by omega),?_,Int.mul_nonneg l1 (by omega),?_,?_⟩
 ·exact lt_pow (mul_le_pow (by omega) pT.bb (Int.le_trans q2 pA.bb)) hb
 ·unfold WiW; rw [wU_self (by omega)]; exact Int.mul_pos (by omega) (by omega)
 ·unfold LoW WiW WhW
  rw [← Int.add_mul]
  have h3:=Int.mul_le_mul_of_nonneg_right l2 (show 0<=(WT L f d ah).2 by omega)
  rw [wU_eq (WT_dvd_app g.nd hT),Int.mul_comm (WT L f d ah).1] at h3
  exact h3
def spPress (K:PySem.W.Frag) (C:Addr):L2.Sp:=λ vs H Q E=>∃ (fr:Addr) (f:Nat) (L:List Nat) (d:Nat) (l ah:List Nat),vs=[.ref fr,vt l,vt ah]/\SqT K H fr [vt (f::L),.int d]/\(∀ c ∈ l,c<16^8)/\(∀ c ∈ ah,c<16^8)/\
 ((∃ c ∈ ah,c ∉ f::L)->E (.ref C) none H)/\((∀ c ∈ ah,c ∈ f::L)->(∃ c ∈ l,c ∉ f::L)->E (.ref C) none H)/\
 ((∀ c ∈ ah,c ∈ f::L)->(∀ c ∈ l,c ∈ f::L)->Bp.Sp (f::L) f d (ah++l).length/\tb d (ah++l).length+tb d ah.length<6300/\∀ H' b,Same H H'->BitsIn (LoW (f::L) f d ah l) (WiW (f::L) f d ah l) (WhW (f::L) f d ah l) b->Q (vt b) H')
theorem ok_Qcc (T:Txt K mg t):FnOk P w K mg base (CX1 P w) 10 t.a_Qcc t.fd_Qcc ["frame", "text", "ahead"] (spPress K t.c_NoText):=by
 refine T.F_Qcc.okx (k:=9) sc_Qcc (λ vs H Q E h=>?_) (λ cdv A outer s H vs Q E hr h=>?_)
 ·obtain ⟨fr,f,L,d,l,ah,rfl,_⟩:=h; rfl
 obtain ⟨fr,f,L,d,l,ah,rfl,hF,h16,h16a,q1,q2,q3⟩:=h
 have G_span:=@ok_span P w K mg base t T
 have G_Qbp:=(@ok_Qbp P w K mg base t T).mono (show 4<=9 by decide)
 refine ⟨_,(pss_cons (ps_set (i:=3) sc_Qcc.nd rfl (Or.inl rfl) (pe_call G_span hr rfl T.m_span T.F_span.kp T.b_span .nil passes1 (PAs.h (pas_cons (pv 0) (pas_cons (pv 1) (pas_cons (pv 2) pas_nil))))))
  (pss_one (ps_ret (pe_call G_Qbp hr rfl T.m_Qbp T.F_Qbp.kp T.b_Qbp .nil pass1 (PAs.h (pas_cons (pe_ix ixAny (pv 3) pe_int (λ _ _=>rfl)) (pas_cons (pe_ix ixAny (pv 3) pe_int (λ _ _=>rfl)) pas_nil))))))),?_⟩
 refine ⟨_,rfl,_,rfl,_,rfl,fr,f,L,d,l,ah,rfl,hF,h16,h16a,q1,q2,λ ya yl=>?_⟩
 obtain ⟨P0,hb,q⟩:=q3 ya yl
 have hT:∀ c ∈ ah++l,c ∈ f::L:=λ c hc=>by
  rcases List.mem_append.mp hc with z | z
  ·exact ya c z
  ·exact yl c z
 have hB:=sb_of P0 hT hb
 refine ⟨P0,λ H1 r z1 z2 s1 e1 hz=>?_⟩
 have hr1:SqT K H1 r [z1,z2]:=.inl (.inl e1)
 refine ⟨_,rfl,ixT hr1 rfl ⟨_,rfl,ixT hr1 rfl ⟨z1,z2,WhW (f::L) f d ah l,LoW (f::L) f d ah l,WiW (f::L) f d ah l,rfl,hz.1,hz.2,hB.w0,hB.w1,hB.lo,hB.wi,hB.le,λ b H2 s2 hb2=>?_⟩⟩⟩
 exact q H2 b (s1.trans s2) hb2
theorem cut_lastR (l:List Nat):cutL l none (some (-1))=l.take (l.length-1):=by
 unfold cutL
 rw [HT.sIx_none,List.drop_zero,Nat.sub_zero]
 have:HT.sIx l.length l.length (some (-1))=l.length-1:=by
  show (if (-1:Int)<0 then (-1+(l.length:Int)).toNat else min (-1:Int).toNat l.length)=_
  rw [if_pos (by decide)]; omega
 rw [this]
theorem FrU.mul {H:Hp} {x:V} {A U:Int} (h:FrU K H x A U) (m:Int):FrU K H x (A*m) (U*m):=by
 obtain ⟨p,n,e,rfl,h1,n0,e0,c,g⟩:=h
 exact ⟨p,n,e,rfl,h1,n0,e0,by rw [← Int.mul_assoc,c,Int.mul_right_comm],g⟩
def spTimesU (K:PySem.W.Frag):L2.Sp:=λ vs H Q _=>∃ x y A U C D,vs=[x,y]/\FrU K H x A U/\FrV K H y C D/\0<U/\0<D/\U*D<2^13499/\A<=2^6600/\C<=2^6600/\U<=2^9000/\D<=2^9000/\∀ H' z,Same H H'->FrU K H' z (A*C) (U*D)->Q z H'
theorem ok_timesU (T:Txt K mg t):FnOk P w K mg base (CX1 P w) 3 t.a_Qby t.fd_Qby ["one", "other"] (spTimesU K):=by
 refine T.F_Qby.okn (k:=2) sc_Qby (λ vs H Q E h=>?_) (λ cdv A outer s H vs Q E hr h=>?_)
 ·obtain ⟨x,y,_,_,_,_,rfl,_⟩:=h; rfl
 obtain ⟨_,_,a,U,c,D,rfl,⟨p,n,d,rfl,h1,n0,d0,c1,g1⟩,⟨q',m,f,rfl,h2,m0,f0,c2,g2,l3,l4⟩,hU,hD,hUD,ba,bc,bU,bD,q⟩:=h
 have G_Qbe:=@ok_fractionQ P w K mg base t T
 obtain ⟨l1,l2,_⟩:=fru_le hU n0 d0 c1 g1
 refine ⟨_,(pss_one (ps_ret (pe_call G_Qbe hr rfl T.m_Qbe T.F_Qbe.kp T.b_Qbe .nil pass1 (PAs.h (pas_cons (pe_op oMulN (pe_ix ixAny (pv 0) pe_int (λ _ _=>rfl)) (pe_ix ixAny (pv 1) pe_int (λ _ _=>rfl))) (pas_cons (pe_op oMulN (pe_ix ixAny (pv 0) pe_int (λ _ _=>rfl)) (pe_ix ixAny (pv 1) pe_int (λ _ _=>rfl))) pas_nil)))))),?_⟩
 have mo1:MulOk n m:=mulB (abs_of n0 (Int.le_trans l2 ba) (by decide)) (abs_of (by omega) (Int.le_trans l3 bc) (by decide))
 have mo2:MulOk d f:=mulB (abs_of (by omega) (Int.le_trans l1 bU) (by decide)) (abs_of (by omega) (Int.le_trans l4 bD) (by decide))
 have hde:0<d*f:=Int.mul_pos d0 f0
 have hdf:d*f<2^13499:=Int.lt_of_le_of_lt (Int.mul_le_mul l1 l4 (by omega) (by omega)) hUD
 have p1:0<=n*m:=Int.mul_nonneg n0 (by omega)
 have htop:n*m<2^13499:=lt_pow (mul_le_pow (by omega) (Int.le_trans l2 ba) (Int.le_trans l3 bc)) (by decide)
 refine ⟨_,rfl,ixT h1 rfl ⟨_,rfl,ixT h2 rfl (.inl ⟨_,_,rfl,rfl,mo1,?_⟩)⟩⟩
 refine ⟨_,rfl,ixT h1 rfl ⟨_,rfl,ixT h2 rfl (.inl ⟨_,_,rfl,rfl,mo2,?_⟩)⟩⟩
 refine ⟨n*m,d*f,rfl,λ z=>absurd z (by omega),λ _=>⟨.inr ⟨abs_lt0 p1 htop,abs_lt hde (Int.le_refl _) hdf⟩,λ r hr0=>?_⟩⟩
 have nc:=num_cross (t:=n*m) (b:=d*f) (by omega)
 have dp:=den_pos (t:=n*m) (b:=d*f) (by omega)
 have ng:=num_gcd (t:=n*m) (b:=d*f) (by omega)
 refine q _ _ (same_new hr0 _) ⟨r,_,_,rfl,.inl (.inl upd_same),?_,dp,?_,ng⟩
 ·have h0:0<=num (n*m) (d*f)*(d*f):=by rw [nc]; exact Int.mul_nonneg (by omega) (by omega)
  exact Int.nonneg_of_mul_nonneg_left h0 hde
 ·generalize num (n*m) (d*f)=N at *
  generalize den (n*m) (d*f)=M at *
  refine Int.eq_of_mul_eq_mul_right (a:=d*f) (by omega) ?_
  grind
def spUnderU (K:PySem.W.Frag):L2.Sp:=λ vs H Q _=>∃ x y A U C W,vs=[x,y]/\FrU K H x A U/\FrU K H y C W/\0<U/\0<W/\A<=2^20000/\C<=2^20000/\U<=2^20000/\W<=2^20000/\Q (.bl (decide (A*W<C*U))) H
theorem under_iff {n1 d1 n2 d2 A U C W:Int} (hU:0<U) (hW:0<W) (h1:0<d1) (h2:0<d2) (c1:n1*U=A*d1) (c2:n2*W=C*d2):n1*d2<n2*d1 ↔ A*W<C*U:=by
 have p1:0<d1*d2:=Int.mul_pos h1 h2
 have p2:0<U*W:=Int.mul_pos hU hW
 have e1:n1*d2*(U*W)=A*W*(d1*d2):=by grind
 have e2:n2*d1*(U*W)=C*U*(d1*d2):=by grind
 constructor
 ·intro h
  have:=Int.mul_lt_mul_of_pos_right h p2
  rw [e1,e2] at this
  exact Int.lt_of_mul_lt_mul_right this (by omega)
 ·intro h
  have:=Int.mul_lt_mul_of_pos_right h p1
  rw [← e1,← e2] at this
  exact Int.lt_of_mul_lt_mul_right this (by omega)
theorem ok_underU (T:Txt K mg t):FnOk P w K mg base (CX1 P w) 1 t.a_Qbz t.fd_Qbz ["one", "other"] (spUnderU K):=by
 refine T.F_Qbz.okn (k:=0) sc_Qbz (λ vs H Q E h=>?_) (λ cdv A outer s H vs Q E hr h=>?_)
 ·obtain ⟨x,y,_,_,_,_,rfl,_⟩:=h; rfl
 obtain ⟨_,_,a,U,c,W,rfl,⟨p,n,d,rfl,h1,n0,d0,c1,g1⟩,⟨q',m,f,rfl,h2,m0,f0,c2,g2⟩,hU,hW,ba,bc,bU,bW,q⟩:=h
 obtain ⟨l1,l2,_⟩:=fru_le hU n0 d0 c1 g1
 obtain ⟨k1,k2,_⟩:=fru_le hW m0 f0 c2 g2
 refine ⟨_,(pss_one (ps_ret (pe_cmpR oLt (pe_op oMulN (pe_ix ixAny (pv 0) pe_int (λ _ _=>rfl)) (pe_ix ixAny (pv 1) pe_int (λ _ _=>rfl))) (pe_op oMulN (pe_ix ixAny (pv 1) pe_int (λ _ _=>rfl)) (pe_ix ixAny (pv 0) pe_int (λ _ _=>rfl))) (nomark _)))),?_⟩
 have an:=abs_of n0 (Int.le_trans l2 ba) (by decide)
 have ad:=abs_of (show 0<=d by omega) (Int.le_trans l1 bU) (by decide)
 have am:=abs_of m0 (Int.le_trans k2 bc) (by decide)
 have af:=abs_of (show 0<=f by omega) (Int.le_trans k1 bW) (by decide)
 refine ⟨_,rfl,ixT h1 rfl ⟨_,rfl,ixT h2 rfl (.inl ⟨_,_,rfl,rfl,mulB an af,_,rfl,ixT h2 rfl ⟨_,rfl,ixT h1 rfl (.inl ⟨_,_,rfl,rfl,mulB am ad,.inl ⟨_,_,rfl,rfl,?_⟩⟩)⟩⟩)⟩⟩
 have:=under_iff hU hW d0 f0 c1 c2
 try dsimp (config:={ proj:=false,eta:=false,zeta:=false,iota:=false }) only [tNil,tC]
 rw [show decide (n*f<m*d)=decide (a*W<c*U) from decide_eq_decide.mpr this]
 exact q
def spLetterAt (K:PySem.W.Frag) (C:Addr):L2.Sp:=λ vs H Q _=>∃ (p tb rp fr:Addr) (f:Nat) (L:List Nat) (d:Nat) (t:List Nat) (B:Nat) (z pt:V) (A U Pn Pq:Int),vs=[.ref p,z,pt]/\GO K C p tb rp fr H f L d t t.length B/\(∀ c ∈ f::L,Sm (f::L) f d (t++[c]))/\(∀ c ∈ f::L,(WT (f::L) f d (t++[c])).2 ∣ U)/\0<U/\U<=2^6300/\
 (∀ c ∈ f::L,0<=wU (f::L) f d U (t++[c])/\wU (f::L) f d U (t++[c])<=2^6900)/\FrU K H z A U/\0<=A/\A<=2^6950/\FrU K H pt Pn Pq/\0<Pq/\Pq<=2^13000/\Pn<=2^13000/\A*Pq<=Pn*U/\Pn*U<(A+wU (f::L) f d U t)*Pq/\((f::L).map λ c=>wU (f::L) f d U (t++[c])).sum=wU (f::L) f d U t/\
 ∀ H' r x z',Same H H'->x ∈ f::L->H' r=some (.tup [vt [x],z'])->FrU K H' z' (A+aN (f::L) f d U t x) U->(A+aN (f::L) f d U t x)*Pq<=Pn*U->Pn*U<(A+aN (f::L) f d U t x+wU (f::L) f d U (t++[x]))*Pq->Q (.ref r) H'
theorem ok_Qx (T:Txt K mg t):FnOk P w K mg base (CX1 P w) 8 t.a_Qx t.fd_Qx ["growth", "low", "point"] (spLetterAt K t.c_Growth):=by
 refine T.F_Qx.okn (k:=7) sc_Qx (λ vs H Q E h=>?_) (λ cdv A outer s H vs Q E hr h=>?_)
 ·obtain ⟨p,tb,rp,fr,f,L,d,tt,B,z,pt,A0,U,Pn,Pq,rfl,_⟩:=h; rfl
 obtain ⟨p,tb,rp,fr,f,L,d,tt,B,z,pt,A0,U,Pn,Pq,rfl,G,Sc,hdv,hU,bU,hw,hz,A00,bA,hpt,hPq,bPq,bPn,hA1,hA2,hsum,q⟩:=h
 have G_plus:=(@ok_plusU P w K mg base t T).mono (show 3<=7 by decide)
 have G_Qbz:=(@ok_underU P w K mg base t T).mono (show 1<=7 by decide)
 have G_Qa:=@ok_Qa P w K mg base t T
 have l6:=(Sc f List.mem_cons_self).l6
 have nd:=(Sc f List.mem_cons_self).nd
 have zL:(f::L).length<=sizeLine:=by rw [sizeLine_eq]; omega
 have hlast:=List.getElem?_eq_getElem (show (f::L).length-1<(f::L).length by simp)
 generalize hz0:(f::L)[(f::L).length-1]=z0 at hlast
 have hpz:pre (f::L) z0++[z0]=f::L:=pre_last nd hlast (by simp)
 have hzm:z0 ∈ f::L:=List.mem_of_getElem? hlast
 have hzl:atI (f::L) (-1)=some z0:=by
  have:=at_last (pre (f::L) z0) z0
  rw [hpz] at this; exact this
 have hD:(f::L).take ((f::L).length-1)=pre (f::L) z0:=pre_take nd hlast
 obtain ⟨dx,ob⟩:=G.ob
 have fa:=same_tup (off_sub p tb rp H) G.fa
 refine ⟨_,(pss_cons (ps_set (i:=3) sc_Qx.nd rfl (Or.inl rfl) (pe_ix ixAny (pe_fld (pv 0) rfl) pe_int (λ _ _=>rfl)))
  (pss_cons (ps_for PassesOwn.never rfl (piAny (pe_slice slAny (pv 3) po_none (po_some (pe_un un_neg pe_int)))) (pg_name (i:=4) sc_Qx.nd rfl (Or.inl rfl)) (pss_cons (ps_set (i:=5) sc_Qx.nd rfl (Or.inl rfl) (pe_call G_plus hr rfl T.m_plus T.F_plus.kp T.b_plus .nil pass1 (PAs.h (pas_cons (pv 1) (pas_cons (pe_meth (pv 0) T.cl_Growth T.me_Qa G_Qa hr T.b_Qa .nil pass1 (pa_cons (pv 4) pa_nil)) pas_nil)))))
  (pss_cons (ps_if (pt_val (pe_call G_Qbz hr rfl T.m_Qbz T.F_Qbz.kp T.b_Qbz .nil pass1 (PAs.h (pas_cons (pv 2) (pas_cons (pv 5) pas_nil))))) (pss_one (ps_ret (pe_tup (PAs.h (pas_cons (pv 4) (pas_cons (pv 1) pas_nil)))))) pss_nil)
  (pss_one (ps_set (i:=1) sc_Qx.nd rfl (Or.inl rfl) (pv 5))))))
  (pss_one (ps_ret (pe_tup (PAs.h (pas_cons (pe_ix ixAny (pv 3) (pe_un un_neg pe_int) (λ _ _=>rfl)) (pas_cons (pv 1) pas_nil)))))))),?_⟩
 refine ⟨_,rfl,p,_,dx,_,_,rfl,ob,T.cl_Growth,T.na_Growth_frame,gf_frame _ _ _ _,ixT fa rfl ?_⟩
 refine ⟨_,rfl,_,rfl,_,rfl,.inr (cutT zL ?_)⟩
 rw [cut_lastR,hD]
 refine .inr (.inr ⟨_,rfl,?_⟩)
 refine for_walk (walk_tx (pre (f::L) z0)) (λ i σ H'=>∃ v r4 r5,σ=[some (.ref p),some v,some pt,some (vt (f::L)),r4,r5]/\Same H H'/\FrU K H' v (A0+(((pre (f::L) z0).take i).map λ c=>wU (f::L) f d U (tt++[c])).sum) U/\(A0+(((pre (f::L) z0).take i).map λ c=>wU (f::L) f d U (tt++[c])).sum)*Pq<=Pn*U)
  ⟨_,_,_,rfl,Same.refl _,by show FrU K H z (A0+0) U; rw [Int.add_zero]; exact hz,by show (A0+0)*Pq<=_; rw [Int.add_zero]; exact hA1⟩ (λ _ _ _ _ _=>trivial) ?_ ?_
 ·rintro i y _ H1 hy ⟨v,r4,r5,rfl,g,hv,hle⟩
  obtain ⟨c,hc,rfl⟩:=sign_at hy
  have hcm:=pre_sub (List.mem_of_getElem? hc)
  have hi:=(List.getElem?_eq_some_iff.mp hc).1
  have hpl:(pre (f::L) z0).length+1=(f::L).length:=by
   have:=congrArg List.length hpz; rw [List.length_append] at this; exact this
  have hcL:(f::L)[i]?=some c:=by
   rw [← hpz,List.getElem?_append_left hi]; exact hc
  have htk:(pre (f::L) z0).take i=pre (f::L) c:=by
   rw [← pre_take nd hcL]
   conv=>rhs; rw [← hpz]
   rw [List.take_append_of_le_length (by omega)]
  have haN:(((pre (f::L) z0).take i).map λ c=>wU (f::L) f d U (tt++[c])).sum=aN (f::L) f d U tt c:=by rw [htk]; rfl
  obtain ⟨w0,w1⟩:=hw c hcm
  have hs:=sum_up (b:=(2:Int)^6900) (L:=(pre (f::L) z0).take i) (g:=λ c=>wU (f::L) f d U (tt++[c])) (Int.le_trans (by decide) (ipow_pos 6900)) λ c hc=>(hw c (pre_sub (List.mem_of_mem_take hc))).2
  have hs2:A0+(((pre (f::L) z0).take i).map λ c=>wU (f::L) f d U (tt++[c])).sum<=2^7000:=by
   have h1:((((pre (f::L) z0).take i).length:Nat):Int)<=2^3:=by rw [List.length_take]; omega
   have h2:(((pre (f::L) z0).take i).map λ c=>wU (f::L) f d U (tt++[c])).sum<=2^6950:=Int.le_trans hs (Int.le_trans (mul_le_pow (Int.le_trans (by decide) (ipow_pos 6900)) h1 (Int.le_refl _)) (ipow_le (by decide)))
   have h3:(2:Int)^6950*2^1<=2^7000:=Int.le_trans (mul_le_pow (by decide) (Int.le_refl _) (Int.le_refl _)) (ipow_le (by decide))
   have h4:(2:Int)^6950*2^1=2^6950*2:=rfl
   omega
  have hs0:0<=(((pre (f::L) z0).take i).map λ c=>wU (f::L) f d U (tt++[c])).sum:=sum_nn λ c hc=>(hw c (pre_sub (List.mem_of_mem_take hc))).1
  refine ⟨_,rfl,_,rfl,p,dx,_,rfl,g _ _ ob,(gf_no _ _ _ _).2.2.2.2.2.2,_,rfl,p,tb,rp,fr,f,L,d,tt++[c],tt.length,B,c,rfl,(G.same g).more [c],Sc c hcm,by simp,λ z H2 s2 hz=>?_⟩
  have hz':FrV K H2 z (WT (f::L) f d (tt++[c])).1 (WT (f::L) f d (tt++[c])).2:=by unfold WT; rw [List.length_append]; exact hz
  have hb1:0<(WT (f::L) f d (tt++[c])).2:=by have:=(wv_ok (Sc c hcm) (Nat.le_refl _) d [] (by simp)).b1; show 0<(wv (f::L) f d (tt++[c]) (tt++[c]).length d []).2; omega
  refine ⟨v,z,_,_,U,rfl,hv.same s2,hz'.toU hb1 (hdv c hcm),hU,bU,hs2,Int.le_trans w1 (ipow_le (by decide)),λ H3 y3 s3 hy3=>?_⟩
  have s13:=s2.trans s3
  rw [haN] at hle hy3 hv hs0 hs2
  have hb3:A0+aN (f::L) f d U tt c+wU (f::L) f d U (tt++[c])<=2^20000:=by
   have h4:(2:Int)^7000*2^1<=2^20000:=Int.le_trans (mul_le_pow (by decide) (Int.le_refl _) (Int.le_refl _)) (ipow_le (by decide))
   have h5:(2:Int)^7000*2^1=2^7000*2:=rfl
   have h6:(2:Int)^6900<=2^7000:=ipow_le (by decide)
   omega
  refine ⟨_,rfl,_,rfl,pt,y3,Pn,Pq,_,U,rfl,(hpt.same g).same s13,hy3,hPq,hU,Int.le_trans bPn (ipow_le (by decide)),hb3,Int.le_trans bPq (ipow_le (by decide)),Int.le_trans bU (ipow_le (by decide)),_,rfl,if2 (λ hlt=>?_) (λ hge=>?_)⟩
  ·refine ⟨_,rfl,_,rfl,by rw [sizeLine_eq]; show 2<=_; decide,λ r hr0=>?_⟩
   have s4:=same_new hr0 (.tup [vt [c],v])
   exact q _ r c v (g.trans (s13.trans s4)) hcm upd_same ((hv.same s13).same s4) hle hlt
  ·refine ⟨_,rfl,y3,_,_,rfl,g.trans s13,?_,?_⟩
   ·rw [List.take_add_one,hc,List.map_append,List.sum_append,haN]
    show FrU K H3 y3 (A0+(_+(wU (f::L) f d U (tt++[c])+0))) U
    rw [Int.add_zero,← Int.add_assoc]; exact hy3
   ·rw [List.take_add_one,hc,List.map_append,List.sum_append,haN]
    show (A0+(_+(wU (f::L) f d U (tt++[c])+0)))*Pq<=_
    rw [Int.add_zero,← Int.add_assoc]; omega
 ·rintro _ H1 ⟨v,r4,r5,rfl,g,hv,hle⟩
  rw [List.length_map,List.take_length] at hv hle
  refine ⟨_,rfl,_,rfl,ixS zL hzl ⟨_,rfl,by rw [sizeLine_eq]; show 2<=_; decide,λ r hr0=>?_⟩⟩
  have s4:=same_new hr0 (.tup [vt [z0],v])
  refine q _ r z0 v (g.trans s4) hzm upd_same (hv.same s4) hle ?_
  have e2:wU (f::L) f d U tt=aN (f::L) f d U tt z0+wU (f::L) f d U (tt++[z0]):=by
   have h9:((f::L).map λ c=>wU (f::L) f d U (tt++[c])).sum=((pre (f::L) z0++[z0]).map λ c=>wU (f::L) f d U (tt++[c])).sum:=by rw [hpz]
   rw [← hsum,h9,List.map_append,List.sum_append]
   show _+(_+0)=_
   rw [Int.add_zero]; rfl
  rw [Int.add_assoc,← e2]; exact hA2
theorem _root_.L2.FunD.okn {x qual:Str} {st:Stmt} {f D:Addr} {fd:FuncData} {N ps:List Str} {k:Nat} {sp:L2.Sp} (F:FunD K x qual st f fd D) (S:FnScope N ps (defScope st)) (len:∀ vs H Q E,sp vs H Q E->vs.length=ps.length)
 (hbody:∀ (cdv:Value) (A:Around) (outer:List Env) (s:Shared) (H:Hp) (vs:List V) (Q:VK) (E:XK),Room k (A.deeper (envOfC qual (defScope st) s.heap.objs.size f cdv))->sp vs H Q E->
  ∃ t,PSs (cxOf (CX1 P w) P w K mg base N qual (defScope st) f cdv A outer s H E).nox (defBody st) t/\t { nx:=λ _ H'=>Q .non H',rt:=Q } (L2.start N vs) H):FnOk P w K mg base (CX1 P w) (k+1) f fd ps sp:=by
 refine F.okx S len λ cdv A outer s H vs Q E hr hsp=>?_
 obtain ⟨t,h,q⟩:=hbody cdv A outer s H vs Q E hr hsp
 exact ⟨t,h.nox,q⟩
def InSp (L:List Nat) (f d:Nat) (ah l:List Nat) (v N:Int):Prop:=LoW L f d ah l*N<=v*WhW L f d ah l/\v*WhW L f d ah l<(LoW L f d ah l+WiW L f d ah l)*N
def spTextAt (K:PySem.W.Frag):L2.Sp:=λ vs H Q _=>∃ (fr:Addr) (f:Nat) (L:List Nat) (d m:Nat) (pt:V) (ah:List Nat) (v N:Int),vs=[.ref fr,.int (m:Int),pt,vt ah]/\SqT K H fr [vt (f::L),.int d]/\(∀ c ∈ ah,c ∈ f::L)/\Bp.Sp (f::L) f d (ah.length+m)/\FrU K H pt v N/\0<N/\N<=2^6400/\0<=v/\v<N/\
 ∀ H' l,Same H H'->l.length=m->(∀ c ∈ l,c ∈ f::L)->InSp (f::L) f d ah l v N->Q (vt l) H'
theorem ok_Qbq (T:Txt K mg t):FnOk P w K mg base (CX1 P w) 9 t.a_Qbq t.fd_Qbq ["frame", "many", "point", "ahead"] (spTextAt K):=by
 refine T.F_Qbq.okn (k:=8) sc_Qbq (λ vs H Q E h=>?_) (λ cdv A outer s H vs Q E hr h=>?_)
 ·obtain ⟨fr,f,L,d,m,pt,ah,v,N,rfl,_⟩:=h; rfl
 obtain ⟨fr,f,L,d,m,pt,ah,v,N,rfl,hF,ha,P0,hpt,hN,bN,v0,vN,q⟩:=h
 have G_Qcb:=@ok_Qcb P w K mg base t T
 have G_Qh:=(@ok_Qh P w K mg base t T).mono (show 3<=8 by decide)
 have G_Qs:=(@ok_Qs P w K mg base t T).mono (show 7<=8 by decide)
 have G_Qby:=(@ok_timesU P w K mg base t T).mono (show 3<=8 by decide)
 have G_Qx:=@ok_Qx P w K mg base t T
 have gd:=P0.gd
 have pA:=P0.p2 (t:=ah) (by omega) ha
 have SA:=P0.sm (t:=ah) (by omega) ha
 have hll:=P0.ll
 have hd6:=P0.d6
 have l6:=P0.l6
 have pA1:=pA.a1
 have pA2:=pA.b1
 have za:ah.length<=sizeLine:=by rw [sizeLine_eq]; omega
 refine ⟨_,(pss_cons (ps_set (i:=4) sc_Qbq.nd rfl (Or.inl rfl) (pe_call G_Qcb hr rfl T.m_Qcb T.F_Qcb.kp T.b_Qcb .nil pass1 (PAs.h (pas_cons (pv 0) (pas_cons (pv 3) pas_nil)))))
  (pss_cons (ps_set (i:=2) sc_Qbq.nd rfl (Or.inl rfl) (pe_call G_Qby hr rfl T.m_Qby T.F_Qby.kp T.b_Qby .nil pass1 (PAs.h (pas_cons (pv 2) (pas_cons (pe_meth0 (pv 4) T.cl_Growth T.me_Qh G_Qh hr T.b_Qh .nil pass1) pas_nil)))))
  (pss_cons (ps_set (i:=5) sc_Qbq.nd rfl (Or.inl rfl) (pe_glob (v:=.ref t.q_NOUGHT) rfl T.m_NOUGHT rfl))
  (pss_cons (ps_for PassesOwn.never rfl (pi_range1 rfl T.m_range (pa_cons (pv 1) pa_nil)) (pg_name (i:=6) sc_Qbq.nd rfl (Or.inl rfl)) (pss_cons (ps_set (i:=7) sc_Qbq.nd rfl (Or.inl rfl) (pe_call G_Qx hr rfl T.m_Qx T.F_Qx.kp T.b_Qx .nil pass1 (PAs.h (pas_cons (pv 4) (pas_cons (pv 5) (pas_cons (pv 2) pas_nil))))))
  (pss_cons (ps_expr (pe_meth (pv 4) T.cl_Growth T.me_Qs G_Qs hr T.b_Qs .nil pass1 (pa_cons (pe_ix ixAny (pv 7) pe_int (λ _ _=>rfl)) pa_nil)))
  (pss_one (ps_set (i:=5) sc_Qbq.nd rfl (Or.inl rfl) (pe_ix ixAny (pv 7) pe_int (λ _ _=>rfl)))))))
  (pss_one (ps_ret (pe_slice slAny (pe_fld (pv 4) rfl) (po_some (pe_callB call_len rfl T.m_len bt_len (pa_cons (pv 3) pa_nil))) po_none))))))),?_⟩
 refine ⟨_,rfl,_,rfl,fr,f,L,d,ah,rfl,hF,SA,λ g tb rp H1 s1 ng ntb nrp G1=>?_⟩
 obtain ⟨dx,ob1⟩:=G1.ob
 refine ⟨_,rfl,_,rfl,g,dx,_,rfl,ob1,(gf_no _ _ _ _).2.2.2.1,g,tb,rp,fr,f,L,d,ah,ah.length,_,rfl,G1,by omega,λ wh H2 s2 hwh=>?_⟩
 have s02:=s1.trans s2
 refine ⟨pt,wh,v,N,(WT (f::L) f d ah).1,(WT (f::L) f d ah).2,rfl,hpt.same s02,hwh,hN,by omega,lt_pow (mul_le_pow (by omega) bN pA.bb) (by decide),Int.le_trans (show v<=N by omega) (Int.le_trans bN (ipow_le (by decide))),Int.le_trans pA.ab (ipow_le (by decide)),Int.le_trans bN (ipow_le (by decide)),Int.le_trans pA.bb (ipow_le (by decide)),λ H3 pw s3 hpw=>?_⟩
 have hPq:0<N*(WT (f::L) f d ah).2:=Int.mul_pos hN (by omega)
 have bPq:N*(WT (f::L) f d ah).2<=2^13000:=Int.le_trans (mul_le_pow (by omega) bN pA.bb) (ipow_le (by decide))
 have bPn:v*(WT (f::L) f d ah).1<=2^13000:=Int.le_trans (mul_le_pow (by omega) (show v<=2^6400 by omega) pA.ab) (ipow_le (by decide))
 have G3:=(G1.same s2).same s3
 have hB0:ah.length*(d+1)<=2000:=Nat.le_trans (Nat.mul_le_mul (show ah.length<=150 by omega) (show d+1<=7 by omega)) (by decide)
 generalize ah.length*(d+1)=B0 at G3 hB0
 refine ⟨_,rfl,_,rfl,by omega,by omega,?_⟩
 refine for_range (λ i σ H'=>∃ done low r6 r7 B,σ=[some (.ref fr),some (.int (m:Int)),some pw,some (vt ah),some (.ref g),some low,r6,r7]/\Same H H'/\GO K t.c_Growth g tb rp fr H' f L d (ah++done) (ah++done).length B/\B<=2000+7*i/\done.length=i/\(∀ c ∈ done,c ∈ f::L)/\FrU K (off g tb rp H') pw (v*(WT (f::L) f d ah).1) (N*(WT (f::L) f d ah).2)/\
  FrU K (off g tb rp H') low (lowN (f::L) f d (WT (f::L) f d (ah++done)).2 ah done) (WT (f::L) f d (ah++done)).2/\
  lowN (f::L) f d (WT (f::L) f d (ah++done)).2 ah done*(N*(WT (f::L) f d ah).2)<=v*(WT (f::L) f d ah).1*(WT (f::L) f d (ah++done)).2/\
  v*(WT (f::L) f d ah).1*(WT (f::L) f d (ah++done)).2<(lowN (f::L) f d (WT (f::L) f d (ah++done)).2 ah done+wU (f::L) f d (WT (f::L) f d (ah++done)).2 (ah++done))*(N*(WT (f::L) f d ah).2))
  ⟨[],_,_,_,B0,rfl,s02.trans s3,by rw [List.append_nil]; exact G3,by omega,rfl,(λ c h=>nomatch h),G3.three.fru hpw,nought_fr T _ _,?_,?_⟩ ?_ ?_
 ·rw [List.append_nil]
  show 0*_<=_
  rw [Int.zero_mul]
  exact Int.mul_nonneg (Int.mul_nonneg v0 (by omega)) (by omega)
 ·rw [List.append_nil,wU_self (by omega)]
  show _<(0+_)*_
  rw [Int.zero_add,← Int.mul_assoc,Int.mul_comm _ N]
  exact Int.mul_lt_mul_of_pos_right (Int.mul_lt_mul_of_pos_right vN (by omega)) (by omega)
 ·rintro i _ H4 hi ⟨done,low,r6,r7,B,rfl,s4,G4,hB,hdl,hdm,k1,k2,k3,k4⟩
  rw [Int.toNat_natCast] at hi
  have sub4:=off_sub g tb rp H4
  have hlt:(ah++done).length=ah.length+i:=by rw [List.length_append,hdl]
  have hti:∀ y ∈ ah++done,y ∈ f::L:=λ y hy=>by
   rcases List.mem_append.mp hy with z | z
   ·exact ha y z
   ·exact hdm y z
  have htc:∀ c' ∈ f::L,∀ y ∈ ah++done++[c'],y ∈ f::L:=λ c' hc' y hy=>by
   rcases List.mem_append.mp hy with z | z
   ·exact hti y z
   ·cases List.mem_singleton.mp z
    exact hc'
  have hlen:∀ c':Nat,(ah++done++[c']).length<=ah.length+m:=λ c'=>by rw [List.length_append,hlt]; show _+1<=_; omega
  have fm:f ∈ f::L:=List.mem_cons_self
  have bot:∀ c ∈ f::L,(WT (f::L) f d (ah++done++[c])).2=(WT (f::L) f d (ah++done++[f])).2:=λ c hc=>WT_bot gd.nd gd.fm hti hc fm
  have pF:=P0.p2 (hlen f) (htc f fm)
  have pT:=P0.p2 (t:=ah++done) (by omega) hti
  obtain ⟨mm,hmm⟩:(WT (f::L) f d (ah++done)).2 ∣ (WT (f::L) f d (ah++done++[f])).2:=WT_dvd gd.nd (htc f fm)
  have hU0:0<(WT (f::L) f d (ah++done)).2:=by have:=pT.b1; omega
  have hV0:0<(WT (f::L) f d (ah++done++[f])).2:=by have:=pF.b1; omega
  have hm0:0<mm:=by rw [hmm] at hV0; exact Int.pos_of_mul_pos_right hV0 hU0
  have hdA:=WT_dvd_app (f:=f) (d:=d) gd.nd (t:=ah) (x:=done) hti
  have lm:=low_mul gd (m:=mm) done ah (by omega) hti (Int.dvd_refl _)
  have wm:=wU_mul (m:=mm) hU0 (Int.dvd_refl (WT (f::L) f d (ah++done)).2)
  rw [← hmm] at lm wm
  have dF:(WT (f::L) f d (ah++done)).2 ∣ (WT (f::L) f d (ah++done++[f])).2:=⟨mm,hmm⟩
  have k2':=k2.mul mm
  rw [← lm,← hmm] at k2'
  have k3':=Int.mul_le_mul_of_nonneg_right k3 (Int.le_of_lt hm0)
  rw [Int.mul_right_comm,← lm,Int.mul_assoc (v*_),← hmm] at k3'
  have k4':=Int.mul_lt_mul_of_pos_right k4 hm0
  rw [Int.mul_right_comm (_+_),Int.add_mul,← lm,← wm,Int.mul_assoc (v*_),← hmm] at k4'
  clear k2 k3 k4 lm wm hmm
  have hUb:=pF.bb
  have hdv:∀ c ∈ f::L,(WT (f::L) f d (ah++done++[c])).2 ∣ (WT (f::L) f d (ah++done++[f])).2:=λ c hc=>by rw [bot c hc]; exact Int.dvd_refl _
  have hsum:=wU_split (U:=(WT (f::L) f d (ah++done++[f])).2) gd.nd gd.fm hti hU0 (λ c hc=>(gd.ps _ (hlen c) (htc c hc)).1) hdv dF
  have hlow:=low_le gd (Int.le_of_lt hV0) done ah (by omega) hti dF
  have hwa:=P0.wU_le (t:=ah) (by omega) ha hV0 hUb
  have hwi:=P0.wU_le (t:=ah++done) (by omega) hti hV0 hUb
  have bA:lowN (f::L) f d (WT (f::L) f d (ah++done++[f])).2 ah done<=2^6950:=Int.le_trans (show _<=wU (f::L) f d (WT (f::L) f d (ah++done++[f])).2 ah by omega) (Int.le_trans hwa.2 (ipow_le (by decide)))
  refine ⟨_,rfl,_,rfl,_,rfl,g,tb,rp,fr,f,L,d,ah++done,B,low,pw,_,_,_,_,rfl,G4,λ c hc=>P0.sm (hlen c) (htc c hc),hdv,hV0,hUb,λ c hc=>?_,k2'.same sub4,hlow.1,bA,k1.same sub4,hPq,bPq,bPn,k3',k4',hsum,λ H5 r x z' s5 hx er hz' hA1 hA2=>?_⟩
  ·have:=P0.wU_le (hlen c) (htc c hc) hV0 hUb
   exact ⟨this.1,Int.le_trans this.2 (ipow_le (by decide))⟩
  have G5:=(G4.same s5).more [x]
  obtain ⟨d5,ob5⟩:=G5.ob
  have hr5:SqT K H5 r [vt [x],z']:=.inl (.inl er)
  refine ⟨_,rfl,g,d5,_,rfl,ob5,(gf_no _ _ _ _).2.2.2.2.1,_,rfl,ixT hr5 rfl ⟨g,tb,rp,fr,f,L,d,ah++done++[x],(ah++done).length,B,x,rfl,G5,P0.sm (hlen x) (htc x hx),by simp,by omega,λ H6 G6 k6=>?_⟩⟩
  have three5:=G5.three
  have sK:Same (off g tb rp H5) (off g tb rp H6):=keep_off k6
  have hr6:SqT K H6 r [vt [x],z']:=same_tup (off_sub g tb rp H6) (same_tup sK (three5.tup hr5))
  refine ⟨_,rfl,ixT hr6 rfl ?_⟩
  have e1:ah++(done++[x])=ah++done++[x]:=by simp
  refine ⟨done++[x],z',_,_,B+(d+1),rfl,λ b o e=>k6 b o (s5 b o (s4 b o e)) (ne_of_none e ng) (ne_of_none e ntb) (ne_of_none e nrp),?_,by omega,by rw [List.length_append,hdl]; rfl,λ y hy=>?_,(k1.same (off_same s5)).same sK,?_,?_,?_⟩
  ·rw [e1,List.length_append]; exact G6
  ·rcases List.mem_append.mp hy with z | z
   ·exact hdm y z
   ·cases List.mem_singleton.mp z
    exact hx
  all_goals rw [e1,bot x hx,low_app]
  ·show FrU K _ z' (_+(aN (f::L) f d _ (ah++done) x+0)) _
   rw [Int.add_zero]
   exact (three5.fru hz').same sK
  ·show (_+(aN (f::L) f d _ (ah++done) x+0))*_<=_
   rw [Int.add_zero]; exact hA1
  ·show _<(_+(aN (f::L) f d _ (ah++done) x+0)+_)*_
   rw [Int.add_zero]; exact hA2
 ·rintro _ H4 ⟨done,low,r6,r7,B,rfl,s4,G4,hB,hdl,hdm,k1,k2,k3,k4⟩
  rw [Int.toNat_natCast] at hdl
  have hti:∀ y ∈ ah++done,y ∈ f::L:=λ y hy=>by
   rcases List.mem_append.mp hy with z | z
   ·exact ha y z
   ·exact hdm y z
  obtain ⟨d4,ob4⟩:=G4.ob
  have zt:((ah++done).take (ah++done).length).length<=sizeLine:=by rw [List.take_length,List.length_append,sizeLine_eq]; omega
  refine ⟨_,rfl,g,_,d4,_,_,rfl,ob4,T.cl_Growth,T.na_Growth_text,gf_text _ _ _ _,_,rfl,_,_,rfl,lenvS za,_,rfl,.inr (cutT zt ?_)⟩
  rw [cut_from,List.take_length,List.drop_append_of_le_length (Nat.le_refl _),List.drop_length,List.nil_append]
  refine q H4 done s4 hdl hdm ⟨?_,?_⟩
  ·unfold LoW WhW
   rw [Int.mul_assoc,Int.mul_comm (WT (f::L) f d ah).2 N,Int.mul_comm (WT (f::L) f d (ah++done)).2,← Int.mul_assoc v]
   exact k3
  ·unfold LoW WhW WiW
   rw [← Int.add_mul,Int.mul_assoc _ _ N,Int.mul_comm (WT (f::L) f d ah).2 N,Int.mul_comm (WT (f::L) f d (ah++done)).2,← Int.mul_assoc v]
   exact k4
def spIsBits (K:PySem.W.Frag):L2.Sp:=λ vs H Q _=>∃ l,vs=[vt l]/\l.length<=10000/\∀ H',Same H H'->Q (.bl (l.all isB)) H'
def bV:V->V
 | .str z=>.bl (isB (z.cps.toList.headD 0))
 | v=>v
theorem ok_Qbn (T:Txt K mg t):FnOk P w K mg base (CX1 P w) 1 t.a_Qbn t.fd_Qbn ["thing"] (spIsBits K):=by
 refine T.F_Qbn.okn (k:=0) sc_Qbn (λ vs H Q E h=>?_) (λ cdv A outer s H vs Q E hr h=>?_)
 ·obtain ⟨l,rfl,_⟩:=h; rfl
 obtain ⟨l,rfl,hl,q⟩:=h
 refine ⟨_,(pss_one (ps_ret (pe_and (pe_callB isiAny rfl T.m_isinstance bt_isinstance (PAs.h (pas_cons (pv 0) (pas_cons (pe_bltn (v:=.ty "str") rfl T.m_str bt_str rfl) pas_nil)))) (pe_one (pe_callB (callAll rfl) rfl T.m_all bt_all (pa_cons (pe_lc (compSc_of (N:=["sign"]) (cap:=[none]) (by kernel_rfl)) rfl (piAny (pv 0)) ⟨λ _=>(pg_name (i:=0) (show List.Nodup (["sign"]:List Str) by decide +kernel) rfl (Or.inl rfl)),λ _=>pf_nil,λ _=>(pe_cmpR oIn (pv 0) pe_str (by with_unfolding_all rfl))⟩) pa_nil)))))),?_⟩
 refine ⟨_,rfl,.inl ⟨_,_,_,true,rfl,.str _,kit_same K _,true,rfl,iteT ?_⟩⟩
 refine ⟨_,rfl,.inr (.inr ⟨_,rfl,λ D hD cp=>?_⟩)⟩
 refine lc_pure (walk_tx l) (caps:=[]) (λ _=>true) bV (λ _=>trivial) (by rw [List.length_map,sizeLine_eq]; omega) ?_ ?_
 ·intro i x ys R hx hy h1 _
  obtain ⟨c,_,rfl⟩:=sign_at hx
  refine lc_true ⟨_,rfl,?_⟩
  rw [str01]
  refine .inl ⟨c,[48,49],rfl,rfl,ys,upd_same,hy,?_⟩
  rw [upd_upd,if_neg Bool.false_ne_true]; exact h1 rfl
 have e:((l.map λ c=>vt [c]).filter λ _=>true).map bV=(l.map isB).map V.bl:=by
  rw [List.filter_eq_self.mpr (λ _ _=>rfl),List.map_map,List.map_map]; rfl
 rw [e]
 refine ⟨D,l.map isB,rfl,SqL.of upd_same,?_⟩
 rw [List.all_map]
 exact q _ (same_new hD _)
def spTwos:L2.Sp:=λ vs H Q _=>∃ l:List Nat,vs=[vt l]/\l.length<=10000/\Q (.int (valB l)) H
theorem ok_Qe (T:Txt K mg t):FnOk P w K mg base (CX1 P w) 1 t.a_Qe t.fd_Qe ["bits"] spTwos:=by
 refine T.F_Qe.okn (k:=0) sc_Qe (λ vs H Q E h=>?_) (λ cdv A outer s H vs Q E hr h=>?_)
 ·obtain ⟨l,rfl,_⟩:=h; rfl
 obtain ⟨l,rfl,hl,q⟩:=h
 refine ⟨_,(pss_cons (ps_set (i:=1) sc_Qe.nd rfl (Or.inl rfl) pe_int)
  (pss_cons (ps_for PassesOwn.never rfl (piAny (pv 0)) (pg_name (i:=2) sc_Qe.nd rfl (Or.inl rfl)) (pss_cons (ps_aug (i:=1) sc_Qe.nd rfl (Or.inl rfl) pe_int ipMul)
  (pss_one (ps_if (pt_cmpR (oEqA (hr.units0)) (pv 2) pe_str (nomark _)) (pss_one (ps_aug (i:=1) sc_Qe.nd rfl (Or.inl rfl) pe_int ipAdd)) pss_nil))))
  (pss_one (ps_ret (pv 1))))),?_⟩
 refine ⟨_,rfl,.inr (.inr ⟨_,rfl,?_⟩)⟩
 refine for_walk (walk_tx l) (λ i σ H'=>∃ r,σ=[some (vt l),some (.int (valB (l.take i))),r]/\H'=H) ⟨_,rfl,rfl⟩ (λ _ _ _ _ _=>trivial) ?_ ?_
 ·rintro i x _ _ hx ⟨r,rfl,rfl⟩
  obtain ⟨c,hc,rfl⟩:=sign_at hx
  have e:valB (l.take (i+1))=valB (l.take i)*2+if c=49 then 1 else 0:=by rw [List.take_add_one,hc]; exact valB_snoc _ _
  repeat array_get_dec
  rw [str1]
  refine if2 (λ z=>?_) (λ z=>?_)
  ·have z':c=49:=by simpa using vtx.mp z
   repeat array_get_dec
   try dsimp (config:={ proj:=false,eta:=false,zeta:=false,iota:=false }) only [tNil,tC]
   rw [e,if_pos z']
   exact ⟨_,rfl,rfl⟩
  ·have z':c ≠ 49:=λ y=>z (by rw [y])
   try dsimp (config:={ proj:=false,eta:=false,zeta:=false,iota:=false }) only [tNil,tC]
   rw [e,if_neg z',Int.add_zero]
   exact ⟨_,rfl,rfl⟩
 ·rintro _ _ ⟨r,rfl,rfl⟩
  rw [List.length_map,List.take_length]
  exact ⟨_,rfl,q⟩
def spStretch (K:PySem.W.Frag) (C:Addr):L2.Sp:=λ vs H Q E=>∃ l,vs=[vt l]/\l.length<=8990/\(l.all isB=false->∀ H',Same H H'->E (.ref C) none H')/\
 (l.all isB=true->∀ H' p a b,Same H H'->H' p=some (.tup [.ref a,.ref b])->H' a=some (.tup [.int (num (valB l) (2^l.length)),.int (den (valB l) (2^l.length))])->H' b=some (.tup [.int (num 1 (2^l.length)),.int (den 1 (2^l.length))])->Q (.ref p) H')
theorem pow_bd {n m:Nat} (h:n<m):((2:Int)^n).natAbs<2^m:=by
 rw [Int.natAbs_pow]; exact Nat.pow_lt_pow_right (by decide) h
theorem ok_Qbo (T:Txt K mg t):FnOk P w K mg base (CX1 P w) 3 t.a_Qbo t.fd_Qbo ["bits"] (spStretch K t.c_NoBits):=by
 refine T.F_Qbo.okx (k:=2) sc_Qbo (λ vs H Q E h=>?_) (λ cdv A outer s H vs Q E hr h=>?_)
 ·obtain ⟨l,rfl,_⟩:=h; rfl
 obtain ⟨l,rfl,hl,q0,q1⟩:=h
 have G_Qbn:=(@ok_Qbn P w K mg base t T).mono (show 1<=2 by decide)
 have G_Qe:=(@ok_Qe P w K mg base t T).mono (show 1<=2 by decide)
 have G_Qbe:=@ok_Qbe P w K mg base t T
 refine ⟨_,(pss_cons (ps_if (pt_not (pt_val (pe_call G_Qbn hr rfl T.m_Qbn T.F_Qbn.kp T.b_Qbn .nil pass1 (pa_cons (pv 0) pa_nil)))) (pss_one (ps_raise raises1 rfl rfl T.m_NoBits T.x_NoBits PySem.F.excBase_ValueError (pa_cons pe_str pa_nil))) pss_nil)
  (pss_cons (ps_set (i:=1) sc_Qbo.nd rfl (Or.inl rfl) pe_int)
  (pss_cons (ps_for PassesOwn.leaving rfl (piAny (pv 0)) (pg_name (i:=2) sc_Qbo.nd rfl (Or.inl rfl)) (pss_one (ps_aug (i:=1) sc_Qbo.nd rfl (Or.inl rfl) pe_int ipMul)))
  (pss_one (ps_ret (pe_tup (PAs.h (pas_cons (pe_call G_Qbe hr rfl T.m_Qbe T.F_Qbe.kp T.b_Qbe .nil pass1 (PAs.h (pas_cons (pe_call G_Qe hr rfl T.m_Qe T.F_Qe.kp T.b_Qe .nil pass1 (pa_cons (pv 0) pa_nil)) (pas_cons (pv 1) pas_nil)))) (pas_cons (pe_call G_Qbe hr rfl T.m_Qbe T.F_Qbe.kp T.b_Qbe .nil pass1 (PAs.h (pas_cons pe_int (pas_cons (pv 1) pas_nil)))) pas_nil))))))))),?_⟩
 refine ⟨_,rfl,l,rfl,by omega,λ H1 g1=>⟨_,rfl,?_⟩⟩
 cases hb:l.all isB with
 | false=>exact iteT ⟨by decide,q0 hb _ g1⟩
 | true =>
   refine iteF ?_
   refine ⟨_,rfl,.inr (.inr ⟨_,rfl,?_⟩)⟩
   refine for_walk (walk_tx l) (λ i σ H'=>∃ r,σ=[some (vt l),some (.int (2^i)),r]/\H'=H1) ⟨_,rfl,rfl⟩ (λ _ _ _ _ _=>trivial) ?_ ?_
   ·rintro i x _ _ hx ⟨r,rfl,rfl⟩
    repeat array_get_dec
    rfl
   ·rintro _ _ ⟨r,rfl,rfl⟩
    rw [List.length_map]
    have z:(2:Int)^l.length ≠ 0:=by have:(0:Int)<2^l.length:=Int.pow_pos (by decide); omega
    have b9:((2:Int)^l.length).natAbs<2^8999:=pow_bd (by omega)
    refine ⟨_,rfl,l,rfl,by omega,_,rfl,?_⟩
    refine ⟨_,_,rfl,λ y=>absurd y z,λ _=>⟨b9,λ a ha=>?_⟩⟩
    refine ⟨_,rfl,_,_,rfl,λ y=>absurd y z,λ _=>⟨b9,λ b hb'=>?_⟩⟩
    refine ⟨by show 2<=sizeLine; decide,λ p hp=>?_⟩
    exact q1 hb _ p a b (by array_mem_dec) (by array_mem_dec) (by array_mem_dec) (by array_mem_dec)
theorem pre_or:∀ {L:List Nat} {x y:Nat},x ∈ L->y ∈ L->x ≠ y->x ∈ pre L y\/y ∈ pre L x
 | [],_,_,h,_,_=>nomatch h
 | c::L,x,y,hx,hy,hne=>by
   unfold pre
   by_cases z1:c=x
   ·subst z1
    rw [if_neg hne]
    exact .inl List.mem_cons_self
   ·by_cases z2:c=y
    ·subst z2
     rw [if_neg z1]
     exact .inr List.mem_cons_self
    ·rw [if_neg z1,if_neg z2]
     have hx':x ∈ L:=(List.mem_cons.mp hx).resolve_left λ e=>z1 e.symm
     have hy':y ∈ L:=(List.mem_cons.mp hy).resolve_left λ e=>z2 e.symm
     exact (pre_or hx' hy' hne).imp (List.mem_cons_of_mem _) (List.mem_cons_of_mem _)
theorem pre_in:∀ {L:List Nat} {x y:Nat},x ∈ pre L y->∃ r,pre L y=pre L x++x::r
 | [],_,_,h=>nomatch h
 | c::L,x,y,h=>by
   unfold pre at h ⊢
   by_cases z2:c=y
   ·rw [if_pos z2] at h; exact nomatch h
   rw [if_neg z2] at h ⊢
   by_cases z1:c=x
   ·subst z1; rw [if_pos rfl]; exact ⟨_,rfl⟩
   ·rw [if_neg z1]
    have h':=(List.mem_cons.mp h).resolve_left λ e=>z1 e.symm
    obtain ⟨r,hr⟩:=pre_in h'
    exact ⟨r,by rw [hr]; rfl⟩
theorem aN_in {L:List Nat} {f d:Nat} {U:Int} {t:List Nat} {x y:Nat} (h:x ∈ pre L y) (hn:∀ c ∈ L,0<=wU L f d U (t++[c])):aN L f d U t x+wU L f d U (t++[x])<=aN L f d U t y:=by
 obtain ⟨r,hr⟩:=pre_in h
 unfold aN
 rw [hr,List.map_append,List.sum_append,List.map_cons,List.sum_cons]
 have:0<=(r.map λ c=>wU L f d U (t++[c])).sum:=sum_nn λ c hc=>hn c (pre_sub (x:=y) (by rw [hr]; simp [hc]))
 omega
theorem span_one {L:List Nat} {f d N:Nat} (g:Gd L f d N) {U Q:Int} (hQ:0<Q) (hU0:0<=U):∀ (xs ys t:List Nat) (P:Int),xs.length=ys.length->(t++xs).length<=N->(∀ y ∈ t++xs,y ∈ L)->(∀ y ∈ t++ys,y ∈ L)->(WT L f d (t++xs)).2 ∣ U->(WT L f d (t++ys)).2 ∣ U->
 lowN L f d U t xs*Q<=P->P<(lowN L f d U t xs+wU L f d U (t++xs))*Q->lowN L f d U t ys*Q<=P->P<(lowN L f d U t ys+wU L f d U (t++ys))*Q->xs=ys
 | [],[],_,_,_,_,_,_,_,_,_,_,_,_=>rfl
 | [],_::_,_,_,h,_,_,_,_,_,_,_,_,_=>by cases h
 | _::_,[],_,_,h,_,_,_,_,_,_,_,_,_=>by cases h
 | x::xs,y::ys,t,P,hl,hN,hx,hy,dx,dy,a1,a2,b1,b2=>by
   have hl':xs.length=ys.length:=by simpa using hl
   have ex:t++x::xs=(t++[x])++xs:=by simp
   have ey:t++y::ys=(t++[y])++ys:=by simp
   have hNy:(t++y::ys).length<=N:=by rw [List.length_append] at hN ⊢; simp at hN ⊢; omega
   have htl:∀ z ∈ t,z ∈ L:=λ z hz=>hx z (List.mem_append_left _ hz)
   have hxL:x ∈ L:=hx x (by simp)
   have hyL:y ∈ L:=hy y (by simp)
   have hc1:∀ c ∈ L,∀ z ∈ t++[c],z ∈ L:=λ c hc z hz=>by
    rcases List.mem_append.mp hz with h | h
    ·exact htl z h
    ·cases List.mem_singleton.mp h
     exact hc
   have hlen:t.length+1<=N:=by rw [List.length_append] at hN; simp at hN; omega
   have nn:∀ c ∈ L,0<=wU L f d U (t++[c]):=λ c hc=>wU_nonneg g hU0 (by rw [List.length_append]; exact hlen) (hc1 c hc)
   by_cases e:x=y
   ·subst e
    rw [ex] at hN hx dx a2
    rw [ey] at hy dy b2
    have r1:lowN L f d U t (x::xs)=aN L f d U t x+lowN L f d U (t++[x]) xs:=rfl
    have r2:lowN L f d U t (x::ys)=aN L f d U t x+lowN L f d U (t++[x]) ys:=rfl
    rw [r1] at a1 a2
    rw [r2] at b1 b2
    rw [Int.add_mul] at a1 b1
    rw [Int.add_assoc,Int.add_mul] at a2 b2
    rw [span_one g hQ hU0 xs ys (t++[x]) (P-aN L f d U t x*Q) hl' hN hx hy dx dy (by omega) (by omega) (by omega) (by omega)]
   ·exfalso
    have lx:=low_le g hU0 xs (t++[x]) (by rw [← ex]; exact hN) (by rw [← ex]; exact hx) (by rw [← ex]; exact dx)
    have ly:=low_le g hU0 ys (t++[y]) (by rw [← ey]; exact hNy) (by rw [← ey]; exact hy) (by rw [← ey]; exact dy)
    rw [← ex] at lx
    rw [← ey] at ly
    have r1:lowN L f d U t (x::xs)=aN L f d U t x+lowN L f d U (t++[x]) xs:=rfl
    have r2:lowN L f d U t (y::ys)=aN L f d U t y+lowN L f d U (t++[y]) ys:=rfl
    rcases pre_or hxL hyL e with z | z
    ·have h1:=aN_in (f:=f) (d:=d) (U:=U) (t:=t) z nn
     have h2:(lowN L f d U t (x::xs)+wU L f d U (t++x::xs))*Q<=lowN L f d U t (y::ys)*Q:=Int.mul_le_mul_of_nonneg_right (by rw [r1,r2]; omega) (Int.le_of_lt hQ)
     omega
    ·have h1:=aN_in (f:=f) (d:=d) (U:=U) (t:=t) z nn
     have h2:(lowN L f d U t (y::ys)+wU L f d U (t++y::ys))*Q<=lowN L f d U t (x::xs)*Q:=Int.mul_le_mul_of_nonneg_right (by rw [r1,r2]; omega) (Int.le_of_lt hQ)
     omega
theorem InSp.one {L:List Nat} {f d N:Nat} (g:Gd L f d N) {ah l m:List Nat} {v n:Int} (hn:0<n) (hl:l.length=m.length) (hN:(ah++l).length<=N) (h1:∀ y ∈ ah++l,y ∈ L) (h2:∀ y ∈ ah++m,y ∈ L) (i1:InSp L f d ah l v n) (i2:InSp L f d ah m v n):l=m:=by
 have hNm:(ah++m).length<=N:=by rw [List.length_append] at hN ⊢; omega
 have p1:=g.ps _ hN h1
 have p2:=g.ps _ hNm h2
 have pa:=g.ps ah (by rw [List.length_append] at hN; omega) λ y hy=>h1 y (List.mem_append_left _ hy)
 have l1:=low_mul g (m:=(WT L f d (ah++m)).2) l ah hN h1 (Int.dvd_refl _)
 have l2:=low_mul g (m:=(WT L f d (ah++l)).2) m ah hNm h2 (Int.dvd_refl _)
 have w1:=wU_mul (m:=(WT L f d (ah++m)).2) p1.1 (Int.dvd_refl (WT L f d (ah++l)).2)
 have w2:=wU_mul (m:=(WT L f d (ah++l)).2) p2.1 (Int.dvd_refl (WT L f d (ah++m)).2)
 rw [Int.mul_comm (WT L f d (ah++m)).2] at l2 w2
 obtain ⟨a1,a2⟩:=i1
 obtain ⟨b1,b2⟩:=i2
 unfold LoW WhW at a1 b1
 unfold LoW WhW WiW at a2 b2
 rw [← Int.add_mul] at a2 b2
 have s1:=Int.mul_le_mul_of_nonneg_right a1 (Int.le_of_lt p2.1)
 have s2:=Int.mul_lt_mul_of_pos_right a2 p2.1
 have s3:=Int.mul_le_mul_of_nonneg_right b1 (Int.le_of_lt p1.1)
 have s4:=Int.mul_lt_mul_of_pos_right b2 p1.1
 refine span_one g (U:=(WT L f d (ah++l)).2*(WT L f d (ah++m)).2) (Q:=(WT L f d ah).2*n) (Int.mul_pos pa.1 hn) (Int.le_of_lt (Int.mul_pos p1.1 p2.1)) l m ah (v*(WT L f d ah).1*((WT L f d (ah++l)).2*(WT L f d (ah++m)).2)) hl hN h1 h2 (Int.dvd_mul_right _ _) (Int.dvd_mul_left _ _) ?_ ?_ ?_ ?_
 ·rw [l1]; grind
 ·rw [l1,w1,← Int.add_mul]; grind
 ·rw [l2]; grind
 ·rw [l2,w2,← Int.add_mul]; grind
theorem BitsIn.inSp {L:List Nat} {f d:Nat} {ah l b:List Nat} (hW:0<WhW L f d ah l) (h:BitsIn (LoW L f d ah l) (WiW L f d ah l) (WhW L f d ah l) b):InSp L f d ah l (valB b) (2^b.length):=by
 refine ⟨h.low,?_⟩
 have:=h.hig
 rw [Int.add_mul,Int.one_mul] at this
 omega
def isSg (c:Nat):Bool:=decide (32<=c) && (decide (c<=126) && !decide (c=37))
theorem le_lo (c:Nat):(!decide ((tx [c]).cps.toList<(Str.ofString " ").cps.toList))=decide (32<=c):=by
 have e:(Str.ofString " ").cps.toList=[32]:=by decide +kernel
 rw [e,tx_cps]
 have:([c]<[32]) ↔ c<32:=by simp [List.cons_lt_cons_iff]
 by_cases h:32<=c
 ·rw [decide_eq_true h,decide_eq_false (by rw [this]; omega)]; rfl
 ·rw [decide_eq_false h,decide_eq_true (by rw [this]; omega)]; rfl
theorem le_hi (c:Nat):(!decide ((Str.ofString "~").cps.toList<(tx [c]).cps.toList))=decide (c<=126):=by
 have e:(Str.ofString "~").cps.toList=[126]:=by decide +kernel
 rw [e,tx_cps]
 have:([126]<[c]) ↔ 126<c:=by simp [List.cons_lt_cons_iff]
 by_cases h:c<=126
 ·rw [decide_eq_true h,decide_eq_false (by rw [this]; omega)]; rfl
 ·rw [decide_eq_false h,decide_eq_true (by rw [this]; omega)]; rfl
theorem dec_int_nat (c n:Nat):decide (V.int (c:Int)=V.int (n:Int))=decide (c=n):=by
 by_cases h:c=n
 ·subst h; simp
 ·rw [decide_eq_false h,decide_eq_false (λ z=>h (by have:=V.int.inj z; omega))]
def spSign:L2.Sp:=λ vs H Q _=>∃ c,vs=[vt [c]]/\Q (.bl (isSg c)) H
theorem ok_Qbj (T:Txt K mg t):FnOk P w K mg base (CX1 P w) 1 t.a_Qbj t.fd_Qbj ["thing"] spSign:=by
 refine T.F_Qbj.okn (k:=0) sc_Qbj (λ vs H Q E h=>?_) (λ cdv A outer s H vs Q E hr h=>?_)
 ·obtain ⟨c,rfl,_⟩:=h; rfl
 obtain ⟨c,rfl,q⟩:=h
 have hz:(tx [c]).length<=sizeLine:=by show 1<=sizeLine; decide
 refine ⟨_,(pss_cons (ps_if (PW.pt (pw_or (pt_not (pt_val (pe_callB isiAny rfl T.m_isinstance bt_isinstance (PAs.h (pas_cons (pv 0) (pas_cons (pe_bltn (v:=.ty "str") rfl T.m_str bt_str rfl) pas_nil)))))) (pw_or1 (pt_cmpR (oNeN (hr.units0)) (pe_callB call_len rfl T.m_len bt_len (pa_cons (pv 0) pa_nil)) pe_int (nomark _))))) (pss_one (ps_ret pe_bl)) pss_nil)
  (pss_one (ps_ret (pe_and (pe_chain oLeA oLeA pe_str (pv 0) pe_str) (pe_one (pe_cmpR (oNeN (hr.units0)) (pe_callB call_ord rfl T.m_ord bt_ord (pa_cons (pv 0) pa_nil)) (pe_glob (v:=.int 37) rfl T.m_PER_CENT ⟨_,rfl⟩) (nomark _))))))),?_⟩
 refine ⟨_,rfl,.inl ⟨_,_,_,true,rfl,.str _,kit_same K _,true,rfl,iteF ?_⟩⟩
 refine ⟨_,rfl,_,_,rfl,⟨hz,rfl⟩,.inl ⟨rfl,_,rfl,iteNS rfl ?_⟩⟩
 refine ⟨_,rfl,.inr ⟨_,_,rfl,rfl,_,rfl,?_⟩⟩
 rw [le_lo]
 unfold isSg at q
 refine ite2 (λ h1=>?_) (λ h1=>?_)
 ·rw [h1,Bool.true_and] at q
  refine .inr ⟨_,_,rfl,rfl,_,rfl,?_⟩
  rw [le_hi]
  refine ite2 (λ h2=>?_) (λ h2=>?_)
  ·rw [h2,Bool.true_and] at q
   refine ⟨_,rfl,_,rfl,rfl,.inl ⟨rfl,?_⟩⟩
   show Q (.bl (!decide (V.int ((c:Nat):Int)=V.int ((37:Nat):Int)))) H
   rw [dec_int_nat]; exact q
  ·rw [Bool.not_eq_true _ |>.mp h2,Bool.false_and] at q
   exact q
 ·rw [Bool.not_eq_true _ |>.mp h1,Bool.false_and] at q
  exact ⟨false,rfl,iteF q⟩
def signV:V->V
 | .str z=>.bl (isSg (z.cps.toList.headD 0))
 | v=>v
def spText0 (K:PySem.W.Frag):L2.Sp:=λ vs H Q _=>∃ l,vs=[vt l]/\l.length<=4000/\∀ H',Same H H'->Q (.bl (l.all isSg)) H'
theorem ok_Qbk (T:Txt K mg t):FnOk P w K mg base (CX1 P w) 2 t.a_Qbk t.fd_Qbk ["thing"] (spText0 K):=by
 refine T.F_Qbk.okn (k:=1) sc_Qbk (λ vs H Q E h=>?_) (λ cdv A outer s H vs Q E hr h=>?_)
 ·obtain ⟨l,rfl,_⟩:=h; rfl
 obtain ⟨l,rfl,hl,q⟩:=h
 have G_Qbj:=@ok_Qbj P w K mg base t T
 refine ⟨_,(pss_one (ps_ret (pe_and (pe_callB isiAny rfl T.m_isinstance bt_isinstance (PAs.h (pas_cons (pv 0) (pas_cons (pe_bltn (v:=.ty "str") rfl T.m_str bt_str rfl) pas_nil)))) (pe_one (pe_callB (callAll rfl) rfl T.m_all bt_all (pa_cons (pe_lc (compSc_of (N:=["sign"]) (cap:=[none]) (by kernel_rfl)) rfl (piAny (pv 0)) ⟨λ _=>(pg_name (i:=0) (show List.Nodup (["sign"]:List Str) by decide +kernel) rfl (Or.inl rfl)),λ _=>pf_nil,λ _=>(pe_call G_Qbj hr rfl T.m_Qbj T.F_Qbj.kp T.b_Qbj .nil pass1 (pa_cons (pv 0) pa_nil))⟩) pa_nil)))))),?_⟩
 refine ⟨_,rfl,.inl ⟨_,_,_,true,rfl,.str _,kit_same K _,true,rfl,iteT ?_⟩⟩
 refine ⟨_,rfl,.inr (.inr ⟨_,rfl,λ D hD cp=>?_⟩)⟩
 refine lc_pure (walk_tx l) (caps:=[]) (λ _=>true) signV (λ _=>trivial) (by rw [List.length_map,sizeLine_eq]; omega) ?_ ?_
 ·intro i x ys R hx hy h4 _
  obtain ⟨c,_,rfl⟩:=sign_at hx
  refine lc_true ⟨_,rfl,c,rfl,ys,upd_same,hy,?_⟩
  rw [upd_upd]; exact h4 rfl
 ·refine ⟨D,l.map isSg,rfl,?_,?_⟩
  ·have e4:((l.map λ c=>vt [c]).filter (λ _=>true)).map signV=(l.map isSg).map V.bl:=by
    rw [List.filter_eq_self.mpr (λ _ _=>rfl),List.map_map,List.map_map]; rfl
   rw [e4]; exact SqL.of upd_same
  ·have e5:(l.map isSg).all id=l.all isSg:=by rw [List.all_map]; rfl
   rw [e5]; exact q _ (same_new hD _)
def spLetters0 (K:PySem.W.Frag):L2.Sp:=λ vs H Q _=>∃ l,vs=[vt l]/\2<=l.length/\l.length<=6/\l.Nodup/\(∀ c ∈ l,isSg c=true)/\∀ H',Same H H'->Q (.bl true) H'
theorem ok_Qn (T:Txt K mg t):FnOk P w K mg base (CX1 P w) 3 t.a_Qn t.fd_Qn ["thing"] (spLetters0 K):=by
 refine T.F_Qn.okn (k:=2) sc_Qn (λ vs H Q E h=>?_) (λ cdv A outer s H vs Q E hr h=>?_)
 ·obtain ⟨l,rfl,_⟩:=h; rfl
 obtain ⟨l,rfl,h2,h6,hnd,hsg,q⟩:=h
 have G_Qbk:=@ok_Qbk P w K mg base t T
 refine ⟨_,(pss_cons (ps_if (pt_not (pt_val (pe_call G_Qbk hr rfl T.m_Qbk T.F_Qbk.kp T.b_Qbk .nil pass1 (pa_cons (pv 0) pa_nil)))) (pss_one (ps_ret pe_bl)) pss_nil)
  (pss_one (ps_ret (pe_and (pe_chain oLeA oLeA (pe_glob (v:=.int 2) rfl T.m_FEWEST_LETTERS ⟨_,rfl⟩) (pe_callB call_len rfl T.m_len bt_len (pa_cons (pv 0) pa_nil)) (pe_glob (v:=.int 6) rfl T.m_MOST_LETTERS ⟨_,rfl⟩)) (pe_one (pe_cmpR (oEqA (hr.units0)) (pe_callB callLenSet rfl T.m_len bt_len (pa_cons (pe_callTy (callSet rfl) rfl T.m_set bt_set (pa_cons (pv 0) pa_nil)) pa_nil)) (pe_callB call_len rfl T.m_len bt_len (pa_cons (pv 0) pa_nil)) (nomark _))))))),?_⟩
 have zl:l.length<=sizeLine:=by rw [sizeLine_eq]; omega
 refine ⟨_,rfl,l,rfl,by omega,λ H1 g1=>?_⟩
 rw [List.all_eq_true.mpr hsg]
 refine ⟨true,rfl,iteF ?_⟩
 refine ⟨_,rfl,_,_,rfl,lenvS zl,.inl ⟨_,_,rfl,rfl,_,rfl,?_⟩⟩
 refine ifT (by show (2:Int)<=(l.length:Nat); omega) ?_
 refine .inl ⟨_,_,rfl,rfl,_,rfl,ifT (by show ((l.length:Nat):Int)<=6; omega) ?_⟩
 refine ⟨_,rfl,l,rfl,by omega,λ p hp=>⟨p,l,rfl,upd_same,_,rfl,_,_,rfl,lenvS zl,.inl ⟨rfl,?_⟩⟩⟩
 have e3:(firsts l).length=l.length:=(firsts_all l).mpr hnd
 rw [e3,decide_eq_true rfl]
 exact q _ (g1.trans (same_new hp _))
def spDepth0 (K:PySem.W.Frag):L2.Sp:=λ vs H Q _=>∃ d:Nat,vs=[.int (d:Int)]/\d<=6/\Q (.bl true) H
theorem ok_Qbd (T:Txt K mg t):FnOk P w K mg base (CX1 P w) 2 t.a_Qbd t.fd_Qbd ["thing"] (spDepth0 K):=by
 refine T.F_Qbd.okn (k:=1) sc_Qbd (λ vs H Q E h=>?_) (λ cdv A outer s H vs Q E hr h=>?_)
 ·obtain ⟨d,rfl,_⟩:=h; rfl
 obtain ⟨d,rfl,hd,q⟩:=h
 have G_Qbc:=@ok_Qbc P w K mg base t T
 refine ⟨_,(pss_one (ps_ret (pe_and (pe_call G_Qbc hr rfl T.m_Qbc T.F_Qbc.kp T.b_Qbc .nil pass1 (pa_cons (pv 0) pa_nil)) (pe_one (pe_chain oLeA oLeA pe_int (pv 0) (pe_glob (v:=.int 6) rfl T.m_GREATEST_DEPTH ⟨_,rfl⟩)))))),?_⟩
 refine ⟨_,rfl,_,_,true,false,rfl,.int _,kit_same K _,kit_int_bool K,true,rfl,iteT ?_⟩
 refine ⟨_,rfl,.inl ⟨_,_,rfl,rfl,_,rfl,ifT (by show (0:Int)<=(d:Int); omega) (.inl ⟨_,_,rfl,rfl,?_⟩)⟩⟩
 try dsimp (config:={ proj:=false,eta:=false,zeta:=false,iota:=false }) only [tNil,tC]
 rw [decide_eq_true (show (d:Int)<=6 by omega)]
 exact q
def spMake0 (K:PySem.W.Frag):L2.Sp:=λ vs H Q _=>∃ (l:List Nat) (d:Nat),vs=[vt l,.int (d:Int)]/\2<=l.length/\l.length<=6/\l.Nodup/\(∀ c ∈ l,isSg c=true)/\d<=6/\∀ H' p,Same H H'->H' p=none->Q (.ref p) (upd H' p (.tup [vt l,.int (d:Int)]))
theorem ok_Qt (T:Txt K mg t):FnOk P w K mg base (CX1 P w) 4 t.a_Qt t.fd_Qt ["letters", "depth"] (spMake0 K):=by
 refine T.F_Qt.okx (k:=3) sc_Qt (λ vs H Q E h=>?_) (λ cdv A outer s H vs Q E hr h=>?_)
 ·obtain ⟨l,d,rfl,_⟩:=h; rfl
 obtain ⟨l,d,rfl,h2,h6,hnd,hsg,hd,q⟩:=h
 have G_Qn:=@ok_Qn P w K mg base t T
 have G_Qbd:=(@ok_Qbd P w K mg base t T).mono (show 2<=3 by decide)
 refine ⟨_,(pss_cons (ps_if (pt_not (pt_val (pe_call G_Qn hr rfl T.m_Qn T.F_Qn.kp T.b_Qn .nil pass1 (pa_cons (pv 0) pa_nil)))) (pss_one (ps_raise raises1 rfl rfl T.m_NoFrame T.x_NoFrame PySem.F.excBase_ValueError (pa_cons pe_str pa_nil))) pss_nil)
  (pss_cons (ps_if (pt_not (pt_val (pe_call G_Qbd hr rfl T.m_Qbd T.F_Qbd.kp T.b_Qbd .nil pass1 (pa_cons (pv 1) pa_nil)))) (pss_one (ps_raise raises1 rfl rfl T.m_NoFrame T.x_NoFrame PySem.F.excBase_ValueError (pa_cons pe_str pa_nil))) pss_nil)
  (pss_one (ps_ret (pe_tup (PAs.h (pas_cons (pv 0) (pas_cons (pv 1) pas_nil)))))))),?_⟩
 refine ⟨_,rfl,l,rfl,h2,h6,hnd,hsg,λ H1 g1=>⟨true,rfl,iteF ?_⟩⟩
 refine ⟨_,rfl,d,rfl,hd,true,rfl,iteF ?_⟩
 exact ⟨_,rfl,_,rfl,(by show 2<=sizeLine; decide),λ p hp=>q H1 p g1 hp⟩
def okL (l:List Nat):Prop:=2<=l.length/\l.length<=6/\l.Nodup/\∀ c ∈ l,isSg c=true
def spLettersG (K:PySem.W.Frag):L2.Sp:=λ vs H Q _=>∃ l,vs=[vt l]/\l.length<=4000/\∀ H' b,Same H H'->(b=true ↔ okL l)->Q (.bl b) H'
theorem ok_are_lettersG (T:Txt K mg t):FnOk P w K mg base (CX1 P w) 3 t.a_Qn t.fd_Qn ["thing"] (spLettersG K):=by
 refine T.F_Qn.okn (k:=2) sc_Qn (λ vs H Q E h=>?_) (λ cdv A outer s H vs Q E hr h=>?_)
 ·obtain ⟨l,rfl,_⟩:=h; rfl
 obtain ⟨l,rfl,hl,q⟩:=h
 have G_Qbk:=@ok_Qbk P w K mg base t T
 refine ⟨_,(pss_cons (ps_if (pt_not (pt_val (pe_call G_Qbk hr rfl T.m_Qbk T.F_Qbk.kp T.b_Qbk .nil pass1 (pa_cons (pv 0) pa_nil)))) (pss_one (ps_ret pe_bl)) pss_nil)
  (pss_one (ps_ret (pe_and (pe_chain oLeA oLeA (pe_glob (v:=.int 2) rfl T.m_FEWEST_LETTERS ⟨_,rfl⟩) (pe_callB call_len rfl T.m_len bt_len (pa_cons (pv 0) pa_nil)) (pe_glob (v:=.int 6) rfl T.m_MOST_LETTERS ⟨_,rfl⟩)) (pe_one (pe_cmpR (oEqA (hr.units0)) (pe_callB callLenSet rfl T.m_len bt_len (pa_cons (pe_callTy (callSet rfl) rfl T.m_set bt_set (pa_cons (pv 0) pa_nil)) pa_nil)) (pe_callB call_len rfl T.m_len bt_len (pa_cons (pv 0) pa_nil)) (nomark _))))))),?_⟩
 have zl:l.length<=sizeLine:=by rw [sizeLine_eq]; omega
 refine ⟨_,rfl,l,rfl,by omega,λ H1 g1=>?_⟩
 cases hsg:l.all isSg with
 | false =>
   refine ⟨false,rfl,iteT (q _ _ g1 ⟨λ e=>(nomatch e),λ ⟨_,_,_,e⟩=>?_⟩)⟩
   rw [List.all_eq_true.mpr e] at hsg; cases hsg
 | true =>
   have hsg':=List.all_eq_true.mp hsg
   refine ⟨true,rfl,iteF ?_⟩
   refine ⟨_,rfl,_,_,rfl,lenvS zl,.inl ⟨_,_,rfl,rfl,_,rfl,?_⟩⟩
   refine if2 (λ h2=>?_) (λ h2=>?_)
   ·refine .inl ⟨_,_,rfl,rfl,_,rfl,if2 (λ h6=>?_) (λ h6=>?_)⟩
    ·have h2':(2:Int)<=(l.length:Nat):=h2
     have h6':((l.length:Nat):Int)<=6:=h6
     refine ⟨_,rfl,l,rfl,by omega,λ p hp=>⟨p,l,rfl,upd_same,_,rfl,_,_,rfl,lenvS zl,.inl ⟨rfl,?_⟩⟩⟩
     refine q _ _ (g1.trans (same_new hp _)) ⟨λ e=>?_,λ ⟨_,_,nd,_⟩=>?_⟩
     ·have:=of_decide_eq_true e
      have e3:(firsts l).length=l.length:=by have:=V.int.inj this; omega
      exact ⟨by omega,by omega,(firsts_all l).mp e3,hsg'⟩
     ·rw [(firsts_all l).mpr nd]; exact decide_eq_true rfl
    ·exact q _ _ g1 ⟨λ e=>(nomatch e),λ ⟨_,e6,_⟩=>absurd (show ((l.length:Nat):Int)<=6 by omega) h6⟩
   ·exact ⟨false,rfl,iteF (q _ _ g1 ⟨λ e=>(nomatch e),λ ⟨e2,_⟩=>absurd (show (2:Int)<=(l.length:Nat) by omega) h2⟩)⟩
def spDepthG:L2.Sp:=λ vs H Q _=>∃ d:Nat,vs=[.int (d:Int)]/\Q (.bl (decide (d<=6))) H
theorem ok_is_depthG (T:Txt K mg t):FnOk P w K mg base (CX1 P w) 2 t.a_Qbd t.fd_Qbd ["thing"] spDepthG:=by
 refine T.F_Qbd.okn (k:=1) sc_Qbd (λ vs H Q E h=>?_) (λ cdv A outer s H vs Q E hr h=>?_)
 ·obtain ⟨d,rfl,_⟩:=h; rfl
 obtain ⟨d,rfl,q⟩:=h
 have G_Qbc:=@ok_Qbc P w K mg base t T
 refine ⟨_,(pss_one (ps_ret (pe_and (pe_call G_Qbc hr rfl T.m_Qbc T.F_Qbc.kp T.b_Qbc .nil pass1 (pa_cons (pv 0) pa_nil)) (pe_one (pe_chain oLeA oLeA pe_int (pv 0) (pe_glob (v:=.int 6) rfl T.m_GREATEST_DEPTH ⟨_,rfl⟩)))))),?_⟩
 refine ⟨_,rfl,_,_,true,false,rfl,.int _,kit_same K _,kit_int_bool K,true,rfl,iteT ?_⟩
 refine ⟨_,rfl,.inl ⟨_,_,rfl,rfl,_,rfl,ifT (by show (0:Int)<=(d:Int); omega) (.inl ⟨_,_,rfl,rfl,?_⟩)⟩⟩
 try dsimp (config:={ proj:=false,eta:=false,zeta:=false,iota:=false }) only [tNil,tC]
 rw [show decide ((d:Int)<=6)=decide (d<=6) from decide_eq_decide.mpr (by omega)]
 exact q
def chk (l:List Nat):Nat->Nat
 | 0=>0
 | n+1=>chk l n+l.getD n 0*(n+1)
def ckr (l:List Nat):Nat:=chk l l.length % 97
def cks (l:List Nat):List Nat:=[65+ckr l / 10,65+ckr l % 10]
def ckL:List Nat:=[65,66,67,68,69,70,71,72,73,74]
theorem ck_at {k:Nat} (h:k<10):ckL[k]?=some (65+k):=by
 match k,h with
 | 0,_=>rfl
 | 1,_=>rfl
 | 2,_=>rfl
 | 3,_=>rfl
 | 4,_=>rfl
 | 5,_=>rfl
 | 6,_=>rfl
 | 7,_=>rfl
 | 8,_=>rfl
 | 9,_=>rfl
 | n+10,h=>omega
theorem ck_str:V.str (Str.ofString "ABCDEFGHIJ")=vt ckL:=congrArg V.str (by decide +kernel)
theorem ckr_lt (l:List Nat):ckr l<97:=Nat.mod_lt _ (by decide)
def spCheck:L2.Sp:=λ vs H Q _=>∃ l:List Nat,vs=[vt l]/\l.length<=2000/\(∀ c ∈ l,c<16^8)/\∀ H',Same H H'->Q (vt (cks l)) H'
theorem ck_end {l:List Nat} {n:Int} (h:n=((chk l l.length:Nat):Int)):n % 97=((ckr l:Nat):Int):=by rw [h]; unfold ckr; omega
theorem ok_Qbf (T:Txt K mg t):FnOk P w K mg base (CX1 P w) 1 t.a_Qbf t.fd_Qbf ["body"] spCheck:=by
 refine T.F_Qbf.okn (k:=0) sc_Qbf (λ vs H Q E h=>?_) (λ cdv A outer s H vs Q E hr h=>?_)
 ·obtain ⟨l,rfl,_⟩:=h; rfl
 obtain ⟨l,rfl,hl,h16,q⟩:=h
 refine ⟨_,(pss_cons (ps_set (i:=1) sc_Qbf.nd rfl (Or.inl rfl) pe_int)
  (pss_cons (ps_for PassesOwn.never rfl (pi_enum1 rfl T.m_enumerate bt_enumerate (pv 0) pe_int) (pg_tup rfl (pgs_cons (pg_name (i:=2) sc_Qbf.nd rfl (Or.inl rfl)) (pgs_cons (pg_name (i:=3) sc_Qbf.nd rfl (Or.inl rfl)) pgs_nil))) (pss_one (ps_aug (i:=1) sc_Qbf.nd rfl (Or.inl rfl) (pe_op oMulN (pe_callB call_ord rfl T.m_ord bt_ord (pa_cons (pv 3) pa_nil)) (pv 2)) ipAdd)))
  (pss_cons (ps_set (i:=4) sc_Qbf.nd rfl (Or.inl rfl) (pe_op op_mod (pv 1) (pe_glob (v:=.int 97) rfl T.m_CHECK_DIVISOR ⟨_,rfl⟩)))
  (pss_one (ps_ret (pe_op oAddN (pe_ix ixAny (pe_glob (v:=.str "ABCDEFGHIJ") rfl T.m_CHECK_SIGNS ⟨_,rfl⟩) (pe_op op_fdivL (pv 4) pe_int) (λ _ _=>rfl)) (pe_ix ixAny (pe_glob (v:=.str "ABCDEFGHIJ") rfl T.m_CHECK_SIGNS ⟨_,rfl⟩) (pe_op op_mod (pv 4) pe_int) (λ _ _=>rfl)))))))),?_⟩
 refine ⟨_,rfl,l,rfl,rfl,?_⟩
 refine for_enum1 (l:=l) (K:=K) (λ i σ H'=>∃ r2 r3,σ=[some (vt l),some (.int ((chk l i:Nat):Int)),r2,r3,none]/\Same H H') ⟨_,_,rfl,Same.refl _⟩ ?_ ?_
 ·rintro i c _ H' p hc ⟨r2,r3,rfl,s1⟩ hp
  have hi:=(List.getElem?_eq_some_iff.mp hc).1
  have hcl:=h16 c (List.mem_of_getElem? hc)
  have hD:l.getD i 0=c:=by rw [List.getD_eq_getElem?_getD,hc]; rfl
  have s2:=new_same (o:=.tup [.int ((i+1:Nat):Int),vt [c]]) hp s1
  refine ⟨_,rfl,_,rfl,tx [c],rfl,rfl,_,rfl,.inl ⟨_,_,rfl,rfl,mulR (by omega) (by omega),.inl ⟨_,_,rfl,rfl,?_⟩⟩⟩
  refine ⟨some (.int ((i+1:Nat):Int)),some (vt [c]),?_,s2⟩
  show _=[some (vt l),some (.int ((chk l i+l.getD i 0*(i+1):Nat):Int)),_,_,none]
  rw [hD]; rfl
 ·rintro _ H' ⟨r2,r3,rfl,s1⟩
  have hr:=ckr_lt l
  refine ⟨_,rfl,_,_,rfl,rfl,(by show (0:Int)<97; decide),?_⟩
  try dsimp (config:={ proj:=false,eta:=false,zeta:=false,iota:=false }) only [tNil,tC]
  rw [ck_end rfl]
  rw [ck_str]
  have zc:ckL.length<=sizeLine:=by rw [sizeLine_eq]; decide
  refine ⟨_,rfl,_,_,rfl,rfl,cdivK (by decide) (by decide),?_⟩
  try dsimp (config:={ proj:=false,eta:=false,zeta:=false,iota:=false }) only [tNil,tC]
  rw [show ((ckr l:Nat):Int).fdiv 10=((ckr l / 10:Nat):Int) by rw [Int.fdiv_eq_ediv_of_nonneg _ (by decide)]; omega]
  refine ixS zc (atI_nat (ck_at (show ckr l / 10<10 by omega))) ?_
  refine ⟨_,rfl,_,_,rfl,rfl,(by show (0:Int)<10; decide),?_⟩
  try dsimp (config:={ proj:=false,eta:=false,zeta:=false,iota:=false }) only [tNil,tC]
  rw [show ((ckr l:Nat):Int) % 10=((ckr l % 10:Nat):Int) by omega]
  refine ixS zc (atI_nat (ck_at (show ckr l % 10<10 by omega))) (.inr (.inl (catX (by rw [sizeLine_eq]; show 1+1<=_; decide) ?_)))
  exact q H' s1
theorem ok_Qbu (T:Txt K mg t):FnOk P w K mg base (CX1 P w) 1 t.a_Qbu t.fd_Qbu ["text"] spCheck:=by
 refine T.F_Qbu.okn (k:=0) sc_Qbu (λ vs H Q E h=>?_) (λ cdv A outer s H vs Q E hr h=>?_)
 ·obtain ⟨l,rfl,_⟩:=h; rfl
 obtain ⟨l,rfl,hl,h16,q⟩:=h
 have zl:l.length<=sizeLine:=by rw [sizeLine_eq]; omega
 refine ⟨_,(pss_cons (ps_set (i:=1) sc_Qbu.nd rfl (Or.inl rfl) pe_int)
  (pss_cons (ps_for PassesOwn.never rfl (pi_range1 rfl T.m_range (pa_cons (pe_callB call_len rfl T.m_len bt_len (pa_cons (pv 0) pa_nil)) pa_nil)) (pg_name (i:=2) sc_Qbu.nd rfl (Or.inl rfl)) (pss_one (ps_set (i:=1) sc_Qbu.nd rfl (Or.inl rfl) (pe_op oAddN (pv 1) (pe_op oMulN (pe_callB call_ord rfl T.m_ord bt_ord (pa_cons (pe_ix ixAny (pv 0) (pv 2) (λ _ _=>rfl)) pa_nil)) (pe_op oAddN pe_int (pv 2)))))))
  (pss_one (ps_ret (pe_op oAddN (pe_ix ixAny pe_str (pe_op op_fdivL (pe_op op_mod (pv 1) pe_int) pe_int) (λ _ _=>rfl)) (pe_ix ixAny pe_str (pe_op op_mod (pe_op op_mod (pv 1) pe_int) pe_int) (λ _ _=>rfl))))))),?_⟩
 refine ⟨_,rfl,_,_,rfl,lenvS zl,_,rfl,by omega,by omega,?_⟩
 refine for_range (λ i σ H'=>∃ r2,σ=[some (vt l),some (.int ((chk l i:Nat):Int)),r2]/\H'=H) ⟨_,rfl,rfl⟩ ?_ ?_
 ·rintro i _ _ hi ⟨r2,rfl,rfl⟩
  have hil:i<l.length:=by omega
  have hc:=List.getElem?_eq_getElem hil
  generalize l[i]=c at hc
  have hD:l.getD i 0=c:=by rw [List.getD_eq_getElem?_getD,hc]; rfl
  have hcl:=h16 c (List.mem_of_getElem? hc)
  rw [Int.zero_add]
  refine ⟨_,rfl,_,rfl,_,rfl,ixS zl (atI_nat hc) ⟨tx [c],rfl,rfl,_,rfl,.inl ⟨_,_,rfl,rfl,.inl ⟨_,_,rfl,rfl,mulR (by omega) (by omega),.inl ⟨_,_,rfl,rfl,?_⟩⟩⟩⟩⟩
  refine ⟨some (.int (i:Int)),?_,rfl⟩
  show _=[some (vt l),some (.int ((chk l i+l.getD i 0*(i+1):Nat):Int)),some (.int (i:Int))]
  rw [hD]
  have e:((chk l i:Nat):Int)+((c:Nat):Int)*(1+(i:Int))=((chk l i+c*(i+1):Nat):Int):=by
   rw [Int.natCast_add,Int.natCast_mul,Int.natCast_add]; show _=_+(c:Int)*((i:Int)+1); rw [Int.add_comm 1]
  rw [← e]; rfl
 ·rintro _ _ ⟨r2,rfl,rfl⟩
  rw [Int.toNat_natCast]
  have hr:=ckr_lt l
  have zc:ckL.length<=sizeLine:=by rw [sizeLine_eq]; decide
  rw [ck_str]
  refine ⟨_,rfl,_,_,rfl,rfl,(by show (0:Int)<97; decide),_,_,rfl,rfl,cdivK (by decide) (by decide),?_⟩
  try dsimp (config:={ proj:=false,eta:=false,zeta:=false,iota:=false }) only [tNil,tC]
  rw [ck_end rfl,show ((ckr l:Nat):Int).fdiv 10=((ckr l / 10:Nat):Int) by rw [Int.fdiv_eq_ediv_of_nonneg _ (by decide)]; omega]
  refine ixS zc (atI_nat (ck_at (show ckr l / 10<10 by omega))) ?_
  refine ⟨_,rfl,_,_,rfl,rfl,(by show (0:Int)<97; decide),_,_,rfl,rfl,(by show (0:Int)<10; decide),?_⟩
  try dsimp (config:={ proj:=false,eta:=false,zeta:=false,iota:=false }) only [tNil,tC]
  rw [ck_end rfl,show ((ckr l:Nat):Int) % 10=((ckr l % 10:Nat):Int) by omega]
  refine ixS zc (atI_nat (ck_at (show ckr l % 10<10 by omega))) (.inr (.inl (catX (by rw [sizeLine_eq]; show 1+1<=_; decide) ?_)))
  exact q _ (Same.refl _)
def gsL:List Nat:=[97,98,99,100,101,102,103,104,105,106,107,108,109,110,111,112,113,114,115,116,117,118,119,120,121,122,50,51,52,53,54,55]
theorem gs_str:V.str (Str.ofString "abcdefghijklmnopqrstuvwxyz234567")=vt gsL:=congrArg V.str (by decide +kernel)
theorem gs_nd:gsL.Nodup:=by decide +kernel
def five (b:List Nat):List Nat:=b.take 5++List.replicate (5-b.length) 48
def grp:Nat->List Nat->List Nat
 | 0,_=>[]
 | n+1,b=>gsL.getD (valB (five b)).toNat 0::grp n (b.drop 5)
def grN (b:List Nat):Nat:=(b.length+4) / 5
theorem five_len (b:List Nat):(five b).length=5:=by
 unfold five
 rw [List.length_append,List.length_take,List.length_replicate]; omega
theorem five_all {b:List Nat} (h:b.all isB=true):(five b).all isB=true:=by
 rw [List.all_eq_true] at h ⊢
 intro c hc
 unfold five at hc
 rcases List.mem_append.mp hc with z | z
 ·exact h c (List.mem_of_mem_take z)
 ·rw [(List.mem_replicate.mp z).2]; rfl
theorem five_bd (b:List Nat):0<=valB (five b)/\valB (five b)<32:=by
 have h:=valB_bd (five b)
 rw [five_len] at h
 exact h
theorem grp_snoc:∀ (n:Nat) (b:List Nat),grp (n+1) b=grp n b++[gsL.getD (valB (five (b.drop (5*n)))).toNat 0]
 | 0,b=>rfl
 | n+1,b=>by
   show gsL.getD _ 0::grp (n+1) (b.drop 5)=(gsL.getD _ 0::grp n (b.drop 5))++_
   rw [grp_snoc n (b.drop 5),List.drop_drop,show 5*(n+1)=5+5*n by omega]; rfl
theorem grp_len:∀ (n:Nat) (b:List Nat),(grp n b).length=n
 | 0,_=>rfl
 | n+1,b=>by show (grp n (b.drop 5)).length+1=_; rw [grp_len n]
theorem gs_at {v:Int} (h0:0<=v) (h1:v<32):atI gsL v=some (gsL.getD v.toNat 0):=by
 obtain ⟨k,rfl⟩:=Int.eq_ofNat_of_zero_le h0
 have hk:k<gsL.length:=by show k<32; omega
 rw [atI_nat (List.getElem?_eq_getElem hk),Int.toNat_natCast,List.getD_eq_getElem?_getD,List.getElem?_eq_getElem hk]; rfl
theorem rng5 (n:Nat):(Builtin.Range.rangeSize 0 (n:Int) 5).toNat=(n+4) / 5:=by
 unfold Builtin.Range.rangeSize
 rw [if_pos (by decide)]
 split<;>omega
theorem cut5 (b:List Nat) (i:Nat) (h:5*i<=b.length):cutL b (some ((5*i:Nat):Int)) (some ((5*i:Nat)+5:Int))=(b.drop (5*i)).take 5:=by
 by_cases z:5*i+5<=b.length
 ·have:=cut_mid b (a:=5*i) (b:=5*i+5) (by omega) z
  rw [show ((5*i:Nat):Int)+5=((5*i+5:Nat):Int) by omega,this]
  congr 1; omega
 ·unfold cutL
  have e1:HT.sIx b.length 0 (some ((5*i:Nat):Int))=5*i:=by
   unfold HT.sIx; simp only; split<;>(try split)<;>omega
  have e2:HT.sIx b.length b.length (some (((5*i:Nat):Int)+5))=b.length:=by
   unfold HT.sIx; simp only; split<;>(try split)<;>omega
  rw [e1,e2,List.take_of_length_le (by rw [List.length_drop]; omega),List.take_of_length_le (by rw [List.length_drop]; omega)]
theorem s0_str:V.str (Str.ofString "0")=vt [48]:=congrArg V.str (by decide +kernel)
def spGrouped:L2.Sp:=λ vs H Q _=>∃ b:List Nat,vs=[vt b]/\b.length<=7000/\b.all isB=true/\Q (vt (grp (grN b) b)) H
theorem ok_Qbr (T:Txt K mg t):FnOk P w K mg base (CX1 P w) 2 t.a_Qbr t.fd_Qbr ["bits"] spGrouped:=by
 refine T.F_Qbr.okn (k:=1) sc_Qbr (λ vs H Q E h=>?_) (λ cdv A outer s H vs Q E hr h=>?_)
 ·obtain ⟨b,rfl,_⟩:=h; rfl
 obtain ⟨b,rfl,hl,hb,q⟩:=h
 have G_Qe:=@ok_Qe P w K mg base t T
 have zb:b.length<=sizeLine:=by rw [sizeLine_eq]; omega
 refine ⟨_,(pss_cons (ps_set (i:=1) sc_Qbr.nd rfl (Or.inl rfl) pe_str)
  (pss_cons (ps_for PassesOwn.never rfl (pi_range3 rfl T.m_range (PAs.h (pas_cons pe_int (pas_cons (pe_callB call_len rfl T.m_len bt_len (pa_cons (pv 0) pa_nil)) (pas_cons (pe_glob (v:=.int 5) rfl T.m_GROUP_SIZE ⟨_,rfl⟩) pas_nil))))) (pg_name (i:=2) sc_Qbr.nd rfl (Or.inl rfl)) (pss_cons (ps_set (i:=3) sc_Qbr.nd rfl (Or.inl rfl) (pe_bm PySem.F.plainAttrs_str PySem.F.slot_str_ljust PySem.F.type_str_ljust mt_ljust (pe_slice slAny (pv 0) (po_some (pv 2)) (po_some (pe_op oAddN (pv 2) (pe_glob (v:=.int 5) rfl T.m_GROUP_SIZE ⟨_,rfl⟩)))) (PAs.h (pas_cons (pe_glob (v:=.int 5) rfl T.m_GROUP_SIZE ⟨_,rfl⟩) (pas_cons pe_str pas_nil)))))
  (pss_one (ps_aug (i:=1) sc_Qbr.nd rfl (Or.inl rfl) (pe_ix ixAny (pe_glob (v:=.str "abcdefghijklmnopqrstuvwxyz234567") rfl T.m_GROUP_SIGNS ⟨_,rfl⟩) (pe_call G_Qe hr rfl T.m_Qe T.F_Qe.kp T.b_Qe .nil pass1 (pa_cons (pv 3) pa_nil)) (λ _ _=>rfl)) ipAdd))))
  (pss_one (ps_ret (pv 1))))),?_⟩
 rw [str_nil0,gs_str,s0_str]
 refine ⟨_,rfl,_,_,rfl,lenvS zb,_,_,_,rfl,⟨by decide,by decide,by omega,by omega,by decide,by decide⟩,?_⟩
 refine for_ranges (λ i σ H'=>∃ r2 r3,σ=[some (vt b),some (vt (grp i b)),r2,r3]/\H'=H) ⟨_,_,rfl,rfl⟩ ?_ ?_
 ·rintro i _ _ hi ⟨r2,r3,rfl,rfl⟩
  rw [rng5] at hi
  rw [show (0:Int)+(i:Int)*5=((5*i:Nat):Int) by omega]
  have h5:5*i<=b.length:=by omega
  refine ⟨_,rfl,_,rfl,_,rfl,_,rfl,.inl ⟨_,_,rfl,rfl,_,rfl,.inr (cutT zb ?_)⟩⟩
  rw [cut5 b i h5]
  refine ⟨rfl,(b.drop (5*i)).take 5,5,48,rfl,rfl,by decide,?_⟩
  have e5:(b.drop (5*i)).take 5++List.replicate (5-((b.drop (5*i)).take 5).length) 48=five (b.drop (5*i)):=by
   unfold five
   congr 2
   rw [List.length_take]; omega
  rw [e5]
  obtain ⟨v0,v1⟩:=five_bd (b.drop (5*i))
  have zg:gsL.length<=sizeLine:=by rw [sizeLine_eq]; decide
  have gl:=grp_len i b
  refine ⟨_,rfl,_,rfl,five (b.drop (5*i)),rfl,by rw [five_len]; decide,ixS zg (gs_at v0 v1) ?_⟩
  refine .inr ⟨_,_,rfl,rfl,by rw [gl,sizeLine_eq]; show _+1<=_; omega,?_⟩
  rw [← grp_snoc]
  exact ⟨_,_,rfl,rfl⟩
 ·rintro _ _ ⟨r2,r3,rfl,rfl⟩
  rw [rng5]
  exact ⟨_,rfl,q⟩
theorem vals_str (s:Str) (tg:Tok):Vals [V.str s] [Value.str s tg]:=Paired.cons (show RelV (V.str s) (Value.str s tg) from ⟨_,rfl⟩) Paired.nil
def dg (n:Nat):List Nat:=(Nat.toDigits 10 n).map Char.toNat
theorem str_dg (n:Nat):V.str (Str.ofString (toString ((n:Nat):Int)))=vt (dg n):=by
 have h:=PySem.W.KIN.signs_num n
 show V.str _=V.str (tx (dg n))
 unfold dg
 rw [← h]; rfl
theorem dg_one {n:Nat} (h:n<10):dg n=[48+n]:=by
 have go:∀ n ∈ List.range 10,dg n=[48+n]:=by decide +kernel
 exact go n (List.mem_range.mpr h)
def z3 (n:Nat):List Nat:=List.replicate (3-(dg n).length) 48++dg n
theorem dg_ok {n:Nat} (h:n<=100):(dg n).length<=3/\(dg n).all (λ c=>decide (48<=c) && decide (c<=57))=true/\(z3 n).length=3/\digV (z3 n)=n:=by
 have go:∀ n ∈ List.range 101,(dg n).length<=3/\(dg n).all (λ c=>decide (48<=c) && decide (c<=57))=true/\(z3 n).length=3/\digV (z3 n)=n:=by decide +kernel
 exact go n (List.mem_range.mpr (by omega))
theorem dg_fig {n:Nat} (h:n<=100):∀ c ∈ dg n,48<=c/\c<=57:=λ c hc=>by
 have:=List.all_eq_true.mp (dg_ok h).2.1 c hc
 simp only [Bool.and_eq_true,decide_eq_true_eq] at this
 exact this
theorem z3_fig {n:Nat} (h:n<=100):∀ c ∈ z3 n,48<=c/\c<=57:=λ c hc=>by
 rcases List.mem_append.mp hc with z | z
 ·rw [(List.mem_replicate.mp z).2]; decide
 ·exact dg_fig h c z
def hdr (L:List Nat) (d n:Nat):List Nat:=[48+d]++[48+L.length]++L++z3 n
def bdy (L:List Nat) (d n:Nat) (b:List Nat):List Nat:=hdr L d n++grp (grN b) b
def pkt (L:List Nat) (d n:Nat) (b:List Nat):List Nat:=bdy L d n b++cks (bdy L d n b)
theorem gs_lt:∀ c ∈ gsL,c<127:=by decide +kernel
theorem gsg_mem {v:Int} (h0:0<=v) (h1:v<32):gsL.getD v.toNat 0 ∈ gsL:=by
 have hk:v.toNat<gsL.length:=by show v.toNat<32; omega
 rw [List.getD_eq_getElem?_getD,List.getElem?_eq_getElem hk]
 exact List.getElem_mem _
theorem grp_mem:∀ (n:Nat) (b:List Nat),∀ c ∈ grp n b,c ∈ gsL
 | 0,_,_,h=>nomatch h
 | n+1,b,c,h=>by
   rcases List.mem_cons.mp h with rfl | h
   ·exact gsg_mem (five_bd b).1 (five_bd b).2
   ·exact grp_mem n _ c h
theorem hdr_len {L:List Nat} {d n:Nat} (h:n<=100):(hdr L d n).length=L.length+5:=by
 unfold hdr
 rw [List.length_append,List.length_append,List.length_append,(dg_ok h).2.2.1]
 show 1+1+L.length+3=_; omega
theorem bdy_16 {L:List Nat} {d n:Nat} {b:List Nat} (hd:d<=6) (hL:L.length<=6) (h16:∀ c ∈ L,c<16^8) (hn:n<=100):∀ c ∈ bdy L d n b,c<16^8:=λ c hc=>by
 rcases List.mem_append.mp hc with hc | hc
 ·rcases List.mem_append.mp hc with hc | hc
  ·rcases List.mem_append.mp hc with hc | hc
   ·rcases List.mem_append.mp hc with hc | hc
    ·cases List.mem_singleton.mp hc; omega
    ·cases List.mem_singleton.mp hc; omega
   ·exact h16 c hc
  ·have:=(z3_fig hn c hc).2; omega
 ·have:=gs_lt c (grp_mem _ _ c hc); omega
theorem log_small {n:Nat} (h:n<=1000):((n:Nat):Int).natAbs.log2<1920:=by
 rw [Int.natAbs_natCast]
 exact Nat.lt_of_le_of_lt (Nat.log2_le_self n) (by omega)
def spWrap (K:PySem.W.Frag) (C:Addr):L2.Sp:=λ vs H Q E=>∃ (fr:Addr) (f:Nat) (L:List Nat) (d:Nat) (l:List Nat),vs=[.ref fr,vt l]/\SqT K H fr [vt (f::L),.int d]/\d<=6/\(f::L).length<=6/\(∀ c ∈ f::L,c<16^8)/\(∀ c ∈ l,c<16^8)/\
 ((∃ c ∈ l,c ∉ f::L)->E (.ref C) none H)/\((∀ c ∈ l,c ∈ f::L)->l.length<=100/\Bp.Sp (f::L) f d l.length/\tb d l.length+tb d 0<6300/\∀ H' b,Same H H'->BitsIn (LoW (f::L) f d [] l) (WiW (f::L) f d [] l) (WhW (f::L) f d [] l) b->Q (vt (pkt (f::L) d l.length b)) H')
theorem ok_wrap (T:Txt K mg t):FnOk P w K mg base (CX1 P w) 11 t.a_wrap t.fd_wrap ["frame", "text"] (spWrap K t.c_NoText):=by
 refine T.F_wrap.okx (k:=10) sc_wrap (λ vs H Q E h=>?_) (λ cdv A outer s H vs Q E hr h=>?_)
 ·obtain ⟨fr,f,L,d,l,rfl,_⟩:=h; rfl
 obtain ⟨fr,f,L,d,l,rfl,hF,hd,hL6,h16,hl16,q1,q2⟩:=h
 have G_Qcc:=@ok_Qcc P w K mg base t T
 have G_Qbr:=(@ok_Qbr P w K mg base t T).mono (show 2<=10 by decide)
 have G_Qbf:=(@ok_Qbf P w K mg base t T).mono (show 1<=10 by decide)
 have zL:(f::L).length<=sizeLine:=by rw [sizeLine_eq]; omega
 refine ⟨_,(pss_cons (ps_set (i:=2) sc_wrap.nd rfl (Or.inl rfl) (pe_ix ixAny (pv 0) pe_int (λ _ _=>rfl)))
  (pss_cons (ps_set (i:=3) sc_wrap.nd rfl (Or.inl rfl) (pe_call G_Qcc hr rfl T.m_Qcc T.F_Qcc.kp T.bd_Qcc (vals_str _ _) passes1 (PAs.h (pas_cons (pv 0) (pas_cons (pv 1) pas_nil)))))
  (pss_cons (ps_set (i:=4) sc_wrap.nd rfl (Or.inl rfl) (pe_op oAddN (pe_op oAddN (pe_op oAddN (pe_op oAddN (pe_callTy call_str_int rfl T.m_str bt_str (pa_cons (pe_ix ixAny (pv 0) pe_int (λ _ _=>rfl)) pa_nil)) (pe_callTy call_str_int rfl T.m_str bt_str (pa_cons (pe_callB call_len rfl T.m_len bt_len (pa_cons (pv 2) pa_nil)) pa_nil))) (pv 2)) (pe_bm PySem.F.plainAttrs_str PySem.F.slot_str_zfill PySem.F.type_str_zfill mt_zfill (pe_callTy call_str_int rfl T.m_str bt_str (pa_cons (pe_callB call_len rfl T.m_len bt_len (pa_cons (pv 1) pa_nil)) pa_nil)) (pa_cons (pe_glob (v:=.int 3) rfl T.m_LENGTH_SIZE ⟨_,rfl⟩) pa_nil))) (pe_call G_Qbr hr rfl T.m_Qbr T.F_Qbr.kp T.b_Qbr .nil pass1 (pa_cons (pv 3) pa_nil))))
  (pss_one (ps_ret (pe_op oAddN (pv 4) (pe_call G_Qbf hr rfl T.m_Qbf T.F_Qbf.kp T.b_Qbf .nil pass1 (pa_cons (pv 4) pa_nil)))))))),?_⟩
 refine ⟨_,rfl,ixT hF rfl ?_⟩
 refine ⟨_,rfl,_,rfl,fr,f,L,d,l,[],by rw [← str_nil0]; rfl,hF,hl16,λ c h=>(nomatch h),λ ⟨c,h,_⟩=>(nomatch h),λ _ hb=>q1 hb,λ _ ya=>?_⟩
 obtain ⟨hll,P0,htb,q⟩:=q2 ya
 have zl:l.length<=sizeLine:=by rw [sizeLine_eq]; omega
 refine ⟨P0,htb,λ H1 b s1 hb=>?_⟩
 have hF1:=same_tup s1 hF
 have bl:=hb.len
 have gl:=grp_len (grN b) b
 have gN:grN b<=1400:=by unfold grN; omega
 obtain ⟨g1,g2,g3,g4⟩:=dg_ok hll
 refine ⟨_,rfl,ixT hF1 rfl ⟨_,rfl,log_small (n:=d) (by omega),?_⟩⟩
 rw [str_dg,dg_one (show d<10 by omega)]
 refine ⟨_,rfl,_,_,rfl,lenvS zL,_,rfl,log_small (n:=(f::L).length) (by omega),?_⟩
 rw [str_dg,dg_one (show (f::L).length<10 by omega)]
 refine .inr (.inl (catX (by rw [sizeLine_eq]; show 1+1<=_; decide) ?_))
 refine ⟨_,rfl,.inr (.inl (catX (by rw [sizeLine_eq]; show 2+_<=_; omega) ?_))⟩
 refine ⟨_,rfl,_,_,rfl,lenvS zl,_,rfl,log_small (n:=l.length) (by omega),?_⟩
 rw [str_dg]
 refine ⟨rfl,dg l.length,3,rfl,rfl,by decide,dg_fig hll,?_⟩
 refine .inr (.inl (catX (by rw [sizeLine_eq]; show ([48+d]++[48+(f::L).length]++(f::L)).length+(z3 l.length).length<=_; rw [g3,List.length_append]; show 2+_+3<=_; omega) ?_))
 refine ⟨_,rfl,b,rfl,by omega,hb.all,.inr (.inl (catX ?_ ?_))⟩
 ·rw [sizeLine_eq,gl]
  show (hdr (f::L) d l.length).length+_<=_
  rw [hdr_len hll]; omega
 have ebl:(bdy (f::L) d l.length b).length=(f::L).length+5+grN b:=by unfold bdy; rw [List.length_append,hdr_len hll,gl]
 show gName 4 (vt (bdy (f::L) d l.length b)) _ _ _
 refine ⟨_,rfl,_,rfl,bdy (f::L) d l.length b,rfl,by omega,bdy_16 hd hL6 h16 hll,λ H2 s2=>.inr (.inl (catX (by rw [sizeLine_eq,ebl]; show _+2<=_; omega) ?_))⟩
 exact q H2 b (s1.trans s2) hb
def isF (c:Nat):Bool:=decide (c ∈ [48,49,50,51,52,53,54,55,56,57])
theorem fig_str:V.str (Str.ofString "0123456789")=vt [48,49,50,51,52,53,54,55,56,57]:=congrArg V.str (by decide +kernel)
theorem isF_of {c:Nat} (h:48<=c/\c<=57):isF c=true:=by
 unfold isF
 refine decide_eq_true ?_
 simp only [List.mem_cons,List.not_mem_nil,or_false]
 omega
def fV:V->V
 | .str z=>.bl (isF (z.cps.toList.headD 0))
 | v=>v
def spFig (K:PySem.W.Frag):L2.Sp:=λ vs H Q _=>∃ l,vs=[vt l]/\l.length<=10000/\∀ H',Same H H'->Q (.bl (l.all isF)) H'
theorem ok_Qm (T:Txt K mg t):FnOk P w K mg base (CX1 P w) 1 t.a_Qm t.fd_Qm ["text"] (spFig K):=by
 refine T.F_Qm.okn (k:=0) sc_Qm (λ vs H Q E h=>?_) (λ cdv A outer s H vs Q E hr h=>?_)
 ·obtain ⟨l,rfl,_⟩:=h; rfl
 obtain ⟨l,rfl,hl,q⟩:=h
 refine ⟨_,(pss_one (ps_ret (pe_callB (callAll rfl) rfl T.m_all bt_all (pa_cons (pe_lc (compSc_of (N:=["sign"]) (cap:=[none]) (by kernel_rfl)) rfl (piAny (pv 0)) ⟨λ _=>(pg_name (i:=0) (show List.Nodup (["sign"]:List Str) by decide +kernel) rfl (Or.inl rfl)),λ _=>pf_nil,λ _=>(pe_cmpR oIn (pv 0) (pe_glob (v:=.str "0123456789") rfl T.m_FIGURES ⟨_,rfl⟩) (by with_unfolding_all rfl))⟩) pa_nil)))),?_⟩
 refine ⟨_,rfl,.inr (.inr ⟨_,rfl,λ D hD cp=>?_⟩)⟩
 refine lc_pure (walk_tx l) (caps:=[]) (λ _=>true) fV (λ _=>trivial) (by rw [List.length_map,sizeLine_eq]; omega) ?_ ?_
 ·intro i x ys R hx hy h1 _
  obtain ⟨c,_,rfl⟩:=sign_at hx
  refine lc_true ⟨_,rfl,?_⟩
  rw [fig_str]
  refine .inl ⟨c,_,rfl,rfl,ys,upd_same,hy,?_⟩
  rw [upd_upd,if_neg Bool.false_ne_true]; exact h1 rfl
 have e:((l.map λ c=>vt [c]).filter λ _=>true).map fV=(l.map isF).map V.bl:=by
  rw [List.filter_eq_self.mpr (λ _ _=>rfl),List.map_map,List.map_map]; rfl
 rw [e]
 refine ⟨D,l.map isF,rfl,SqL.of upd_same,?_⟩
 rw [List.all_map]
 exact q _ (same_new hD _)
def padB (b:List Nat):List Nat:=b++List.replicate (5*grN b-b.length) 48
def fil:Nat->List Nat->List (List Nat)
 | 0,_=>[]
 | n+1,b=>five b::fil n (b.drop 5)
theorem fil_len:∀ (n:Nat) (b:List Nat),(fil n b).length=n
 | 0,_=>rfl
 | n+1,b=>by show (fil n (b.drop 5)).length+1=_; rw [fil_len n]
theorem fil_flat:∀ (n:Nat) (b:List Nat),b.length<=5*n->5*n<b.length+5->(fil n b).flatten=b++List.replicate (5*n-b.length) 48
 | 0,b,h,_=>by
   have:b=[]:=List.length_eq_zero_iff.mp (by omega)
   subst this; rfl
 | n+1,b,h,h'=>by
   show five b++(fil n (b.drop 5)).flatten=_
   by_cases z:n=0
   ·subst z
    show five b++[]=_
    rw [List.append_nil]
    unfold five
    rw [List.take_of_length_le (by omega)]
   ·rw [fil_flat n (b.drop 5) (by rw [List.length_drop]; omega) (by rw [List.length_drop]; omega)]
    unfold five
    rw [show 5-b.length=0 by omega,List.replicate_zero,List.append_nil,← List.append_assoc,List.take_append_drop,List.length_drop]
    congr 2; omega
theorem pad_fil (b:List Nat):(fil (grN b) b).flatten=padB b:=fil_flat _ _ (by unfold grN; omega) (by unfold grN; omega)
theorem fil_get:∀ (n:Nat) (b:List Nat) (j:Nat),j<n->(fil n b)[j]?=some (five (b.drop (5*j)))/\(grp n b)[j]?=some (gsL.getD (valB (five (b.drop (5*j)))).toNat 0)
 | 0,_,_,h=>absurd h (by omega)
 | n+1,b,0,_=>⟨rfl,rfl⟩
 | n+1,b,j+1,h=>by
   obtain ⟨h1,h2⟩:=fil_get n (b.drop 5) j (by omega)
   rw [List.drop_drop,show 5+5*j=5*(j+1) by omega] at h1 h2
   exact ⟨h1,h2⟩
theorem gs_inv {v:Int} (h0:0<=v) (h1:v<32) {j:Nat} (hj:gsL[j]?=some (gsL.getD v.toNat 0)):(j:Int)=v:=by
 have hk:v.toNat<gsL.length:=by show v.toNat<32; omega
 have e:gsL[v.toNat]?=some (gsL.getD v.toNat 0):=by rw [List.getD_eq_getElem?_getD,List.getElem?_eq_getElem hk]; rfl
 have:=at_uniq gs_nd e hj
 omega
def inG:V->V
 | .str z=>.bl (decide (z.cps.toList.headD 0 ∈ gsL))
 | v=>v
def spNumG (C:Addr):L2.Sp:=λ vs H Q E=>∃ (l:List Nat) (n:Nat),vs=[vt l,.int (n:Int)]/\1<=n/\n<=3/\l.length<=4000/\(¬ (l.length=n/\l.all isF=true)->∀ H',Same H H'->E (.ref C) none H')/\
 (l.length=n->l.all isF=true->∀ H',Same H H'->Q (.int ((digV l:Nat):Int)) H')
theorem isF_iff {c:Nat} (h:isF c=true):48<=c/\c<=57:=by
 have:=of_decide_eq_true h
 simp only [List.mem_cons,List.not_mem_nil,or_false] at this
 omega
theorem ok_number_inG (T:Txt K mg t):FnOk P w K mg base (CX1 P w) 2 t.a_Qy t.fd_Qy ["text", "many"] (spNumG t.c_NoPacket):=by
 refine T.F_Qy.okx (k:=1) sc_Qy (λ vs H Q E h=>?_) (λ cdv A outer s H vs Q E hr h=>?_)
 ·obtain ⟨l,n,rfl,_⟩:=h; rfl
 obtain ⟨l,n,rfl,hn1,hn3,hl,qe,q⟩:=h
 have G_Qm:=@ok_Qm P w K mg base t T
 have zl:l.length<=sizeLine:=by rw [sizeLine_eq]; omega
 refine ⟨_,(pss_cons (ps_if (PW.pt (pw_or (pt_cmpR (oNeN (hr.units0)) (pe_callB call_len rfl T.m_len bt_len (pa_cons (pv 0) pa_nil)) (pv 1) (nomark _)) (pw_or1 (pt_not (pt_val (pe_call G_Qm hr rfl T.m_Qm T.F_Qm.kp T.b_Qm .nil pass1 (pa_cons (pv 0) pa_nil))))))) (pss_one (ps_raise raises1 rfl rfl T.m_NoPacket T.x_NoPacket PySem.F.excBase_ValueError (pa_cons pe_str pa_nil))) pss_nil)
  (pss_one (ps_ret (pe_callTy call_intT rfl T.m_int bt_int (pa_cons (pv 0) pa_nil))))),?_⟩
 refine ⟨_,rfl,_,_,rfl,lenvS zl,_,rfl,.inl ⟨rfl,_,rfl,ifn2 (λ hne=>?_) (λ heq=>?_)⟩⟩
 ·exact ⟨by decide,qe (λ ⟨e,_⟩=>hne (by rw [e])) _ (Same.refl _)⟩
 have hln:l.length=n:=by have:=V.int.inj heq; omega
 refine ⟨_,rfl,l,rfl,by omega,λ H1 s1=>?_⟩
 cases ha:l.all isF with
 | false=>exact ⟨false,rfl,iteT ⟨by decide,qe (λ ⟨_,e⟩=>by rw [ha] at e; cases e) _ s1⟩⟩
 | true =>
   refine ⟨true,rfl,iteF ?_⟩
   exact ⟨_,rfl,l,rfl,(λ e=>by rw [e] at hln; simp at hln; omega),by omega,λ c hc=>isF_iff (List.all_eq_true.mp ha c hc),q hln ha H1 s1⟩
def spUFrG (C:Addr):L2.Sp:=λ vs H Q E=>∃ (l:List Nat) (d:Nat),vs=[.int (d:Int),vt l]/\l.length<=4000/\(¬ (okL l/\d<=6)->∀ H',Same H H'->E (.ref C) none H')/\(okL l->d<=6->∀ H' p,Same H H'->H' p=some (.tup [vt l,.int (d:Int)])->Q (.ref p) H')
theorem ok_unpacked_frameG (T:Txt K mg t):FnOk P w K mg base (CX1 P w) 5 t.a_Qf t.fd_Qf ["depth", "letters"] (spUFrG t.c_NoPacket):=by
 refine T.F_Qf.okx (k:=4) sc_Qf (λ vs H Q E h=>?_) (λ cdv A outer s H vs Q E hr h=>?_)
 ·obtain ⟨l,d,rfl,_⟩:=h; rfl
 obtain ⟨l,d,rfl,hl,qe,q⟩:=h
 have G_Qn:=(@ok_are_lettersG P w K mg base t T).mono (show 3<=4 by decide)
 have G_Qbd:=(@ok_is_depthG P w K mg base t T).mono (show 2<=4 by decide)
 have G_Qt:=@ok_Qt P w K mg base t T
 refine ⟨_,(pss_cons (ps_if (PW.pt (pw_or (pt_not (pt_val (pe_call G_Qn hr rfl T.m_Qn T.F_Qn.kp T.b_Qn .nil pass1 (pa_cons (pv 1) pa_nil)))) (pw_or1 (pt_not (pt_val (pe_call G_Qbd hr rfl T.m_Qbd T.F_Qbd.kp T.b_Qbd .nil pass1 (pa_cons (pv 0) pa_nil))))))) (pss_one (ps_raise raises1 rfl rfl T.m_NoPacket T.x_NoPacket PySem.F.excBase_ValueError (pa_cons pe_str pa_nil))) pss_nil)
  (pss_one (ps_ret (pe_call G_Qt hr rfl T.m_Qt T.F_Qt.kp T.b_Qt .nil passes1 (PAs.h (pas_cons (pv 1) (pas_cons (pv 0) pas_nil))))))),?_⟩
 refine ⟨_,rfl,l,rfl,hl,λ H1 b g1 hb=>?_⟩
 cases b with
 | false=>exact ⟨false,rfl,iteT ⟨by decide,qe (λ ⟨e,_⟩=>by cases hb.mpr e) _ g1⟩⟩
 | true =>
   have ok:=hb.mp rfl
   refine ⟨true,rfl,iteF ?_⟩
   refine ⟨_,rfl,d,rfl,?_⟩
   by_cases hd:d<=6
   ·rw [decide_eq_true hd]
    refine ⟨true,rfl,iteF ?_⟩
    obtain ⟨h2,h6,hnd,hsg⟩:=ok
    exact ⟨_,rfl,_,rfl,l,d,rfl,h2,h6,hnd,hsg,hd,λ H2 p s2 hp=>q ⟨h2,h6,hnd,hsg⟩ hd _ p (new_same hp (g1.trans s2)) upd_same⟩
   ·rw [decide_eq_false hd]
    exact ⟨false,rfl,iteT ⟨by decide,qe (λ ⟨_,e⟩=>hd e) _ g1⟩⟩
def spULenG (C:Addr):L2.Sp:=λ vs H Q E=>∃ l:List Nat,vs=[vt l]/\l.length<=4000/\(¬ (l.length=3/\l.all isF=true/\digV l<=100)->∀ H',Same H H'->E (.ref C) none H')/\
 (l.length=3->l.all isF=true->digV l<=100->∀ H',Same H H'->Q (.int ((digV l:Nat):Int)) H')
theorem ok_unpacked_lengthG (T:Txt K mg t):FnOk P w K mg base (CX1 P w) 3 t.a_Qd t.fd_Qd ["text"] (spULenG t.c_NoPacket):=by
 refine T.F_Qd.okx (k:=2) sc_Qd (λ vs H Q E h=>?_) (λ cdv A outer s H vs Q E hr h=>?_)
 ·obtain ⟨n,rfl,_⟩:=h; rfl
 obtain ⟨l,rfl,hl,qe,q⟩:=h
 have G_Qy:=@ok_number_inG P w K mg base t T
 refine ⟨_,(pss_cons (ps_set (i:=1) sc_Qd.nd rfl (Or.inl rfl) (pe_call G_Qy hr rfl T.m_Qy T.F_Qy.kp T.b_Qy .nil passes1 (PAs.h (pas_cons (pv 0) (pas_cons (pe_glob (v:=.int 3) rfl T.m_LENGTH_SIZE ⟨_,rfl⟩) pas_nil)))))
  (pss_cons (ps_if (pt_cmpR op_gt (pv 1) (pe_glob (v:=.int 100) rfl T.m_MOST_SIGNS ⟨_,rfl⟩) (nomark _)) (pss_one (ps_raise raises1 rfl rfl T.m_NoPacket T.x_NoPacket PySem.F.excBase_ValueError (pa_cons pe_str pa_nil))) pss_nil)
  (pss_one (ps_ret (pv 1))))),?_⟩
 refine ⟨_,rfl,l,3,rfl,by decide,by decide,hl,λ hno H1 s1=>qe (λ ⟨a,b,_⟩=>hno ⟨a,b⟩) H1 s1,λ h3 ha H1 s1=>?_⟩
 refine ⟨_,rfl,_,_,rfl,rfl,_,rfl,if2 (λ z=>?_) (λ z=>?_)⟩
 ·have z':((digV l:Nat):Int)>100:=z
  exact ⟨by decide,qe (λ ⟨_,_,e⟩=>by omega) _ s1⟩
 ·have z':¬ ((digV l:Nat):Int)>100:=z
  exact ⟨_,rfl,q h3 ha (by omega) H1 s1⟩
theorem cut_cks (b:List Nat):cutL (b++cks b) none (some (-2))=b:=by
 have hcl:(b++cks b).length=b.length+2:=by rw [List.length_append]; rfl
 unfold cutL
 have e1:HT.sIx (b++cks b).length 0 none=0:=rfl
 have e2:HT.sIx (b++cks b).length (b++cks b).length (some (-2))=b.length:=by
  rw [hcl]; unfold HT.sIx; simp only; split<;>(try split)<;>omega
 rw [e1,e2,Nat.sub_zero,List.drop_zero,List.take_append_of_le_length (Nat.le_refl _),List.take_length]
theorem cut_sub {l:List Nat} {a b:Option Int}:∀ c ∈ cutL l a b,c ∈ l:=λ c hc=>by
 unfold cutL at hc
 exact List.mem_of_mem_drop (List.mem_of_mem_take hc)
theorem cut_le (l:List Nat) (a b:Option Int):(cutL l a b).length<=l.length:=by
 unfold cutL
 rw [List.length_take,List.length_drop]; omega
def spCBodyG (C:Addr):L2.Sp:=λ vs H Q E=>∃ pk:List Nat,vs=[vt pk]/\pk.length<=2000/\(∀ c ∈ pk,c<16^8)/\((∀ b,pk ≠ b++cks b)->∀ H',Same H H'->E (.ref C) none H')/\∀ b H',Same H H'->pk=b++cks b->Q (vt b) H'
theorem ok_checked_bodyG (T:Txt K mg t):FnOk P w K mg base (CX1 P w) 2 t.a_Qk t.fd_Qk ["packet"] (spCBodyG t.c_NoPacket):=by
 refine T.F_Qk.okx (k:=1) sc_Qk (λ vs H Q E h=>?_) (λ cdv A outer s H vs Q E hr h=>?_)
 ·obtain ⟨b,rfl,_⟩:=h; rfl
 obtain ⟨pk,rfl,hl,h16,qe,q⟩:=h
 have G_Qbf:=@ok_Qbf P w K mg base t T
 have z:pk.length<=sizeLine:=by rw [sizeLine_eq]; omega
 have hcl:=cut_le pk none (some (-2))
 refine ⟨_,(pss_cons (ps_set (i:=1) sc_Qk.nd rfl (Or.inl rfl) (pe_slice slAny (pv 0) po_none (po_some (pe_un un_neg (pe_glob (v:=.int 2) rfl T.m_CHECK_SIZE ⟨_,rfl⟩)))))
  (pss_cons (ps_if (pt_cmpR (oNeN (hr.units0)) (pe_op oAddN (pv 1) (pe_call G_Qbf hr rfl T.m_Qbf T.F_Qbf.kp T.b_Qbf .nil pass1 (pa_cons (pv 1) pa_nil))) (pv 0) (nomark _)) (pss_one (ps_raise raises1 rfl rfl T.m_NoPacket T.x_NoPacket PySem.F.excBase_ValueError (pa_cons pe_str pa_nil))) pss_nil)
  (pss_one (ps_ret (pv 1))))),?_⟩
 refine ⟨_,rfl,2,rfl,_,rfl,.inr (cutT z ?_)⟩
 have hc16:∀ c ∈ cutL pk none (some (-2)),c<16^8:=λ c hc=>h16 c (cut_sub c hc)
 have hcc:∀ b,pk=b++cks b->cutL pk none (some (-2))=b:=λ b e=>by rw [e]; exact cut_cks b
 show gName _ (vt (cutL pk none (some (-2)))) _ _ _
 generalize cutL pk none (some (-2))=bb at hcl hc16 hcc ⊢
 refine ⟨_,rfl,_,rfl,bb,rfl,by omega,hc16,λ H1 s1=>.inr (.inl (catX (by rw [sizeLine_eq]; show bb.length+2<=_; omega) ?_))⟩
 refine ⟨_,rfl,.inl ⟨rfl,_,rfl,ifn2 (λ hne=>?_) (λ heq=>?_)⟩⟩
 ·refine ⟨by decide,qe (λ b e=>hne ?_) _ s1⟩
  have e1:=hcc b e
  subst e1
  rw [e]
 ·exact ⟨_,rfl,q bb H1 s1 (vtx.mp heq).symm⟩
def spFilledG (C:Addr):L2.Sp:=λ vs H Q E=>∃ g:List Nat,vs=[vt g]/\g.length<=1400/\(¬ (∀ c ∈ g,c ∈ gsL)->∀ H',Same H H'->E (.ref C) none H')/\
 ∀ l H',Same H H'->(∀ c ∈ g,c ∈ gsL)->l.all isB=true->l.length=5*g.length->(∀ b:List Nat,b.all isB=true->g=grp (grN b) b->l=padB b)->Q (vt l) H'
def Told (g:List Nat) (j:Nat) (x:List Nat):Prop:=x.length=5/\x.all isB=true/\∀ c k:Nat,g[j]?=some c->gsL[k]?=some c->valB x=(k:Int)
theorem told_len {g:List Nat}:∀ {xs:List (List Nat)},(∀ j x,xs[j]?=some x->Told g j x)->xs.flatten.length=5*xs.length/\xs.flatten.all isB=true:=by
 intro xs
 have go:∀ ys:List (List Nat),(∀ x ∈ ys,x.length=5/\x.all isB=true)->ys.flatten.length=5*ys.length/\ys.flatten.all isB=true:=by
  intro ys
  induction ys with
  | nil=>intro _; exact ⟨rfl,rfl⟩
  | cons y ys ih =>
    intro h
    obtain ⟨i1,i2⟩:=ih λ x hx=>h x (List.mem_cons_of_mem _ hx)
    obtain ⟨h1,h2⟩:=h y List.mem_cons_self
    refine ⟨?_,?_⟩
    ·rw [List.flatten_cons,List.length_append,i1,h1,List.length_cons]; omega
    ·rw [List.flatten_cons,List.all_append,h2,i2]; rfl
 intro h
 refine go xs λ x hx=>?_
 obtain ⟨j,hj⟩:=List.getElem?_of_mem hx
 exact ⟨(h j x hj).1,(h j x hj).2.1⟩
theorem told_pad {b:List Nat} (hb:b.all isB=true) {xs:List (List Nat)} (hl:xs.length=grN b) (h:∀ j x,xs[j]?=some x->Told (grp (grN b) b) j x):xs.flatten=padB b:=by
 rw [← pad_fil]
 congr 1
 refine List.ext_getElem? λ j=>?_
 by_cases z:j<grN b
 ·obtain ⟨f1,f2⟩:=fil_get (grN b) b j z
  have h1:=List.getElem?_eq_getElem (show j<xs.length by omega)
  obtain ⟨t1,t2,t3⟩:=h j _ h1
  have hbd:=five_bd (b.drop (5*j))
  have hk:(valB (five (b.drop (5*j)))).toNat<gsL.length:=by show _<32; omega
  have e:gsL[(valB (five (b.drop (5*j)))).toNat]?=some (gsL.getD (valB (five (b.drop (5*j)))).toNat 0):=by rw [List.getD_eq_getElem?_getD,List.getElem?_eq_getElem hk]; rfl
  have t4:=t3 _ _ f2 e
  rw [h1,f1]
  congr 1
  refine bits_inj _ _ (by rw [t1,five_len]) t2 (five_all ?_) (by rw [t4]; omega)
  rw [List.all_eq_true] at hb ⊢
  exact λ c hc=>hb c (List.mem_of_mem_drop hc)
 ·rw [List.getElem?_eq_none (by omega),List.getElem?_eq_none (by rw [fil_len]; omega)]
theorem ok_filled_bitsG (T:Txt K mg t):FnOk P w K mg base (CX1 P w) 2 t.a_Qp t.fd_Qp ["groups"] (spFilledG t.c_NoPacket):=by
 refine T.F_Qp.okx (k:=1) sc_Qp (λ vs H Q E h=>?_) (λ cdv A outer s H vs Q E hr h=>?_)
 ·obtain ⟨b,rfl,_⟩:=h; rfl
 obtain ⟨g,rfl,hl,qe,q⟩:=h
 have G_Qi:=@ok_Qi P w K mg base t T
 refine ⟨_,(pss_cons (ps_if (pt_not (pt_val (pe_callB (callAll rfl) rfl T.m_all bt_all (pa_cons (pe_lc (compSc_of (N:=["sign"]) (cap:=[none]) (by kernel_rfl)) rfl (piAny (pv 0)) ⟨λ _=>(pg_name (i:=0) (show List.Nodup (["sign"]:List Str) by decide +kernel) rfl (Or.inl rfl)),λ _=>pf_nil,λ _=>(pe_cmpR oIn (pv 0) (pe_glob (v:=.str "abcdefghijklmnopqrstuvwxyz234567") rfl T.m_GROUP_SIGNS ⟨_,rfl⟩) (by with_unfolding_all rfl))⟩) pa_nil)))) (pss_one (ps_raise raises1 rfl rfl T.m_NoPacket T.x_NoPacket PySem.F.excBase_ValueError (pa_cons pe_str pa_nil))) pss_nil)
  (pss_one (ps_ret (pe_bm PySem.F.plainAttrs_str PySem.F.slot_str_join PySem.F.type_str_join mt_join pe_str (pa_cons (pe_lc (compSc_of (N:=["sign"]) (cap:=[none]) (by kernel_rfl)) rfl (piAny (pv 0)) ⟨λ _=>(pg_name (i:=0) (show List.Nodup (["sign"]:List Str) by decide +kernel) rfl (Or.inl rfl)),λ _=>pf_nil,λ _=>(pe_call G_Qi hr rfl T.m_Qi T.F_Qi.kp T.b_Qi .nil pass1 (PAs.h (pas_cons (pe_bm PySem.F.plainAttrs_str PySem.F.slot_str_index PySem.F.type_str_index mt_index (pe_glob (v:=.str "abcdefghijklmnopqrstuvwxyz234567") rfl T.m_GROUP_SIGNS ⟨_,rfl⟩) (pa_cons (pv 0) pa_nil)) (pas_cons (pe_glob (v:=.int 5) rfl T.m_GROUP_SIZE ⟨_,rfl⟩) pas_nil))))⟩) pa_nil))))),?_⟩
 rw [gs_str]
 refine ⟨_,rfl,.inr (.inr ⟨_,rfl,λ D hD cp=>?_⟩)⟩
 refine lc_pure (walk_tx g) (caps:=[]) (λ _=>true) inG (λ _=>trivial) (by rw [List.length_map,sizeLine_eq]; omega) ?_ ?_
 ·intro i x ys R hx hy h1 _
  obtain ⟨c,_,rfl⟩:=sign_at hx
  refine lc_true ⟨_,rfl,?_⟩
  refine .inl ⟨c,gsL,rfl,rfl,ys,upd_same,hy,?_⟩
  rw [upd_upd,if_neg Bool.false_ne_true]; exact h1 rfl
 have e:((g.map λ c=>vt [c]).filter λ _=>true).map inG=(g.map λ c=>decide (c ∈ gsL)).map V.bl:=by
  rw [List.filter_eq_self.mpr (λ _ _=>rfl),List.map_map,List.map_map]; rfl
 rw [e]
 refine ⟨D,_,rfl,SqL.of upd_same,?_⟩
 rw [List.all_map]
 have s1:=same_new (o:=.lst ((g.map λ c=>decide (c ∈ gsL)).map V.bl)) hD
 generalize upd H D (.lst ((g.map λ c=>decide (c ∈ gsL)).map V.bl))=H1 at s1 ⊢
 cases ha:g.all (id ∘ λ c=>decide (c ∈ gsL)) with
 | false =>
   refine ⟨false,rfl,iteT ⟨by decide,qe (λ hh=>?_) _ s1⟩⟩
   have:g.all (id ∘ λ c=>decide (c ∈ gsL))=true:=List.all_eq_true.mpr λ c hc=>decide_eq_true (hh c hc)
   rw [this] at ha; cases ha
 | true =>
 have hin:∀ c ∈ g,c ∈ gsL:=λ c hc=>of_decide_eq_true (List.all_eq_true.mp ha c hc)
 refine ⟨true,rfl,iteF ?_⟩
 rw [str_nil0]
 refine ⟨rfl,_,rfl,.inr (.inr ⟨_,rfl,λ D2 hD2 cp2=>?_⟩)⟩
 refine lc_grow (walk_tx g) hD2 (λ _ j v=>∃ x,v=vt x/\Told g j x) (λ _ _ _ _ _ h=>h) (λ _ _=>trivial) (by rw [List.length_map,sizeLine_eq]; omega) ?_ ?_
 ·intro i x H2 ys C hx s2 hy hC
  obtain ⟨c,hc,rfl⟩:=sign_at hx
  refine ⟨rfl,_,rfl,gsL,_,rfl,rfl,hin c (List.mem_of_getElem? hc),λ j hj=>?_⟩
  have hj32:j<32:=(List.getElem?_eq_some_iff.mp hj).1
  refine ⟨(j:Int),5,rfl,by omega,by show (j:Int)<32; omega,by decide,λ l H3 s3 hl5 hla hlv=>hC H3 _ s3 ⟨l,rfl,hl5,hla,λ c' k hc' hk=>?_⟩⟩
  rw [hc] at hc'
  cases hc'
  rw [hlv,at_uniq gs_nd hj hk]
 ·intro H2 ys s2 hy hn hv
  rw [List.length_map] at hn
  have ex:∃ xs:List (List Nat),ys=xs.map vt/\∀ j x,xs[j]?=some x->Told g j x:=by
   refine ⟨ys.map λ v=>match v with | .str z=>z.cps.toList | _=>[],?_,?_⟩
   ·rw [List.map_map]
    refine (List.ext_getElem? λ j=>?_)
    rw [List.getElem?_map]
    cases hj:ys[j]? with
    | none=>rfl
    | some v =>
      obtain ⟨x,rfl,_⟩:=hv j v hj
      show some (vt x)=some (vt (tx x).cps.toList)
      rw [tx_cps]
   ·intro j x hx
    rw [List.getElem?_map] at hx
    cases hj:ys[j]? with
    | none=>rw [hj] at hx; cases hx
    | some v =>
      obtain ⟨x',rfl,ht⟩:=hv j v hj
      rw [hj] at hx
      have e9:(tx x').cps.toList=x:=Option.some.inj hx
      rw [tx_cps] at e9
      subst e9; exact ht
  obtain ⟨xs,rfl,hT⟩:=ex
  rw [List.length_map] at hn
  obtain ⟨t1,t2⟩:=told_len hT
  refine ⟨[],D2,xs,rfl,rfl,.inl (.inl (.inl hy)),by show _+_*0<=_; rw [t1]; omega,?_⟩
  rw [between_nil]
  refine q _ H2 (s1.trans s2) hin t2 (by rw [t1,hn]) λ b hb eg=>?_
  subst eg
  exact told_pad hb (by rw [hn,grp_len]) hT
theorem valB_zeros (b:List Nat):∀ k,valB (b++List.replicate k 48)=valB b*2^k
 | 0=>by rw [List.replicate_zero,List.append_nil]; show _=_*1; omega
 | k+1=>by
   rw [List.replicate_succ',← List.append_assoc,valB_snoc,valB_zeros b k,if_neg (by decide),Int.pow_succ,Int.add_zero,Int.mul_assoc]
theorem InSp.scale {L:List Nat} {f d:Nat} {ah l:List Nat} {v n s:Int} (hs:0<s) (h:InSp L f d ah l v n):InSp L f d ah l (v*s) (n*s):=by
 obtain ⟨h1,h2⟩:=h
 have e1:LoW L f d ah l*(n*s)=LoW L f d ah l*n*s:=(Int.mul_assoc ..).symm
 have e2:v*s*WhW L f d ah l=v*WhW L f d ah l*s:=Int.mul_right_comm ..
 have e3:(LoW L f d ah l+WiW L f d ah l)*(n*s)=(LoW L f d ah l+WiW L f d ah l)*n*s:=(Int.mul_assoc ..).symm
 refine ⟨?_,?_⟩
 ·rw [e1,e2]; exact Int.mul_le_mul_of_nonneg_right h1 (Int.le_of_lt hs)
 ·rw [e2,e3]; exact Int.mul_lt_mul_of_pos_right h2 hs
structure PkOk (f:Nat) (L:List Nat) (d:Nat) (l b:List Nat):Prop where
 l2:2<=(f::L).length
 l6:(f::L).length<=6
 nd:(f::L).Nodup
 sg:∀ c ∈ f::L,c ∈ signs
 d6:d<=6
 ll:l.length<=100
 al:∀ c ∈ l,c ∈ f::L
 sp:Bp.Sp (f::L) f d l.length
 tb:Bp.tb d l.length+Bp.tb d 0<6300
 bi:BitsIn (LoW (f::L) f d [] l) (WiW (f::L) f d [] l) (WhW (f::L) f d [] l) b
theorem sg_of {c:Nat} (h:c ∈ signs):isSg c=true:=by
 obtain ⟨h1,h2,h3⟩:=signs_lt c h
 unfold isSg
 rw [decide_eq_true h1,decide_eq_true (show c<=126 by omega),decide_eq_false h3]; rfl
theorem cut_at (a m z:List Nat) {i j:Nat} (hi:i=a.length) (hj:j=a.length+m.length):cutL (a++m++z) (some (i:Int)) (some (j:Int))=m:=by
 subst hi hj
 rw [cut_mid (a++m++z) (by omega) (by rw [List.length_append,List.length_append]; omega),List.append_assoc,List.drop_left,Nat.add_sub_cancel_left,List.take_left]
theorem signs_of {c:Nat} (h:isSg c=true):c ∈ signs:=by
 have go:∀ c ∈ List.range 127,isSg c=true->c ∈ signs:=by decide +kernel
 refine go c (List.mem_range.mpr ?_) h
 unfold isSg at h
 simp only [Bool.and_eq_true,decide_eq_true_eq] at h
 omega
theorem PkOk.cuts {f:Nat} {L:List Nat} {d:Nat} {l b:List Nat} (hP:PkOk f L d l b):cutL (bdy (f::L) d l.length b) none (some 1)=[48+d]/\cutL (bdy (f::L) d l.length b) (some 1) (some 2)=[48+(f::L).length]/\
 cutL (bdy (f::L) d l.length b) (some 2) (some (2+((f::L).length:Int)))=f::L/\cutL (bdy (f::L) d l.length b) (some (2+((f::L).length:Int))) (some (2+((f::L).length:Int)+3))=z3 l.length/\cutL (bdy (f::L) d l.length b) (some (2+((f::L).length:Int)+3)) none=grp (grN b) b:=by
 have ll:=hP.ll
 obtain ⟨g1,g2,g3,g4⟩:=dg_ok ll
 have c1:cutL (bdy (f::L) d l.length b) none (some 1)=[48+d]:=by
  have:=cut_to (bdy (f::L) d l.length b) 1
  rw [show ((1:Nat):Int)=1 from rfl] at this
  rw [this]; rfl
 have c2:cutL (bdy (f::L) d l.length b) (some 1) (some 2)=[48+(f::L).length]:=by
  have:=cut_at [48+d] [48+(f::L).length] ((f::L)++z3 l.length++grp (grN b) b) (i:=1) (j:=2) rfl rfl
  rw [show ((1:Nat):Int)=1 from rfl,show ((2:Nat):Int)=2 from rfl] at this
  rw [show bdy (f::L) d l.length b=[48+d]++[48+(f::L).length]++((f::L)++z3 l.length++grp (grN b) b) by unfold bdy hdr; simp only [List.append_assoc]]
  exact this
 have c3:cutL (bdy (f::L) d l.length b) (some 2) (some (2+((f::L).length:Int)))=f::L:=by
  have:=cut_at [48+d,48+(f::L).length] (f::L) (z3 l.length++grp (grN b) b) (i:=2) (j:=2+(f::L).length) rfl rfl
  rw [show ((2:Nat):Int)=2 from rfl,show ((2+(f::L).length:Nat):Int)=2+((f::L).length:Int) by omega] at this
  rw [show bdy (f::L) d l.length b=[48+d,48+(f::L).length]++(f::L)++(z3 l.length++grp (grN b) b) by unfold bdy hdr; simp only [List.append_assoc]; rfl]
  exact this
 have c4:cutL (bdy (f::L) d l.length b) (some (2+((f::L).length:Int))) (some (2+((f::L).length:Int)+3))=z3 l.length:=by
  have:=cut_at ([48+d,48+(f::L).length]++(f::L)) (z3 l.length) (grp (grN b) b) (i:=2+(f::L).length) (j:=2+(f::L).length+3) (by rw [List.length_append]; rfl) (by rw [List.length_append,g3]; rfl)
  rw [show ((2+(f::L).length:Nat):Int)=2+((f::L).length:Int) by omega,show ((2+(f::L).length+3:Nat):Int)=2+((f::L).length:Int)+3 by omega] at this
  rw [show bdy (f::L) d l.length b=([48+d,48+(f::L).length]++(f::L))++z3 l.length++grp (grN b) b from rfl]
  exact this
 have c5:cutL (bdy (f::L) d l.length b) (some (2+((f::L).length:Int)+3)) none=grp (grN b) b:=by
  have:=cut_from (bdy (f::L) d l.length b) (2+(f::L).length+3)
  rw [show ((2+(f::L).length+3:Nat):Int)=2+((f::L).length:Int)+3 by omega] at this
  rw [this]
  unfold bdy
  have e:2+(f::L).length+3=(hdr (f::L) d l.length).length:=by rw [hdr_len ll]; omega
  rw [e,List.drop_left]
 exact ⟨c1,c2,c3,c4,c5⟩
theorem app2 {a b c d:List Nat} (h:a++c=b++d) (hc:c.length=2) (hd:d.length=2):a=b:=by
 have:=congrArg List.length h
 rw [List.length_append,List.length_append] at this
 exact (List.append_inj h (by omega)).1
theorem pkt_body {L:List Nat} {d n:Nat} {b bd:List Nat} (h:bd++cks bd=pkt L d n b):bd=bdy L d n b:=app2 h rfl rfl
theorem sp_of {f:Nat} {L:List Nat} {d n:Nat} (ok:okL (f::L)) (hd:d<=6) (hn:n<=100):Bp.Sp (f::L) f d n/\Bp.tb d n+Bp.tb d 0<6300:=by
 have h1:Bp.tb d n<=6200:=by
  unfold Bp.tb
  exact Nat.le_trans (Nat.mul_le_mul (show 8+9*d<=62 by omega) hn) (by decide)
 have h2:Bp.tb d 0=0:=by unfold Bp.tb; omega
 have h3:wb d n<=6200:=h1
 exact ⟨⟨ok.2.2.1,ok.2.1,List.mem_cons_self,hd,by omega,by omega,by omega⟩,by omega⟩
def Dec (pk:List Nat) (f:Nat) (L:List Nat) (d:Nat) (l b:List Nat):Prop:=PkOk f L d l b/\pk=pkt (f::L) d l.length b
def spUnG (C:Addr):L2.Sp:=λ vs H Q E=>∃ pk:List Nat,vs=[vt pk]/\pk.length<=1200/\(∀ c ∈ pk,c<16^8)/\((∀ f L d l b,¬ Dec pk f L d l b)->∀ H',Same H H'->E (.ref C) none H')/\
 ∀ f L d l b H' r fp,Dec pk f L d l b->Same H H'->H' r=some (.tup [.ref fp,vt l])->H' fp=some (.tup [vt (f::L),.int d])->Q (.ref r) H'
theorem one_sign {l:List Nat} (h:l.length=1) (ha:l.all isF=true):∃ d,l=[48+d]/\d<=9/\digV l=d:=by
 match l,h with
 | [c],_ =>
   have:=isF_iff (List.all_eq_true.mp ha c List.mem_cons_self)
   exact ⟨c-48,by congr 1; omega,by omega,by show 0*10+(c-48)=_; omega⟩
theorem ok_unwrapG (T:Txt K mg t):FnOk P w K mg base (CX1 P w) 12 t.a_Qbx t.fd_Qbx ["packet"] (spUnG t.c_NoPacket):=by
 refine T.F_Qbx.okx (k:=11) sc_Qbx (λ vs H Q E h=>?_) (λ cdv A outer s H vs Q E hr h=>?_)
 ·obtain ⟨pk,rfl,_⟩:=h; rfl
 obtain ⟨pk,rfl,hpl,hp16,qe,q⟩:=h
 have G_Qk:=(@ok_checked_bodyG P w K mg base t T).mono (show 2<=11 by decide)
 have G_Qy:=(@ok_number_inG P w K mg base t T).mono (show 2<=11 by decide)
 have G_Qf:=(@ok_unpacked_frameG P w K mg base t T).mono (show 5<=11 by decide)
 have G_Qd:=(@ok_unpacked_lengthG P w K mg base t T).mono (show 3<=11 by decide)
 have G_Qp:=(@ok_filled_bitsG P w K mg base t T).mono (show 2<=11 by decide)
 have G_Qbo:=(@ok_Qbo P w K mg base t T).mono (show 3<=11 by decide)
 have G_Qbq:=(@ok_Qbq P w K mg base t T).mono (show 9<=11 by decide)
 have G_wrap:=@ok_wrap P w K mg base t T
 refine ⟨_,(pss_cons (ps_set (i:=1) sc_Qbx.nd rfl (Or.inl rfl) (pe_call G_Qk hr rfl T.m_Qk T.F_Qk.kp T.b_Qk .nil passes1 (pa_cons (pv 0) pa_nil)))
  (pss_cons (ps_set (i:=2) sc_Qbx.nd rfl (Or.inl rfl) (pe_call G_Qy hr rfl T.m_Qy T.F_Qy.kp T.b_Qy .nil passes1 (PAs.h (pas_cons (pe_slice slAny (pv 1) po_none (po_some pe_int)) (pas_cons pe_int pas_nil)))))
  (pss_cons (ps_set (i:=3) sc_Qbx.nd rfl (Or.inl rfl) (pe_op oAddN pe_int (pe_call G_Qy hr rfl T.m_Qy T.F_Qy.kp T.b_Qy .nil passes1 (PAs.h (pas_cons (pe_slice slAny (pv 1) (po_some pe_int) (po_some pe_int)) (pas_cons pe_int pas_nil))))))
  (pss_cons (ps_set (i:=4) sc_Qbx.nd rfl (Or.inl rfl) (pe_call G_Qf hr rfl T.m_Qf T.F_Qf.kp T.b_Qf .nil passes1 (PAs.h (pas_cons (pv 2) (pas_cons (pe_slice slAny (pv 1) (po_some pe_int) (po_some (pv 3))) pas_nil)))))
  (pss_cons (ps_set (i:=5) sc_Qbx.nd rfl (Or.inl rfl) (pe_op oAddN (pv 3) (pe_glob (v:=.int 3) rfl T.m_LENGTH_SIZE ⟨_,rfl⟩)))
  (pss_cons (ps_set (i:=6) sc_Qbx.nd rfl (Or.inl rfl) (pe_call G_Qd hr rfl T.m_Qd T.F_Qd.kp T.b_Qd .nil passes1 (pa_cons (pe_slice slAny (pv 1) (po_some (pv 3)) (po_some (pv 5))) pa_nil)))
  (pss_cons (ps_set (i:=7) sc_Qbx.nd rfl (Or.inl rfl) (pe_call G_Qbq hr rfl T.m_Qbq T.F_Qbq.kp T.bd_Qbq (vals_str _ _) pass1 (PAs.h (pas_cons (pv 4) (pas_cons (pv 6) (pas_cons (pe_ix ixAny (pe_call G_Qbo hr rfl T.m_Qbo T.F_Qbo.kp T.b_Qbo .nil passes1 (pa_cons (pe_call G_Qp hr rfl T.m_Qp T.F_Qp.kp T.b_Qp .nil passes1 (pa_cons (pe_slice slAny (pv 1) (po_some (pv 5)) po_none) pa_nil)) pa_nil)) pe_int (λ _ _=>rfl)) pas_nil))))))
  (pss_cons (ps_if (pt_cmpR (oNeN (hr.units0)) (pe_call G_wrap hr rfl T.m_wrap T.F_wrap.kp T.b_wrap .nil passes1 (PAs.h (pas_cons (pv 4) (pas_cons (pv 7) pas_nil)))) (pv 0) (nomark _)) (pss_one (ps_raise raises1 rfl rfl T.m_NoPacket T.x_NoPacket PySem.F.excBase_ValueError (pa_cons pe_str pa_nil))) pss_nil)
  (pss_one (ps_ret (pe_tup (PAs.h (pas_cons (pv 4) (pas_cons (pv 7) pas_nil)))))))))))))),?_⟩
 refine ⟨_,rfl,pk,rfl,by omega,hp16,λ hno H1 s1=>qe (λ f L d l b hD=>hno _ hD.2) H1 s1,λ bd H1 s1 epk=>?_⟩
 have hbl:bd.length<=1200:=by rw [epk,List.length_append] at hpl; omega
 have zb:bd.length<=sizeLine:=by rw [sizeLine_eq]; omega
 have hcut:∀ {f L d l b},Dec pk f L d l b->bd=bdy (f::L) d l.length b:=λ hD=>pkt_body (epk ▸ hD.2)
 have k1:=cut_le bd none (some 1)
 have k2:=cut_le bd (some 1) (some 2)
 refine ⟨_,rfl,_,rfl,.inr (cutT zb ?_)⟩
 refine ⟨cutL bd none (some 1),1,rfl,by decide,by decide,by omega,λ hno H2 s2=>qe (λ f L d l b hD=>hno ?_) H2 (s1.trans s2),λ e1 a1 H2 s2=>?_⟩
 ·rw [hcut hD,hD.1.cuts.1]
  exact ⟨rfl,by show (isF (48+d) && true)=true; rw [isF_of (by have:=hD.1.d6; omega)]; rfl⟩
 obtain ⟨d,ed,d9,dv⟩:=one_sign e1 a1
 rw [dv]
 refine ⟨_,rfl,_,rfl,_,rfl,.inr (cutT zb ?_)⟩
 refine ⟨cutL bd (some 1) (some 2),1,rfl,by decide,by decide,by omega,λ hno H3 s3=>qe (λ f L d l b hD=>hno ?_) H3 (s1.trans (s2.trans s3)),λ e2 a2 H3 s3=>?_⟩
 ·rw [hcut hD,hD.1.cuts.2.1]
  exact ⟨rfl,by show (isF (48+(f::L).length) && true)=true; rw [isF_of (by have:=hD.1.l6; omega)]; rfl⟩
 obtain ⟨k,ek,k9,kv⟩:=one_sign e2 a2
 rw [kv]
 refine .inl ⟨_,_,rfl,rfl,?_⟩
 have k3:=cut_le bd (some 2) (some (2+(k:Int)))
 refine ⟨_,rfl,_,rfl,_,rfl,_,rfl,_,rfl,.inr (cutT zb ?_)⟩
 have same1:∀ {f L d' l b},Dec pk f L d' l b->d'=d/\(f::L).length=k:=λ {f L d' l b} hD=>by
  have h1:=hD.1.cuts.1
  have h2:=hD.1.cuts.2.1
  rw [← hcut hD,ed] at h1
  rw [← hcut hD,ek] at h2
  have h3:=(List.cons.inj h1).1
  have h4:=(List.cons.inj h2).1
  exact ⟨by omega,by omega⟩
 have same2:∀ {f L d' l b},Dec pk f L d' l b->cutL bd (some 2) (some (2+(k:Int)))=f::L/\cutL bd (some (2+(k:Int))) (some (2+(k:Int)+3))=z3 l.length/\cutL bd (some (2+(k:Int)+3)) none=grp (grN b) b:=λ {f L d' l b} hD=>by
  obtain ⟨_,_,c3,c4,c5⟩:=hD.1.cuts
  rw [← hcut hD,(same1 hD).2] at c3 c4 c5
  exact ⟨c3,c4,c5⟩
 refine ⟨cutL bd (some 2) (some (2+(k:Int))),d,rfl,by omega,λ hno H4 s4=>qe (λ f L d' l b hD=>hno ?_) H4 (s1.trans (s2.trans (s3.trans s4))),λ ok d6 H4 fp s4 e4=>?_⟩
 ·rw [(same2 hD).1,← (same1 hD).1]
  exact ⟨⟨hD.1.l2,hD.1.l6,hD.1.nd,λ c hc=>sg_of (hD.1.sg c hc)⟩,hD.1.d6⟩
 refine ⟨_,rfl,.inl ⟨_,_,rfl,rfl,?_⟩⟩
 have k4:=cut_le bd (some (2+(k:Int))) (some (2+(k:Int)+3))
 have k5:=cut_le bd (some (2+(k:Int)+3)) none
 refine ⟨_,rfl,_,rfl,_,rfl,_,rfl,_,rfl,.inr (cutT zb ?_)⟩
 refine ⟨cutL bd (some (2+(k:Int))) (some (2+(k:Int)+3)),rfl,by omega,λ hno H5 s5=>qe (λ f L d' l b hD=>hno ?_) H5 (s1.trans (s2.trans (s3.trans (s4.trans s5)))),λ e3 a3 m100 H5 s5=>?_⟩
 ·rw [(same2 hD).2.1]
  obtain ⟨g1,g2,g3,g4⟩:=dg_ok hD.1.ll
  exact ⟨g3,List.all_eq_true.mpr λ c hc=>isF_of (z3_fig hD.1.ll c hc),by rw [g4]; exact hD.1.ll⟩
 have samem:∀ {f L d' l b},Dec pk f L d' l b->l.length=digV (cutL bd (some (2+(k:Int))) (some (2+(k:Int)+3))):=λ {f L d' l b} hD=>by rw [(same2 hD).2.1,(dg_ok hD.1.ll).2.2.2]
 generalize digV (cutL bd (some (2+(k:Int))) (some (2+(k:Int)+3)))=many at m100 samem ⊢
 refine ⟨_,rfl,_,rfl,_,rfl,_,rfl,_,rfl,.inr (cutT zb ?_)⟩
 refine ⟨cutL bd (some (2+(k:Int)+3)) none,rfl,by omega,λ hno H6 s6=>qe (λ f L d' l b hD=>hno ?_) H6 (s1.trans (s2.trans (s3.trans (s4.trans (s5.trans s6))))),λ bits H6 s6 hin ball blen bpad=>?_⟩
 ·rw [(same2 hD).2.2]
  exact λ c hc=>grp_mem _ _ c hc
 refine ⟨bits,rfl,by omega,(λ hf=>by rw [ball] at hf; cases hf),λ _ H7 r pa pb s7 er ea eb=>?_⟩
 refine ixT (.inl (.inl er)) rfl ?_
 have hN0:(0:Int)<2^bits.length:=Int.pow_pos (by decide)
 have nz:(2:Int)^bits.length ≠ 0:=by omega
 obtain ⟨v0,v1⟩:=valB_bd bits
 have hpt:FrU K H7 (.ref pa) (valB bits) (2^bits.length):=⟨pa,_,_,rfl,.inl (.inl ea),by
  have nc:=num_cross (t:=valB bits) nz
  have:0<=num (valB bits) (2^bits.length)*2^bits.length:=by rw [nc]; exact Int.mul_nonneg v0 (by have:=den_pos (t:=valB bits) nz; omega)
  exact Int.nonneg_of_mul_nonneg_left this hN0,den_pos nz,num_cross nz,num_gcd nz⟩
 have s47:=s5.trans (s6.trans s7)
 have elt:∃ f L,cutL bd (some 2) (some (2+(k:Int)))=f::L:=by
  cases z:cutL bd (some 2) (some (2+(k:Int))) with
  | nil=>rw [z] at ok; exact absurd ok.1 (by decide)
  | cons f L=>exact ⟨f,L,rfl⟩
 obtain ⟨f,L,elt⟩:=elt
 rw [elt] at ok e4
 obtain ⟨P0,htb⟩:=sp_of ok d6 m100
 have hF7:SqT K H7 fp [vt (f::L),.int d]:=.inl (.inl (s47 _ _ e4))
 refine ⟨fp,f,L,d,many,.ref pa,[],valB bits,2^bits.length,by rw [← str_nil0]; rfl,hF7,λ c h=>(nomatch h),by rw [show ([]:List Nat).length+many=many by show 0+_=_; omega]; exact P0,hpt,hN0,ipow_le (by omega),v0,v1,λ H8 l s8 hll hm hinsp=>?_⟩
 have s48:=s47.trans s8
 have hF8:SqT K H8 fp [vt (f::L),.int d]:=.inl (.inl (s48 _ _ e4))
 have h16:∀ c ∈ f::L,c<16^8:=λ c hc=>Nat.lt_trans (signs_lt c (signs_of (ok.2.2.2 c hc))).2.1 (by decide)
 have hl16:∀ c ∈ l,c<16^8:=λ c hc=>h16 c (hm c hc)
 have P1:Bp.Sp (f::L) f d l.length:=by rw [hll]; exact P0
 have htb1:Bp.tb d l.length+Bp.tb d 0<6300:=by rw [hll]; exact htb
 refine ⟨_,rfl,_,rfl,fp,f,L,d,l,rfl,hF8,d6,ok.2.1,h16,hl16,λ ⟨c,y1,y2⟩=>absurd (hm c y1) y2,λ _=>⟨by omega,P1,htb1,λ H9 b2 s9 hb2=>?_⟩⟩
 have s09:=s1.trans (s2.trans (s3.trans (s4.trans (s48.trans s9))))
 have hok:PkOk f L d l b2:=⟨ok.1,ok.2.1,ok.2.2.1,λ c hc=>signs_of (ok.2.2.2 c hc),d6,by omega,hm,P1,htb1,hb2⟩
 refine ⟨_,rfl,.inl ⟨rfl,_,rfl,ifn2 (λ hne=>?_) (λ heq=>?_)⟩⟩
 ·refine ⟨by decide,qe (λ f' L' d' l' b' hD=>hne ?_) _ s09⟩
  obtain ⟨x1,x2,x3⟩:=same2 hD
  obtain ⟨y1,y2⟩:=same1 hD
  have y3:=samem hD
  rw [elt] at x1
  cases x1
  cases y1
  have hP:=hD.1
  have bpad':=bpad b' hP.bi.all x3
  have hsb:=sb_of (L:=f::L) (f:=f) (d:=d) (ah:=[]) (l:=l') hP.sp hP.al hP.tb
  have pl:(padB b').length=5*grN b':=by unfold padB; rw [List.length_append,List.length_replicate]; unfold grN; omega
  have pv:valB (padB b')=valB b'*2^(5*grN b'-b'.length):=valB_zeros b' _
  have pn:(2:Int)^(padB b').length=2^b'.length*2^(5*grN b'-b'.length):=by
   rw [pl,← Int.pow_add]; congr 1; unfold grN; omega
  have hin0:=(hP.bi.inSp hsb.w0).scale (s:=2^(5*grN b'-b'.length)) (Int.pow_pos (by decide))
  rw [← pv,← pn,← bpad'] at hin0
  have el:l=l':=InSp.one P1.gd hN0 (by rw [hll,y3]) (by show l.length<=_; omega) hm hP.al hinsp hin0
  subst el
  have eb2:=hb2.one hsb.w0 hP.bi
  subst eb2
  exact congrArg vt hD.2.symm
 ·refine ⟨_,rfl,_,rfl,by rw [sizeLine_eq]; show 2<=_; decide,λ rr hrr=>?_⟩
  exact q f L d l b2 _ rr fp ⟨hok,(vtx.mp heq).symm⟩ (new_same hrr s09) upd_same (new_at hrr (s9 _ _ (s48 _ _ e4)))
def spLRefG:L2.Sp:=λ vs H Q _=>∃ pk:List Nat,vs=[vt pk]/\pk.length<=1200/\(∀ c ∈ pk,c<16^8)/\(∀ f L d l b,¬ Dec pk f L d l b)/\∀ H',Same H H'->Q (.bl true) H'
theorem ok_Qba (T:Txt K mg t):FnOk P w K mg base (CX1 P w) 13 t.a_Qba t.fd_Qba ["packet"] spLRefG:=by
 refine T.F_Qba.okn (k:=12) sc_Qba (λ vs H Q E h=>?_) (λ cdv A outer s H vs Q E hr h=>?_)
 ·obtain ⟨pk,rfl,_⟩:=h; rfl
 obtain ⟨pk,rfl,hpl,h16,hno,q⟩:=h
 have G_Qbx:=@ok_unwrapG P w K mg base t T
 refine ⟨_,(pss_cons (ps_set (i:=1) sc_Qba.nd rfl (Or.inl rfl) (pe_lst pa_nil))
  (pss_cons (ps_tryU (i:=2) rfl rfl rfl rfl sc_Qba.nd rfl rfl rfl T.m_PressError T.x_PressError (by decide) (λ pins xe Φ hx=>(pss_one (ps_expr (pe_callX G_Qbx hr rfl T.m_Qbx T.F_Qbx.kp T.b_Qbx .nil hx (pa_cons (pv 0) pa_nil))))) (λ pins e=>(pss_cons (ps_set (i:=1) sc_Qba.nd rfl (Or.inl rfl) (pe_lst (PAs.h (pas_cons (pe_callB isiAny rfl T.m_isinstance bt_isinstance (PAs.h (pas_cons (pv 2) (pas_cons (pe_glob (v:=.ref t.c_NoPacket) rfl T.m_NoPacket rfl) pas_nil)))) (pas_cons (pe_callB isiAny rfl T.m_isinstance bt_isinstance (PAs.h (pas_cons (pv 2) (pas_cons (pe_bltn (v:=.ty "ValueError") rfl T.m_ValueError bt_ValueError rfl) pas_nil)))) pas_nil)))))
  (pss_one (ps_expr (pe_bm PySem.F.plainAttrs_list PySem.F.slot_list_append PySem.F.type_list_append mt_app (pv 1) (pa_cons (pe_callB isiAny rfl T.m_isinstance bt_isinstance (PAs.h (pas_cons (pv 2) (pas_cons (pe_tup (PAs.h (pas_cons (pe_glob (v:=.ref t.c_NoBits) rfl T.m_NoBits rfl) (pas_cons (pe_glob (v:=.ref t.c_NoFrame) rfl T.m_NoFrame rfl) (pas_cons (pe_glob (v:=.ref t.c_NoNumber) rfl T.m_NoNumber rfl) (pas_cons (pe_glob (v:=.ref t.c_NoPress) rfl T.m_NoPress rfl) (pas_cons (pe_glob (v:=.ref t.c_NoRow) rfl T.m_NoRow rfl) (pas_cons (pe_glob (v:=.ref t.c_NoSign) rfl T.m_NoSign rfl) (pas_cons (pe_glob (v:=.ref t.c_NoText) rfl T.m_NoText rfl) pas_nil))))))))) pas_nil)))) pa_nil)))))))
  (pss_one (ps_ret (pe_cmpR (oEqA (hr.units0)) (pv 1) (pe_lst (PAs.h (pas_cons pe_bl (pas_cons pe_bl (pas_cons pe_bl pas_nil))))) (nomark _)))))),?_⟩
 refine ⟨by rw [sizeLine_eq]; show 0<=_; decide,λ b hb=>?_⟩
 have s0:Same H (upd H b (.lst [])):=same_new hb _
 generalize upd H b (.lst [])=H0 at s0 ⊢
 refine λ pins0 xe0=>?_
 refine ⟨_,rfl,pk,rfl,hpl,h16,λ _ H1 s1=>?_,λ f L d l b H' r fp hD=>absurd hD (hno f L d l b)⟩
 refine ⟨_,rfl,T.u_NoPacket_PressError,λ y hy pins1 ev1=>?_⟩
 have e0:upd H1 y (excO y t.c_NoPacket) y=some (excO y t.c_NoPacket):=upd_same
 have sx:Same H (upd H1 y (excO y t.c_NoPacket)):=new_same hy (s0.trans s1)
 generalize upd H1 y (excO y t.c_NoPacket)=H2 at e0 sx ⊢
 refine ⟨_,rfl,.inr ⟨y,_,_,true,rfl,e0,T.z_NoPacket,.inl ⟨_,rfl,T.i_NoPacket_NoPacket⟩,?_⟩⟩
 refine ⟨_,rfl,.inr ⟨y,_,_,true,rfl,e0,T.z_NoPacket,.inr (.inl ⟨_,rfl,T.i_NoPacket_ValueError⟩),?_⟩⟩
 refine ⟨by rw [sizeLine_eq]; show 2<=_; decide,λ r hr0=>?_⟩
 have s3:=new_same (o:=.lst [.bl true,.bl true]) hr0 sx
 have e3:upd H2 r (.lst [.bl true,.bl true]) r=some (.lst [.bl true,.bl true]):=upd_same
 have e1:=new_at (o:=.lst [.bl true,.bl true]) hr0 e0
 have hrH:H r=none:=sx.free hr0
 generalize upd H2 r (.lst [.bl true,.bl true])=H3 at s3 e3 e1 ⊢
 refine ⟨_,rfl,tyL (.inl (.inl e3)),_,rfl,by rw [sizeLine_eq]; show 7<=_; decide,λ p0 hp0=>?_⟩
 refine .inr ⟨y,_,_,false,rfl,new_at hp0 e1,T.z_NoPacket,.inr (.inr ⟨p0,[t.c_NoBits,t.c_NoFrame,t.c_NoNumber,t.c_NoPress,t.c_NoRow,t.c_NoSign,t.c_NoText],rfl,upd_same,T.it_L_refused_NoPacket_0⟩),?_⟩
 refine ⟨r,_,_,rfl,rfl,new_at hp0 e3,by rw [sizeLine_eq]; show 2<_; decide,?_⟩
 have s4:Same H (upd (upd H3 p0 (.tup ([t.c_NoBits,t.c_NoFrame,t.c_NoNumber,t.c_NoPress,t.c_NoRow,t.c_NoSign,t.c_NoText].map V.ref))) r (.lst ([.bl true,.bl true]++[.bl false]))):=over_same hrH (new_same hp0 s3)
 have e4:upd (upd H3 p0 (.tup ([t.c_NoBits,t.c_NoFrame,t.c_NoNumber,t.c_NoPress,t.c_NoRow,t.c_NoSign,t.c_NoText].map V.ref))) r (.lst ([.bl true,.bl true]++[.bl false])) r=some (.lst [.bl true,.bl true,.bl false]):=upd_same
 refine ⟨_,rfl,by rw [sizeLine_eq]; show 3<=_; decide,λ c hc=>?_⟩
 refine .inr (.inl ⟨r,c,_,_,rfl,rfl,.inl (.inl (new_at hc e4)),.inl (.inl upd_same),rfl,rfl,?_⟩)
 exact q _ (new_same hc s4)
def spLIsF:L2.Sp:=λ vs H Q _=>∃ (fp:Addr) (l:List Nat) (d:Nat),vs=[.ref fp]/\H fp=some (.tup [vt l,.int (d:Int)])/\okL l/\d<=6/\∀ H',Same H H'->Q (.bl true) H'
theorem ok_Qu (T:Txt K mg t):FnOk P w K mg base (CX1 P w) 1 t.a_Qu t.fd_Qu ["frame"] spLIsF:=by
 refine T.F_Qu.okn (k:=0) sc_Qu (λ vs H Q E h=>?_) (λ cdv A outer s H vs Q E hr h=>?_)
 ·obtain ⟨fp,l,d,rfl,_⟩:=h; rfl
 obtain ⟨fp,l,d,rfl,e0,ok,hd,q⟩:=h
 have zl:l.length<=sizeLine:=by have:=ok.2.1; rw [sizeLine_eq]; omega
 have ty:TyOf K H (.ref fp) (.type "tuple"):=.tup e0
 have hF:SqT K H fp [vt l,.int (d:Int)]:=.inl (.inl e0)
 refine ⟨_,(pss_cons (ps_if (PW.pt (pw_or (pt_not (pt_val (pe_callB isiAny rfl T.m_isinstance bt_isinstance (PAs.h (pas_cons (pv 0) (pas_cons (pe_bltn (v:=.ty "tuple") rfl T.m_tuple bt_tuple rfl) pas_nil)))))) (pw_or (pt_cmpR (oNeN (hr.units0)) (pe_callB call_len rfl T.m_len bt_len (pa_cons (pv 0) pa_nil)) pe_int (nomark _)) (pw_or1 (pt_not (pt_val (pe_callB isiAny rfl T.m_isinstance bt_isinstance (PAs.h (pas_cons (pe_ix ixAny (pv 0) pe_int (λ _ _=>rfl)) (pas_cons (pe_bltn (v:=.ty "str") rfl T.m_str bt_str rfl) pas_nil)))))))))) (pss_one (ps_ret pe_bl)) pss_nil)
  (pss_cons (ps_if (PW.pt (pw_or (pt_not (pt_val (pe_callB isiAny rfl T.m_isinstance bt_isinstance (PAs.h (pas_cons (pe_ix ixAny (pv 0) pe_int (λ _ _=>rfl)) (pas_cons (pe_bltn (v:=.ty "int") rfl T.m_int bt_int rfl) pas_nil)))))) (pw_or (pt_val (pe_callB isiAny rfl T.m_isinstance bt_isinstance (PAs.h (pas_cons (pe_ix ixAny (pv 0) pe_int (λ _ _=>rfl)) (pas_cons (pe_bltn (v:=.ty "bool") rfl T.m_bool bt_bool rfl) pas_nil))))) (pw_or (pt_cmpR oLt (pe_ix ixAny (pv 0) pe_int (λ _ _=>rfl)) pe_int (nomark _)) (pw_or1 (pt_cmpR op_gt (pe_ix ixAny (pv 0) pe_int (λ _ _=>rfl)) pe_int (nomark _))))))) (pss_one (ps_ret pe_bl)) pss_nil)
  (pss_one (ps_ret (pe_and (pe_cmpR oIn (pe_callB call_len rfl T.m_len bt_len (pa_cons (pe_ix ixAny (pv 0) pe_int (λ _ _=>rfl)) pa_nil)) (pe_lst (PAs.h (pas_cons pe_int (pas_cons pe_int (pas_cons pe_int (pas_cons pe_int (pas_cons pe_int pas_nil))))))) (by with_unfolding_all rfl)) (pe_one (pe_cmpR (oEqA (hr.units0)) (pe_callB callLenSet rfl T.m_len bt_len (pa_cons (pe_callTy (callSet rfl) rfl T.m_set bt_set (pa_cons (pe_ix ixAny (pv 0) pe_int (λ _ _=>rfl)) pa_nil)) pa_nil)) (pe_callB call_len rfl T.m_len bt_len (pa_cons (pe_ix ixAny (pv 0) pe_int (λ _ _=>rfl)) pa_nil)) (nomark _)))))))),?_⟩
 refine ⟨_,rfl,.inl ⟨_,_,_,true,rfl,ty,kit_same K _,true,rfl,iteF ?_⟩⟩
 refine ⟨_,rfl,_,_,rfl,.inr ⟨_,hF,rfl⟩,.inl ⟨rfl,_,rfl,ifnF rfl ?_⟩⟩
 refine ⟨_,rfl,ixT hF rfl (.inl ⟨_,_,_,true,rfl,.str _,kit_same K _,true,rfl,iteF ?_⟩)⟩
 refine ⟨_,rfl,ixT hF rfl (.inl ⟨_,_,_,true,rfl,.int _,kit_same K _,true,rfl,iteF ?_⟩)⟩
 refine ⟨_,rfl,ixT hF rfl (.inl ⟨_,_,_,false,rfl,.int _,kit_int_bool K,false,rfl,iteF ?_⟩)⟩
 refine ⟨_,rfl,ixT hF rfl (.inl ⟨_,_,rfl,rfl,_,rfl,ifF (by show ¬ (d:Int)<0; omega) ?_⟩)⟩
 refine ⟨_,rfl,ixT hF rfl ⟨_,_,rfl,rfl,_,rfl,ifF (by show ¬ (d:Int)>6; omega) ?_⟩⟩
 refine ⟨_,rfl,ixT hF rfl ⟨_,_,rfl,lenvS zl,?_⟩⟩
 refine ⟨by rw [sizeLine_eq]; show 5<=_; decide,λ p hp=>.inr ⟨p,_,rfl,.inl (SqL.of upd_same),rfl,rfl,true,?_,iteT ?_⟩⟩
 ·have h2:=ok.1
  have h6:=ok.2.1
  have hc:l.length=2\/l.length=3\/l.length=4\/l.length=5\/l.length=6:=by omega
  rcases hc with e | e | e | e | e<;>rw [e]<;>rfl
 have hF2:=new_tup (o:=.lst [V.int 2,.int 3,.int 4,.int 5,.int 6]) hp hF
 have s2:=same_new (o:=.lst [V.int 2,.int 3,.int 4,.int 5,.int 6]) hp
 try dsimp (config:={ proj:=false,eta:=false,zeta:=false,iota:=false }) only [tNil,tC]
 generalize upd H p (.lst [V.int 2,.int 3,.int 4,.int 5,.int 6])=H2 at hF2 s2 ⊢
 refine ⟨_,rfl,ixT hF2 rfl ⟨l,rfl,by have:=ok.2.1; omega,λ p2 hp2=>⟨p2,l,rfl,upd_same,_,rfl,ixT (new_tup hp2 hF2) rfl ⟨_,_,rfl,lenvS zl,.inl ⟨rfl,?_⟩⟩⟩⟩⟩
 rw [(firsts_all l).mpr ok.2.2.1,decide_eq_true rfl]
 exact q _ (s2.trans (same_new hp2 _))
def spLEi:L2.Sp:=λ vs H Q _=>∃ pk:List Nat,vs=[vt pk]/\pk.length<=1200/\(∀ c ∈ pk,c<16^8)/\∀ H',Same H H'->Q (.bl true) H'
theorem ok_Qbg (T:Txt K mg t):FnOk P w K mg base (CX1 P w) 14 t.a_Qbg t.fd_Qbg ["packet"] spLEi:=by
 refine T.F_Qbg.okn (k:=13) sc_Qbg (λ vs H Q E h=>?_) (λ cdv A outer s H vs Q E hr h=>?_)
 ·obtain ⟨pk,rfl,_⟩:=h; rfl
 obtain ⟨pk,rfl,hpl,h16,q⟩:=h
 have G_Qbx:=(@ok_unwrapG P w K mg base t T).mono (show 12<=13 by decide)
 have G_Qba:=@ok_Qba P w K mg base t T
 have G_Qu:=(@ok_Qu P w K mg base t T).mono (show 1<=13 by decide)
 have G_wrap:=(@ok_wrap P w K mg base t T).mono (show 11<=13 by decide)
 refine ⟨_,(pss_cons (ps_set (i:=1) sc_Qbg.nd rfl (Or.inl rfl) pe_non)
  (pss_cons (ps_tryN rfl rfl rfl rfl rfl T.m_NoPacket T.x_NoPacket (by decide) (λ pins xe Φ hx=>(pss_one (ps_set (i:=1) sc_Qbg.nd rfl (Or.inl rfl) (pe_callX G_Qbx hr rfl T.m_Qbx T.F_Qbx.kp T.b_Qbx .nil hx (pa_cons (pv 0) pa_nil))))) (λ pins e=>(pss_one (ps_set (i:=1) sc_Qbg.nd rfl (Or.inl rfl) pe_non))))
  (pss_cons (ps_if (pt_cmp (pc_isN (pv 1))) (pss_one (ps_ret (pe_call G_Qba hr rfl T.m_Qba T.F_Qba.kp T.b_Qba .nil pass1 (pa_cons (pv 0) pa_nil)))) pss_nil)
  (pss_cons (ps_if (PW.pt (pw_or (pt_not (pt_val (pe_callB isiAny rfl T.m_isinstance bt_isinstance (PAs.h (pas_cons (pv 1) (pas_cons (pe_bltn (v:=.ty "tuple") rfl T.m_tuple bt_tuple rfl) pas_nil)))))) (pw_or (pt_cmpR (oNeN (hr.units0)) (pe_callB call_len rfl T.m_len bt_len (pa_cons (pv 1) pa_nil)) pe_int (nomark _)) (pw_or1 (pt_not (pt_val (pe_call G_Qu hr rfl T.m_Qu T.F_Qu.kp T.b_Qu .nil pass1 (pa_cons (pe_ix ixAny (pv 1) pe_int (λ _ _=>rfl)) pa_nil)))))))) (pss_one (ps_ret pe_bl)) pss_nil)
  (pss_cons (ps_set (i:=2) sc_Qbg.nd rfl (Or.inr rfl) (pe_ix ixAny (pe_ix ixAny (pv 1) pe_int (λ _ _=>rfl)) pe_int (λ _ _=>rfl)))
  (pss_cons (ps_if (PW.pt (pw_or (pt_not (pt_val (pe_callB isiAny rfl T.m_isinstance bt_isinstance (PAs.h (pas_cons (pe_ix ixAny (pv 1) pe_int (λ _ _=>rfl)) (pas_cons (pe_bltn (v:=.ty "str") rfl T.m_str bt_str rfl) pas_nil)))))) (pw_or (pt_cmpR op_gt (pe_callB call_len rfl T.m_len bt_len (pa_cons (pe_ix ixAny (pv 1) pe_int (λ _ _=>rfl)) pa_nil)) pe_int (nomark _)) (pw_or1 (pt_cmpR (oNeN (hr.units0)) (pe_lc (compSc_of (N:=["sign", "letters"]) (cap:=[none,some 2]) (by kernel_rfl)) rfl (piAny (pe_ix ixAny (pv 1) pe_int (λ _ _=>rfl))) ⟨λ _=>(pg_name (i:=0) (show List.Nodup (["sign", "letters"]:List Str) by decide +kernel) rfl (Or.inl rfl)),λ _=>(pf_one (pt_cmpR oNotIn (pv 0) (pv 1) (by with_unfolding_all rfl))),λ _=>(pv 0)⟩) (pe_lst pa_nil) (nomark _)))))) (pss_one (ps_ret pe_bl)) pss_nil)
  (pss_one (ps_ret (pe_cmpR (oEqA (hr.units0)) (pe_call G_wrap hr rfl T.m_wrap T.F_wrap.kp T.b_wrap .nil pass1 (PAs.h (pas_cons (pe_ix ixAny (pv 1) pe_int (λ _ _=>rfl)) (pas_cons (pe_ix ixAny (pv 1) pe_int (λ _ _=>rfl)) pas_nil)))) (pv 0) (nomark _)))))))))),?_⟩
 refine λ pins0 xe0=>?_
 refine ⟨_,rfl,pk,rfl,hpl,h16,λ hno H1 s1=>?_,λ f L d l b H1 r fp hD0 s1 er ef=>?_⟩
 ·refine ⟨_,rfl,T.u_NoPacket_NoPacket,λ pins1 ev1=>?_⟩
  refine ⟨_,rfl,true,rfl,iteT ?_⟩
  exact ⟨_,rfl,pk,rfl,hpl,h16,hno,λ H2 s2=>q _ (s1.trans s2)⟩
 ·have ok:okL (f::L):=⟨hD0.1.l2,hD0.1.l6,hD0.1.nd,λ c hc=>sg_of (hD0.1.sg c hc)⟩
  have ty:TyOf K H1 (.ref r) (.type "tuple"):=.tup er
  have hR:SqT K H1 r [.ref fp,vt l]:=.inl (.inl er)
  have hF:SqT K H1 fp [vt (f::L),.int (d:Int)]:=.inl (.inl ef)
  have z6:(f::L).length<=sizeLine:=by have:=ok.2.1; rw [sizeLine_eq]; omega
  have zl:l.length<=sizeLine:=by have:=hD0.1.ll; rw [sizeLine_eq]; omega
  have h16':∀ c ∈ f::L,c<16^8:=λ c hc=>Nat.lt_trans (signs_lt c (hD0.1.sg c hc)).2.1 (by decide)
  refine ⟨_,rfl,false,rfl,iteF ?_⟩
  refine ⟨_,rfl,.inl ⟨_,_,_,true,rfl,ty,kit_same K _,true,rfl,iteF ?_⟩⟩
  refine ⟨_,rfl,_,_,rfl,.inr ⟨_,hR,rfl⟩,.inl ⟨rfl,_,rfl,ifnF rfl ?_⟩⟩
  refine ⟨_,rfl,ixT hR rfl ⟨fp,f::L,d,rfl,ef,ok,hD0.1.d6,λ H2 s2=>⟨true,rfl,iteF ?_⟩⟩⟩
  have hR2:=same_tup s2 hR
  have hF2:=same_tup s2 hF
  refine ⟨_,rfl,ixT hR2 rfl (ixT hF2 rfl ?_)⟩
  refine ⟨_,rfl,ixT hR2 rfl (.inl ⟨_,_,_,true,rfl,.str _,kit_same K _,true,rfl,iteF ?_⟩)⟩
  refine ⟨_,rfl,ixT hR2 rfl ⟨_,_,rfl,lenvS zl,⟨_,_,rfl,rfl,_,rfl,ifF (by have:=hD0.1.ll; show ¬ ((l.length:Nat):Int)>100; omega) ?_⟩⟩⟩
  refine ⟨_,rfl,ixT hR2 rfl (.inr (.inr ⟨_,rfl,λ D hD cp=>?_⟩))⟩
  refine lc_pure (walk_tx l) (caps:=[some (vt (f::L))]) (λ _=>false) (λ v=>v) (λ _=>trivial) (by have:=hD0.1.ll; rw [List.length_map,sizeLine_eq]; omega) ?_ ?_
  ·intro i x ys R hx hy h1 h2
   obtain ⟨c,hc,rfl⟩:=sign_at hx
   have hm:c ∈ f::L:=hD0.1.al c (List.mem_of_getElem? hc)
   refine ⟨_,rfl,_,rfl,.inl ⟨c,f::L,rfl,rfl,_,rfl,?_⟩⟩
   rw [if_pos rfl,decide_eq_true hm]
   exact iteF (h2 rfl)
  have e0:((l.map λ c=>vt [c]).filter λ _=>false).map (λ v=>v)=[]:=by
   rw [List.filter_eq_nil_iff.mpr (λ (a:V) _=>(Bool.false_ne_true:¬ false=true))]; rfl
  rw [e0]
  have s3:=new_same (o:=.lst []) hD s2
  have e2:upd H2 D (.lst []) D=some (.lst []):=upd_same
  have hF3:=new_tup (o:=.lst []) hD hF2
  have hR3:=new_tup (o:=.lst []) hD hR2
  generalize upd H2 D (.lst [])=H3 at s3 e2 hF3 hR3 ⊢
  refine ⟨by rw [sizeLine_eq]; show 0<=_; decide,λ c hc=>?_⟩
  have s4:=new_same (o:=.lst []) hc s3
  have hF4:=new_tup (o:=.lst []) hc hF3
  have hR4:=new_tup (o:=.lst []) hc hR3
  have e3:=new_at (o:=.lst []) hc e2
  have e4:upd H3 c (.lst []) c=some (.lst []):=upd_same
  generalize upd H3 c (.lst [])=H4 at s4 e3 e4 hF4 hR4 ⊢
  refine .inr (.inr ⟨D,c,[],[],rfl,rfl,.inl (.inl e3),.inl (.inl e4),rfl,rfl,false,rfl,iteF ?_⟩)
  have hP:=hD0.1
  have hsb:=sb_of (L:=f::L) (f:=f) (d:=d) (ah:=[]) (l:=l) hP.sp hP.al hP.tb
  refine ⟨_,rfl,ixT hR4 rfl ⟨_,rfl,ixT hR4 rfl ⟨fp,f,L,d,l,rfl,hF4,hP.d6,hP.l6,h16',λ c hc=>h16' c (hP.al c hc),λ ⟨c,y1,y2⟩=>absurd (hP.al c y1) y2,λ _=>⟨hP.ll,hP.sp,hP.tb,λ H9 b2 s9 hb2=>?_⟩⟩⟩⟩
  have eb2:=hb2.one hsb.w0 hP.bi
  subst eb2
  refine ⟨_,rfl,.inl ⟨rfl,?_⟩⟩
  rw [decide_eq_true (congrArg vt hD0.2.symm)]
  exact q _ (s1.trans (s4.trans s9))
theorem sg94 (n:Int):∃ (j:Nat) (v:Nat),n % 94=(j:Int)/\j<94/\signs[j]?=some v/\v ∈ signs:=by
 have m1:=Int.emod_nonneg n (show (94:Int) ≠ 0 by decide)
 have m2:=Int.emod_lt_of_pos n (show (0:Int)<94 by decide)
 have hj:(n % 94).toNat<signs.length:=by rw [signs_len]; omega
 exact ⟨(n % 94).toNat,signs[(n % 94).toNat],(Int.toNat_of_nonneg m1).symm,by omega,List.getElem?_eq_getElem hj,List.getElem_mem hj⟩
theorem sg_next {n:Int} {j k v w:Nat} (hj:n % 94=(j:Int)) (hk:(n+1) % 94=(k:Int)) (hv:signs[j]?=some v) (hw:signs[k]?=some w):w ≠ v:=λ e=>by
 subst e
 have:=at_uniq signs_nodup hv hw
 omega
def exch (l:List Nat) (i x:Nat):List Nat:=l.take i++[x]++l.drop (i+1)
theorem cdivN {c:Int} {n:Nat} (h:0<n) (h2:n<=2000):CDivL c ((n:Nat):Int):=cdivK (by omega) (by omega)
def spExch:L2.Sp:=λ vs H Q _=>∃ (l:List Nat) (c:Int),vs=[vt l,.int c]/\0<l.length/\l.length<=1200/\∀ i y x,l[i]?=some y->x ∈ signs->x ≠ y->Q (vt (exch l i x)) H
theorem ok_Qq (T:Txt K mg t):FnOk P w K mg base (CX1 P w) 2 t.a_Qq t.fd_Qq ["text", "cell"] spExch:=by
 refine T.F_Qq.okn (k:=1) sc_Qq (λ vs H Q E h=>?_) (λ cdv A outer s H vs Q E hr h=>?_)
 ·obtain ⟨l,c,rfl,_⟩:=h; rfl
 obtain ⟨l,c,rfl,h0,hl,q⟩:=h
 have G_Qbs:=@ok_Qbs P w K mg base t T
 have zl:l.length<=sizeLine:=by rw [sizeLine_eq]; omega
 have zs:signs.length<=sizeLine:=by rw [signs_len,sizeLine_eq]; decide
 have hp:(0:Int)<(l.length:Nat):=by omega
 have m1:=Int.emod_nonneg c (show ((l.length:Nat):Int) ≠ 0 by omega)
 have m2:=Int.emod_lt_of_pos c hp
 obtain ⟨i,hi⟩:∃ i:Nat,c % ((l.length:Nat):Int)=(i:Int):=⟨_,(Int.toNat_of_nonneg m1).symm⟩
 have hil:i<l.length:=by omega
 have hy:=List.getElem?_eq_getElem hil
 obtain ⟨j,v,ej,j94,hv,hvm⟩:=sg94 (c.fdiv ((l.length:Nat):Int))
 obtain ⟨k,u,ek,k94,hu,hum⟩:=sg94 (c.fdiv ((l.length:Nat):Int)+1)
 refine ⟨_,(pss_cons (ps_set (i:=2) sc_Qq.nd rfl (Or.inl rfl) (pe_call0 G_Qbs hr rfl T.m_Qbs T.F_Qbs.kp T.b_Qbs .nil pass1))
  (pss_cons (ps_set (i:=3) sc_Qq.nd rfl (Or.inl rfl) (pe_op op_mod (pv 1) (pe_callB call_len rfl T.m_len bt_len (pa_cons (pv 0) pa_nil))))
  (pss_cons (ps_set (i:=4) sc_Qq.nd rfl (Or.inl rfl) (pe_ix ixAny (pv 2) (pe_op op_mod (pe_op op_fdivL (pv 1) (pe_callB call_len rfl T.m_len bt_len (pa_cons (pv 0) pa_nil))) pe_int) (λ _ _=>rfl)))
  (pss_cons (ps_if (pt_cmpR (oEqA (hr.units0)) (pv 4) (pe_ix ixAny (pv 0) (pv 3) (λ _ _=>rfl)) (nomark _)) (pss_one (ps_set (i:=4) sc_Qq.nd rfl (Or.inl rfl) (pe_ix ixAny (pv 2) (pe_op op_mod (pe_op oAddN (pe_op op_fdivL (pv 1) (pe_callB call_len rfl T.m_len bt_len (pa_cons (pv 0) pa_nil))) pe_int) pe_int) (λ _ _=>rfl)))) pss_nil)
  (pss_one (ps_ret (pe_op oAddN (pe_op oAddN (pe_slice slAny (pv 0) po_none (po_some (pv 3))) (pv 4)) (pe_slice slAny (pv 0) (po_some (pe_op oAddN (pv 3) pe_int)) po_none)))))))),?_⟩
 refine ⟨rfl,?_⟩
 refine ⟨_,rfl,_,rfl,_,_,rfl,lenvS zl,_,_,rfl,rfl,hp,?_⟩
 try dsimp (config:={ proj:=false,eta:=false,zeta:=false,iota:=false }) only [tNil,tC]
 rw [hi]
 refine ⟨_,rfl,_,rfl,_,rfl,_,_,rfl,lenvS zl,_,_,rfl,rfl,cdivN h0 (by omega),_,_,rfl,rfl,(by show (0:Int)<94; decide),?_⟩
 try dsimp (config:={ proj:=false,eta:=false,zeta:=false,iota:=false }) only [tNil,tC]
 rw [ej]
 refine ixS zs (atI_nat hv) ?_
 have fin:∀ x,x ∈ signs->x ≠ l[i]->Q (vt (exch l i x)) H:=λ x hx hne=>q i _ x hy hx hne
 refine ⟨_,rfl,_,rfl,_,rfl,ixS zl (atI_nat hy) (.inl ⟨rfl,_,rfl,?_⟩)⟩
 refine if2 (λ he=>?_) (λ he=>?_)
 ·have he':v=l[i]:=by have:=vtx.mp he; exact (List.cons.inj this).1
  refine ⟨_,rfl,_,rfl,_,rfl,_,_,rfl,lenvS zl,_,_,rfl,rfl,cdivN h0 (by omega),.inl ⟨_,_,rfl,rfl,_,_,rfl,rfl,(by show (0:Int)<94; decide),?_⟩⟩
  try dsimp (config:={ proj:=false,eta:=false,zeta:=false,iota:=false }) only [tNil,tC]
  rw [ek]
  refine ixS zs (atI_nat hu) ?_
  repeat array_get_dec
  refine .inr (cutT zl ?_)
  rw [cut_to]
  repeat array_get_dec
  refine .inr (cutT zl ?_)
  try dsimp (config:={ proj:=false,eta:=false,zeta:=false,iota:=false }) only [tNil,tC]
  rw [show ((i:Int)+1)=((i+1:Nat):Int) by omega,cut_from]
  repeat array_get_dec
  exact fin u hum (he' ▸ sg_next ej ek hv hu)
 ·repeat array_get_dec
  refine .inr (cutT zl ?_)
  rw [cut_to]
  repeat array_get_dec
  refine .inr (cutT zl ?_)
  try dsimp (config:={ proj:=false,eta:=false,zeta:=false,iota:=false }) only [tNil,tC]
  rw [show ((i:Int)+1)=((i+1:Nat):Int) by omega,cut_from]
  repeat array_get_dec
  exact fin v hvm λ e=>he (by rw [e])
def putAt (l:List Nat) (i x:Nat):List Nat:=l.take i++[x]++l.drop i
def spPutIn:L2.Sp:=λ vs H Q _=>∃ (l:List Nat) (c:Int),vs=[vt l,.int c]/\l.length<=1200/\∀ i x,i<=l.length->x ∈ signs->Q (vt (putAt l i x)) H
theorem ok_Qbh (T:Txt K mg t):FnOk P w K mg base (CX1 P w) 2 t.a_Qbh t.fd_Qbh ["text", "cell"] spPutIn:=by
 refine T.F_Qbh.okn (k:=1) sc_Qbh (λ vs H Q E h=>?_) (λ cdv A outer s H vs Q E hr h=>?_)
 ·obtain ⟨l,c,rfl,_⟩:=h; rfl
 obtain ⟨l,c,rfl,hl,q⟩:=h
 have G_Qbs:=@ok_Qbs P w K mg base t T
 have zl:l.length<=sizeLine:=by rw [sizeLine_eq]; omega
 have zs:signs.length<=sizeLine:=by rw [signs_len,sizeLine_eq]; decide
 have hp:(0:Int)<((l.length:Nat):Int)+1:=by omega
 have m1:=Int.emod_nonneg c (show ((l.length:Nat):Int)+1 ≠ 0 by omega)
 have m2:=Int.emod_lt_of_pos c hp
 obtain ⟨i,hi⟩:∃ i:Nat,c % (((l.length:Nat):Int)+1)=(i:Int):=⟨_,(Int.toNat_of_nonneg m1).symm⟩
 obtain ⟨j,v,ej,j94,hv,hvm⟩:=sg94 (c.fdiv (((l.length:Nat):Int)+1))
 refine ⟨_,(pss_cons (ps_set (i:=2) sc_Qbh.nd rfl (Or.inl rfl) (pe_op op_mod (pv 1) (pe_op oAddN (pe_callB call_len rfl T.m_len bt_len (pa_cons (pv 0) pa_nil)) pe_int)))
  (pss_one (ps_ret (pe_op oAddN (pe_op oAddN (pe_slice slAny (pv 0) po_none (po_some (pv 2))) (pe_ix ixAny (pe_call0 G_Qbs hr rfl T.m_Qbs T.F_Qbs.kp T.b_Qbs .nil pass1) (pe_op op_mod (pe_op op_fdivL (pv 1) (pe_op oAddN (pe_callB call_len rfl T.m_len bt_len (pa_cons (pv 0) pa_nil)) pe_int)) pe_int) (λ _ _=>rfl))) (pe_slice slAny (pv 0) (po_some (pv 2)) po_none))))),?_⟩
 refine ⟨_,rfl,_,rfl,_,_,rfl,lenvS zl,.inl ⟨_,_,rfl,rfl,_,_,rfl,rfl,hp,?_⟩⟩
 try dsimp (config:={ proj:=false,eta:=false,zeta:=false,iota:=false }) only [tNil,tC]
 rw [hi]
 repeat array_get_dec
 refine .inr (cutT zl ?_)
 rw [cut_to]
 repeat array_get_dec
 refine ⟨rfl,_,rfl,_,rfl,_,_,rfl,lenvS zl,.inl ⟨_,_,rfl,rfl,_,_,rfl,rfl,cdivN (n:=l.length+1) (by omega) (by omega),_,_,rfl,rfl,(by show (0:Int)<94; decide),?_⟩⟩
 try dsimp (config:={ proj:=false,eta:=false,zeta:=false,iota:=false }) only [tNil,tC]
 rw [ej]
 refine ixS zs (atI_nat hv) ?_
 repeat array_get_dec
 refine .inr (cutT zl ?_)
 rw [cut_from]
 repeat array_get_dec
 exact q i v (by omega) hvm
def smw:Nat->List Nat->Nat
 | _,[]=>0
 | k,c::l=>c*(k+1)+smw (k+1) l
theorem smw_app:∀ (k:Nat) (a b:List Nat),smw k (a++b)=smw k a+smw (k+a.length) b
 | k,[],b=>by show _=0+_; rw [Nat.zero_add]; rfl
 | k,c::a,b=>by
   show c*(k+1)+smw (k+1) (a++b)=c*(k+1)+smw (k+1) a+_
   rw [smw_app (k+1) a b,List.length_cons,show k+1+a.length=k+(a.length+1) by omega,Nat.add_assoc]
theorem chk_smw (l:List Nat):∀ n,n<=l.length->chk l n=smw 0 (l.take n)
 | 0,_=>rfl
 | n+1,h=>by
   show chk l n+_=_
   rw [chk_smw l n (by omega),List.take_add_one,List.getElem?_eq_getElem (show n<l.length by omega)]
   show _=smw 0 (l.take n++[l[n]])
   rw [smw_app,List.length_take,Nat.min_eq_left (show n<=l.length by omega)]
   show _=_+(l[n]*(0+n+1)+0)
   rw [List.getD_eq_getElem?_getD,List.getElem?_eq_getElem (show n<l.length by omega)]
   simp
theorem ckr_smw (l:List Nat):ckr l=smw 0 l % 97:=by
 unfold ckr
 rw [chk_smw l l.length (Nat.le_refl _),List.take_length]
theorem cks_inj {a b:List Nat} (h:cks a=cks b):ckr a=ckr b:=by
 unfold cks at h
 have h1:=(List.cons.inj h).1
 have h2:=(List.cons.inj (List.cons.inj h).2).1
 omega
theorem p97 {e n:Nat} (he:1<=e) (he2:e<=94) (hn:1<=n) (hn2:n<=96):(e*n) % 97 ≠ 0:=by
 have go:∀ e ∈ List.range 95,∀ n ∈ List.range 97,1<=e->1<=n->(e*n) % 97 ≠ 0:=by decide +kernel
 exact go e (List.mem_range.mpr (by omega)) n (List.mem_range.mpr (by omega)) he hn
theorem mul97 {x y n:Nat} (hx:x<=y+94) (hy:y<=x+94) (hne:x ≠ y) (hn:1<=n) (hn2:n<=96) (k:Nat):(k+x*n) % 97 ≠ (k+y*n) % 97:=by
 intro h
 rcases Nat.lt_or_ge x y with z | z
 ·obtain ⟨e,rfl⟩:∃ e,y=x+e:=⟨y-x,by omega⟩
  have:=p97 (e:=e) (n:=n) (by omega) (by omega) hn hn2
  rw [Nat.add_mul] at h
  omega
 ·obtain ⟨e,rfl⟩:∃ e,x=y+e:=⟨x-y,by omega⟩
  have:=p97 (e:=e) (n:=n) (by omega) (by omega) hn hn2
  rw [Nat.add_mul] at h
  omega
theorem exch_ck {a z:List Nat} {x y:Nat} (hx:x<=y+94) (hy:y<=x+94) (hne:x ≠ y) (hn:a.length<96):ckr (a++[x]++z) ≠ ckr (a++[y]++z):=by
 rw [ckr_smw,ckr_smw,smw_app,smw_app,smw_app,smw_app,List.length_append,List.length_append]
 show (smw 0 a+(x*(0+a.length+1)+0)+_) % 97 ≠ (smw 0 a+(y*(0+a.length+1)+0)+_) % 97
 have:=mul97 hx hy hne (show 1<=0+a.length+1 by omega) (by omega) (smw 0 a+smw (0+(a.length+[x].length)) z)
 intro h
 refine this ?_
 rw [Nat.add_right_comm,Nat.add_right_comm (smw 0 a) (smw _ z)]
 exact h
theorem swap_ck {a z:List Nat} {x y:Nat} (hx:x<=y+94) (hy:y<=x+94) (hne:x ≠ y):ckr (a++[y,x]++z) ≠ ckr (a++[x,y]++z):=by
 rw [ckr_smw,ckr_smw,smw_app,smw_app,smw_app,smw_app,List.length_append,List.length_append]
 show (smw 0 a+(y*(0+a.length+1)+(x*(0+a.length+1+1)+0))+smw (0+(a.length+2)) z) % 97 ≠ (smw 0 a+(x*(0+a.length+1)+(y*(0+a.length+1+1)+0))+smw (0+(a.length+2)) z) % 97
 have q1:x*(0+a.length+1+1)=x*(0+a.length+1)+x:=Nat.mul_succ ..
 have q2:y*(0+a.length+1+1)=y*(0+a.length+1)+y:=Nat.mul_succ ..
 rw [q1,q2]
 clear q1 q2
 generalize x*(0+a.length+1)=u
 generalize y*(0+a.length+1)=v
 generalize smw 0 a=s0
 generalize smw (0+(a.length+2)) z=s1
 omega
theorem exch_no {bd:List Nat} (hb:∀ c ∈ bd,32<=c/\c<=126) (hl:bd.length<=96) {i x y:Nat} (hy:(bd++cks bd)[i]?=some y) (hx:32<=x/\x<=126) (hne:x ≠ y):∀ b,exch (bd++cks bd) i x ≠ b++cks b:=by
 intro b h
 unfold exch at h
 rcases Nat.lt_or_ge i bd.length with z | z
 ·have e1:(bd++cks bd).take i=bd.take i:=List.take_append_of_le_length (by omega)
  have e2:(bd++cks bd).drop (i+1)=bd.drop (i+1)++cks bd:=List.drop_append_of_le_length (by omega)
  rw [e1,e2,← List.append_assoc] at h
  have hb2:=app2 h rfl rfl
  have hc:=List.append_cancel_left (hb2 ▸ h)
  rw [List.getElem?_append_left z,List.getElem?_eq_getElem z] at hy
  cases hy
  have hck:=cks_inj hc
  rw [← hb2] at hck
  have hyb:=hb bd[i] (List.getElem_mem z)
  have hbd:bd=bd.take i++[bd[i]]++bd.drop (i+1):=by
   rw [List.append_assoc]
   show bd=bd.take i++(bd[i]::bd.drop (i+1))
   rw [List.getElem_cons_drop,List.take_append_drop]
  have hlen:(bd.take i).length=i:=by rw [List.length_take]; omega
  refine exch_ck (a:=bd.take i) (z:=bd.drop (i+1)) (x:=x) (y:=bd[i]) (by omega) (by omega) hne (by omega) ?_
  rw [← hbd]; exact hck.symm
 ·rw [List.take_append,List.take_of_length_le z,List.drop_append,List.drop_eq_nil_of_le (show bd.length<=i+1 by omega),List.nil_append,List.append_assoc,List.append_assoc] at h
  rw [List.getElem?_append_right z] at hy
  have hil:i-bd.length<2:=(List.getElem?_eq_some_iff.mp hy).1
  generalize hk:i-bd.length=k at hil hy h
  rw [show i+1-bd.length=k+1 by omega] at h
  have hlen:((cks bd).take k++([x]++(cks bd).drop (k+1))).length=2:=by
   rw [List.length_append,List.length_append,List.length_take,List.length_drop]
   show min k 2+(1+(2-(k+1)))=2
   omega
  have hb2:=app2 h hlen rfl
  subst hb2
  have hc:=List.append_cancel_left h
  have hget:((cks bd).take k++([x]++(cks bd).drop (k+1)))[k]?=some x:=by
   rw [List.getElem?_append_right (by rw [List.length_take]; omega),List.length_take,Nat.min_eq_left (show k<=(cks bd).length from Nat.le_of_lt hil),Nat.sub_self]; rfl
  rw [hc,hy] at hget
  cases hget
  exact hne rfl
def swp (l:List Nat) (i u v:Nat):List Nat:=l.take i++[v]++[u]++l.drop (i+2)
theorem swap_no {bd:List Nat} (hb:∀ c ∈ bd,32<=c/\c<=126) (hlast:∀ c,bd.getLast?=some c->¬ (65<=c/\c<=74)) {i u v:Nat} (hu:(bd++cks bd)[i]?=some u) (hv:(bd++cks bd)[i+1]?=some v) (hne:u ≠ v):∀ b,swp (bd++cks bd) i u v ≠ b++cks b:=by
 intro b h
 unfold swp at h
 have hi2:i+1<bd.length+2:=by have:=(List.getElem?_eq_some_iff.mp hv).1; rw [List.length_append] at this; exact this
 rcases Nat.lt_or_ge (i+1) bd.length with z | z
 ·have e1:(bd++cks bd).take i=bd.take i:=List.take_append_of_le_length (by omega)
  have e2:(bd++cks bd).drop (i+2)=bd.drop (i+2)++cks bd:=List.drop_append_of_le_length (by omega)
  rw [e1,e2,← List.append_assoc] at h
  have hb2:=app2 h rfl rfl
  have hc:=List.append_cancel_left (hb2 ▸ h)
  rw [List.getElem?_append_left (by omega),List.getElem?_eq_getElem (by omega)] at hu hv
  cases hu
  cases hv
  have hck:=cks_inj hc
  rw [← hb2] at hck
  have b1:=hb bd[i] (List.getElem_mem (by omega))
  have b2:=hb bd[i+1] (List.getElem_mem z)
  have hbd:bd=bd.take i++[bd[i],bd[i+1]]++bd.drop (i+2):=by
   rw [List.append_assoc]
   show bd=bd.take i++(bd[i]::bd[i+1]::bd.drop (i+2))
   rw [List.getElem_cons_drop,List.getElem_cons_drop,List.take_append_drop]
  refine swap_ck (a:=bd.take i) (z:=bd.drop (i+2)) (x:=bd[i]) (y:=bd[i+1]) (by omega) (by omega) hne ?_
  rw [← hbd,hck]
  congr 1
  simp only [List.append_assoc,List.cons_append,List.nil_append]
 ·rcases Nat.lt_or_ge i bd.length with z2 | z2
  ·have hil:i+1=bd.length:=by omega
   have e1:(bd++cks bd).take i=bd.take i:=List.take_append_of_le_length (by omega)
   have e2:(bd++cks bd).drop (i+2)=[65+ckr bd % 10]:=by
    rw [show i+2=bd.length+1 by omega,List.drop_append,List.drop_eq_nil_of_le (by omega),Nat.add_sub_cancel_left]; rfl
   rw [e1,e2,List.append_assoc (bd.take i++[v])] at h
   have hb2:=app2 h rfl rfl
   have hc:=List.append_cancel_left (hb2 ▸ h)
   have hu2:=(List.cons.inj hc).1
   have hr:=ckr_lt b
   rw [List.getElem?_append_left z2] at hu
   refine hlast u ?_ ⟨by omega,by omega⟩
   rw [List.getLast?_eq_getElem?,← hil,Nat.add_sub_cancel]; exact hu
  ·have hil:i=bd.length:=by omega
   subst hil
   rw [List.getElem?_append_right (Nat.le_refl _),Nat.sub_self] at hu
   rw [List.getElem?_append_right (show bd.length<=bd.length+1 by omega),Nat.add_sub_cancel_left] at hv
   rw [List.take_left,List.drop_eq_nil_of_le (by rw [List.length_append]; exact Nat.le_refl _),List.append_nil,List.append_assoc] at h
   have hb2:=app2 h rfl rfl
   subst hb2
   have hc:=List.append_cancel_left h
   have h1:v=65+ckr bd / 10:=(List.cons.inj hc).1
   have h2:u=65+ckr bd / 10:=(Option.some.inj hu).symm
   omega
theorem exch_len {l:List Nat} {i x:Nat} (h:i<l.length):(exch l i x).length=l.length:=by
 unfold exch
 rw [List.length_append,List.length_append,List.length_take,List.length_drop]
 show min i l.length+1+_=_
 omega
theorem exch_mem {l:List Nat} {i x c:Nat} (h:c ∈ exch l i x):c ∈ l\/c=x:=by
 unfold exch at h
 rcases List.mem_append.mp h with h | h
 ·rcases List.mem_append.mp h with h | h
  ·exact .inl (List.mem_of_mem_take h)
  ·exact .inr (List.mem_singleton.mp h)
 ·exact .inl (List.mem_of_mem_drop h)
theorem put_len {l:List Nat} {i x:Nat} (h:i<=l.length):(putAt l i x).length=l.length+1:=by
 unfold putAt
 rw [List.length_append,List.length_append,List.length_take,List.length_drop]
 show min i l.length+1+_=_
 omega
theorem put_mem {l:List Nat} {i x c:Nat} (h:c ∈ putAt l i x):c ∈ l\/c=x:=by
 unfold putAt at h
 rcases List.mem_append.mp h with h | h
 ·rcases List.mem_append.mp h with h | h
  ·exact .inl (List.mem_of_mem_take h)
  ·exact .inr (List.mem_singleton.mp h)
 ·exact .inl (List.mem_of_mem_drop h)
theorem with_restX {F G S:List Nat->Prop} (k:∀ n0,S n0->(∀ n,S n->F n)->G n0) (r:∀ n,S n->F n):∀ n0,S n0->G n0:=λ n0 h=>k n0 h r
def BadT (l:List Nat):Prop:=l.length<=201/\∀ c ∈ l,c<16^8
def spLChk:L2.Sp:=λ vs H Q _=>∃ (bd:List Nat) (c:Int),vs=[vt (bd++cks bd),.int c]/\0<bd.length/\bd.length<=200/\(∀ c ∈ bd,c<16^8)/\∀ H',Same H H'->Q (.bl true) H'
theorem cks_16 (l:List Nat):∀ c ∈ cks l,c<16^8:=λ c hc=>by
 have:=ckr_lt l
 unfold cks at hc
 simp only [List.mem_cons,List.not_mem_nil,or_false] at hc
 rcases hc with rfl | rfl<;>omega
theorem app_16 {a b:List Nat} (ha:∀ c ∈ a,c<16^8) (hb:∀ c ∈ b,c<16^8):∀ c ∈ a++b,c<16^8:=λ c hc=>by
 rcases List.mem_append.mp hc with h | h
 ·exact ha c h
 ·exact hb c h
theorem sg_16 {c:Nat} (h:c ∈ signs):c<16^8:=Nat.lt_trans (signs_lt c h).2.1 (by decide)
theorem ok_Qbb (T:Txt K mg t):FnOk P w K mg base (CX1 P w) 15 t.a_Qbb t.fd_Qbb ["packet", "cell"] spLChk:=by
 refine T.F_Qbb.okn (k:=14) sc_Qbb (λ vs H Q E h=>?_) (λ cdv A outer s H vs Q E hr h=>?_)
 ·obtain ⟨bd,c,rfl,_⟩:=h; rfl
 obtain ⟨bd,c,rfl,h0,hl,h16,q⟩:=h
 have G_Qq:=(@ok_Qq P w K mg base t T).mono (show 2<=14 by decide)
 have G_Qbh:=(@ok_Qbh P w K mg base t T).mono (show 2<=14 by decide)
 have G_Qbu:=(@ok_Qbu P w K mg base t T).mono (show 1<=14 by decide)
 have G_Qbg:=@ok_Qbg P w K mg base t T
 have zp:(bd++cks bd).length<=sizeLine:=by rw [List.length_append,sizeLine_eq]; show _+2<=_; omega
 have zb:bd.length<=sizeLine:=by rw [sizeLine_eq]; omega
 have hp:(0:Int)<(bd.length:Nat):=by omega
 have m1:=Int.emod_nonneg c (show ((bd.length:Nat):Int) ≠ 0 by omega)
 have m2:=Int.emod_lt_of_pos c hp
 obtain ⟨i,hi⟩:∃ i:Nat,c % ((bd.length:Nat):Int)=(i:Int):=⟨_,(Int.toNat_of_nonneg m1).symm⟩
 refine ⟨_,(pss_cons (ps_set (i:=2) sc_Qbb.nd rfl (Or.inl rfl) (pe_slice slAny (pv 0) po_none (po_some (pe_un un_neg pe_int))))
  (pss_cons (ps_set (i:=3) sc_Qbb.nd rfl (Or.inl rfl) (pe_op op_mod (pv 1) (pe_callB call_len rfl T.m_len bt_len (pa_cons (pv 2) pa_nil))))
  (pss_cons (ps_set (i:=4) sc_Qbb.nd rfl (Or.inl rfl) (pe_op oAddN (pe_slice slAny (pv 2) po_none (po_some (pv 3))) (pe_slice slAny (pv 2) (po_some (pe_op oAddN (pv 3) pe_int)) po_none)))
  (pss_cons (ps_if (pt_cmpR (oEqA (hr.units0)) (pe_op op_mod (pe_op op_fdivL (pv 1) pe_int) pe_int) pe_int (nomark _)) (pss_one (ps_set (i:=4) sc_Qbb.nd rfl (Or.inl rfl) (pe_call G_Qq hr rfl T.m_Qq T.F_Qq.kp T.b_Qq .nil pass1 (PAs.h (pas_cons (pv 2) (pas_cons (pv 1) pas_nil)))))) pss_nil)
  (pss_cons (ps_if (pt_cmpR (oEqA (hr.units0)) (pe_op op_mod (pe_op op_fdivL (pv 1) pe_int) pe_int) pe_int (nomark _)) (pss_one (ps_set (i:=4) sc_Qbb.nd rfl (Or.inl rfl) (pe_call G_Qbh hr rfl T.m_Qbh T.F_Qbh.kp T.b_Qbh .nil pass1 (PAs.h (pas_cons (pv 2) (pas_cons (pv 1) pas_nil)))))) pss_nil)
  (pss_one (ps_ret (pe_call G_Qbg hr rfl T.m_Qbg T.F_Qbg.kp T.b_Qbg .nil pass1 (pa_cons (pe_op oAddN (pv 4) (pe_call G_Qbu hr rfl T.m_Qbu T.F_Qbu.kp T.b_Qbu .nil pass1 (pa_cons (pv 4) pa_nil))) pa_nil))))))))),?_⟩
 refine ⟨_,rfl,2,rfl,_,rfl,.inr (cutT zp ?_)⟩
 rw [cut_cks]
 refine ⟨_,rfl,_,rfl,_,_,rfl,lenvS zb,_,_,rfl,rfl,hp,?_⟩
 try dsimp (config:={ proj:=false,eta:=false,zeta:=false,iota:=false }) only [tNil,tC]
 rw [hi]
 repeat array_get_dec
 refine .inr (cutT zb ?_)
 rw [cut_to]
 repeat array_get_dec
 refine .inr (cutT zb ?_)
 try dsimp (config:={ proj:=false,eta:=false,zeta:=false,iota:=false }) only [tNil,tC]
 rw [show ((i:Int)+1)=((i+1:Nat):Int) by omega,cut_from]
 refine .inr (.inl (catX (by rw [sizeLine_eq,List.length_take,List.length_drop]; omega) ?_))
 have hB:BadT (bd.take i++bd.drop (i+1)):=⟨by rw [List.length_append,List.length_take,List.length_drop]; omega,app_16 (λ c hc=>h16 c (List.mem_of_mem_take hc)) (λ c hc=>h16 c (List.mem_of_mem_drop hc))⟩
 generalize bd.take i++bd.drop (i+1)=X0 at hB ⊢
 revert X0
 refine with_restX (S:=BadT) (λ X hX k=>⟨_,rfl,_,_,rfl,rfl,cdivK (by decide) (by decide),_,_,rfl,rfl,(by show (0:Int)<3; decide),.inl ⟨rfl,_,rfl,ite2' (λ _=>k X hX) (λ _=>?_)⟩⟩) ?_
 ·refine ⟨_,rfl,_,rfl,bd,c,rfl,h0,by omega,λ i y x hy hx hne=>k _ ⟨?_,λ c hc=>?_⟩⟩
  ·rw [exch_len (List.getElem?_eq_some_iff.mp hy).1]; omega
  ·rcases exch_mem hc with h | h
   ·exact h16 c h
   ·rw [h]; exact sg_16 hx
 refine with_restX (S:=BadT) (λ X hX k=>⟨_,rfl,_,_,rfl,rfl,cdivK (by decide) (by decide),_,_,rfl,rfl,(by show (0:Int)<3; decide),.inl ⟨rfl,_,rfl,ite2' (λ _=>k X hX) (λ _=>?_)⟩⟩) ?_
 ·refine ⟨_,rfl,_,rfl,bd,c,rfl,by omega,λ i x hi hx=>k _ ⟨?_,λ c hc=>?_⟩⟩
  ·rw [put_len hi]; omega
  ·rcases put_mem hc with h | h
   ·exact h16 c h
   ·rw [h]; exact sg_16 hx
 intro X hX
 refine ⟨_,rfl,_,rfl,X,rfl,by have:=hX.1; omega,hX.2,λ H1 s1=>.inr (.inl (catX (by have:=hX.1; rw [sizeLine_eq]; show _+2<=_; omega) ?_))⟩
 exact ⟨X++cks X,rfl,by have:=hX.1; rw [List.length_append]; show _+2<=_; omega,app_16 hX.2 (cks_16 X),λ H2 s2=>q _ (s1.trans s2)⟩
theorem no_dec {pk:List Nat} (h:∀ b,pk ≠ b++cks b):∀ f L d l b,¬ Dec pk f L d l b:=λ _ _ _ _ _ hD=>h _ hD.2
def spSpo:L2.Sp:=λ vs H Q _=>∃ (bd:List Nat) (c:Int),vs=[vt (bd++cks bd),.int c]/\0<bd.length/\bd.length<=96/\(∀ c ∈ bd,32<=c/\c<=126)/\(∀ c,bd.getLast?=some c->¬ (65<=c/\c<=74))/\∀ H',Same H H'->Q (.bl true) H'
theorem ok_Qbi (T:Txt K mg t):FnOk P w K mg base (CX1 P w) 15 t.a_Qbi t.fd_Qbi ["packet", "cell"] spSpo:=by
 refine T.F_Qbi.okn (k:=14) sc_Qbi (λ vs H Q E h=>?_) (λ cdv A outer s H vs Q E hr h=>?_)
 ·obtain ⟨bd,c,rfl,_⟩:=h; rfl
 obtain ⟨bd,c,rfl,h0,hl,hb,hlast,q⟩:=h
 have G_Qq:=(@ok_Qq P w K mg base t T).mono (show 2<=14 by decide)
 have G_Qbh:=(@ok_Qbh P w K mg base t T).mono (show 2<=14 by decide)
 have G_Qba:=(@ok_Qba P w K mg base t T).mono (show 13<=14 by decide)
 have G_Qbg:=@ok_Qbg P w K mg base t T
 have h16:∀ c ∈ bd++cks bd,c<16^8:=app_16 (λ c hc=>by have:=hb c hc; omega) (cks_16 bd)
 have hpl:(bd++cks bd).length=bd.length+2:=by rw [List.length_append]; rfl
 have X1:=λ i x y=>exch_no (bd:=bd) hb hl (i:=i) (x:=x) (y:=y)
 have X2:=λ i u v=>swap_no (bd:=bd) hb hlast (i:=i) (u:=u) (v:=v)
 generalize bd++cks bd=pk at h16 hpl X1 X2 ⊢
 have zp:pk.length<=sizeLine:=by rw [hpl,sizeLine_eq]; omega
 have hp:(0:Int)<((pk.length:Nat):Int)-1:=by omega
 have m1:=Int.emod_nonneg c (show ((pk.length:Nat):Int)-1 ≠ 0 by omega)
 have m2:=Int.emod_lt_of_pos c hp
 obtain ⟨i,hi⟩:∃ i:Nat,c % (((pk.length:Nat):Int)-1)=(i:Int):=⟨_,(Int.toNat_of_nonneg m1).symm⟩
 have hil:i+1<pk.length:=by omega
 have hu:=List.getElem?_eq_getElem (show i<pk.length by omega)
 have hv:=List.getElem?_eq_getElem hil
 refine ⟨_,(pss_cons (ps_set (i:=2) sc_Qbi.nd rfl (Or.inl rfl) (pe_op op_mod (pv 1) (pe_op op_sub (pe_callB call_len rfl T.m_len bt_len (pa_cons (pv 0) pa_nil)) pe_int)))
  (pss_cons (ps_if (pt_cmpR (oNeN (hr.units0)) (pe_ix ixAny (pv 0) (pv 2) (λ _ _=>rfl)) (pe_ix ixAny (pv 0) (pe_op oAddN (pv 2) pe_int) (λ _ _=>rfl)) (nomark _)) (pss_cons (ps_set (i:=3) sc_Qbi.nd rfl (Or.inl rfl) (pe_op oAddN (pe_op oAddN (pe_op oAddN (pe_slice slAny (pv 0) po_none (po_some (pv 2))) (pe_ix ixAny (pv 0) (pe_op oAddN (pv 2) pe_int) (λ _ _=>rfl))) (pe_ix ixAny (pv 0) (pv 2) (λ _ _=>rfl))) (pe_slice slAny (pv 0) (po_some (pe_op oAddN (pv 2) pe_int)) po_none)))
  (pss_one (ps_if (pt_not (pt_val (pe_call G_Qba hr rfl T.m_Qba T.F_Qba.kp T.b_Qba .nil pass1 (pa_cons (pv 3) pa_nil)))) (pss_one (ps_ret pe_bl)) pss_nil))) pss_nil)
  (pss_cons (ps_set (i:=4) sc_Qbi.nd rfl (Or.inl rfl) (pe_op oAddN pe_int (pe_op op_mod (pe_op op_fdivL (pv 1) pe_int) (pe_callB call_len rfl T.m_len bt_len (pa_cons (pv 0) pa_nil)))))
  (pss_cons (ps_if (PW.pt (pw_or (pt_not (pt_val (pe_call G_Qbg hr rfl T.m_Qbg T.F_Qbg.kp T.b_Qbg .nil pass1 (pa_cons (pe_slice slAny (pv 0) (po_some (pv 4)) po_none) pa_nil)))) (pw_or1 (pt_not (pt_val (pe_call G_Qbg hr rfl T.m_Qbg T.F_Qbg.kp T.b_Qbg .nil pass1 (pa_cons (pe_slice slAny (pv 0) po_none (po_some (pe_op op_sub (pe_callB call_len rfl T.m_len bt_len (pa_cons (pv 0) pa_nil)) (pv 4)))) pa_nil))))))) (pss_one (ps_ret pe_bl)) pss_nil)
  (pss_one (ps_ret (pe_and (pe_call G_Qba hr rfl T.m_Qba T.F_Qba.kp T.b_Qba .nil pass1 (pa_cons (pe_call G_Qq hr rfl T.m_Qq T.F_Qq.kp T.b_Qq .nil pass1 (PAs.h (pas_cons (pv 0) (pas_cons (pv 1) pas_nil)))) pa_nil)) (pe_one (pe_call G_Qbg hr rfl T.m_Qbg T.F_Qbg.kp T.b_Qbg .nil pass1 (pa_cons (pe_call G_Qbh hr rfl T.m_Qbh T.F_Qbh.kp T.b_Qbh .nil pass1 (PAs.h (pas_cons (pv 0) (pas_cons (pv 1) pas_nil)))) pa_nil)))))))))),?_⟩
 refine ⟨_,rfl,_,rfl,_,_,rfl,lenvS zp,_,_,rfl,rfl,_,_,rfl,rfl,hp,?_⟩
 try dsimp (config:={ proj:=false,eta:=false,zeta:=false,iota:=false }) only [tNil,tC]
 rw [hi]
 refine ⟨_,rfl,_,rfl,ixS zp (atI_nat hu) ?_⟩
 refine ⟨_,rfl,_,rfl,.inl ⟨_,_,rfl,rfl,?_⟩⟩
 try dsimp (config:={ proj:=false,eta:=false,zeta:=false,iota:=false }) only [tNil,tC]
 rw [show ((i:Int)+1)=((i+1:Nat):Int) by omega]
 refine ixS zp (atI_nat hv) (.inl ⟨rfl,_,rfl,?_⟩)
 have hp2:(0:Int)<(pk.length:Nat):=by omega
 have n1:=Int.emod_nonneg (c.fdiv 7) (show ((pk.length:Nat):Int) ≠ 0 by omega)
 have n2:=Int.emod_lt_of_pos (c.fdiv 7) hp2
 obtain ⟨j,hj⟩:∃ j:Nat,1+c.fdiv 7 % ((pk.length:Nat):Int)=(j:Int):=⟨(1+c.fdiv 7 % ((pk.length:Nat):Int)).toNat,(Int.toNat_of_nonneg (by omega)).symm⟩
 refine ifn2 (λ hne=>?_) (λ heq=>?_)
 ·have hne':pk[i] ≠ pk[i+1]:=λ e=>hne (by rw [e])
  repeat array_get_dec
  refine .inr (cutT zp ?_)
  rw [cut_to]
  refine ⟨_,rfl,_,rfl,.inl ⟨_,_,rfl,rfl,?_⟩⟩
  try dsimp (config:={ proj:=false,eta:=false,zeta:=false,iota:=false }) only [tNil,tC]
  rw [show ((i:Int)+1)=((i+1:Nat):Int) by omega]
  refine ixS zp (atI_nat hv) (.inr (.inl (catX (by rw [sizeLine_eq,List.length_take]; show _+1<=_; omega) ?_)))
  refine ⟨_,rfl,_,rfl,ixS zp (atI_nat hu) (.inr (.inl (catX (by rw [sizeLine_eq,List.length_append,List.length_take]; show _+1+1<=_; omega) ?_)))⟩
  repeat array_get_dec
  refine .inr (cutT zp ?_)
  try dsimp (config:={ proj:=false,eta:=false,zeta:=false,iota:=false }) only [tNil,tC]
  rw [show ((i:Int)+2)=((i+2:Nat):Int) by omega,cut_from]
  refine .inr (.inl (catX (by rw [sizeLine_eq,List.length_append,List.length_append,List.length_take,List.length_drop]; show _+1+1+_<=_; omega) ?_))
  refine ⟨_,rfl,swp pk i pk[i] pk[i+1],rfl,?_,λ c hc=>?_,no_dec (X2 i _ _ hu hv hne'),λ H2 s2=>⟨true,rfl,iteF ?_⟩⟩
  ·unfold swp
   rw [List.length_append,List.length_append,List.length_append,List.length_take,List.length_drop]
   show _+1+1+_<=_
   omega
  ·unfold swp at hc
   rcases List.mem_append.mp hc with h | h
   ·rcases List.mem_append.mp h with h | h
    ·rcases List.mem_append.mp h with h | h
     ·exact h16 c (List.mem_of_mem_take h)
     ·rw [List.mem_singleton.mp h]; exact h16 _ (List.getElem_mem _)
    ·rw [List.mem_singleton.mp h]; exact h16 _ (List.getElem_mem _)
   ·exact h16 c (List.mem_of_mem_drop h)
  refine ⟨_,rfl,_,_,rfl,rfl,cdivK (by decide) (by decide),_,rfl,_,_,rfl,lenvS zp,_,_,rfl,rfl,hp2,.inl ⟨_,_,rfl,rfl,?_⟩⟩
  try dsimp (config:={ proj:=false,eta:=false,zeta:=false,iota:=false }) only [tNil,tC]
  rw [hj]
  refine ⟨_,rfl,_,rfl,_,rfl,.inr (cutT zp ?_)⟩
  refine ⟨_,rfl,Nat.le_trans (cut_le _ _ _) (by omega),λ c hc=>h16 c (cut_sub c hc),λ H5 s5=>⟨true,rfl,iteF ?_⟩⟩
  refine ⟨_,rfl,_,rfl,_,_,rfl,lenvS zp,_,rfl,_,_,rfl,rfl,_,rfl,.inr (cutT zp ?_)⟩
  refine ⟨_,rfl,Nat.le_trans (cut_le _ _ _) (by omega),λ c hc=>h16 c (cut_sub c hc),λ H6 s6=>⟨true,rfl,iteF ?_⟩⟩
  refine ⟨_,rfl,_,rfl,pk,c,rfl,by omega,by omega,λ i' y x hy hx hne3=>?_⟩
  have hxs:=signs_lt x hx
  refine ⟨exch pk i' x,rfl,by rw [exch_len (List.getElem?_eq_some_iff.mp hy).1]; omega,λ c hc=>?_,no_dec (X1 i' x y hy (by omega) hne3),λ H7 s7=>⟨true,rfl,iteT ?_⟩⟩
  ·rcases exch_mem hc with h | h
   ·exact h16 c h
   ·rw [h]; exact sg_16 hx
  refine ⟨_,rfl,_,rfl,pk,c,rfl,by omega,λ i2 x2 hi2 hx2=>?_⟩
  refine ⟨putAt pk i2 x2,rfl,by rw [put_len hi2]; omega,λ c hc=>?_,λ H8 s8=>q _ (s2.trans (s5.trans (s6.trans (s7.trans s8))))⟩
  rcases put_mem hc with h | h
  ·exact h16 c h
  ·rw [h]; exact sg_16 hx2
 ·show tSeq _ _ _ _ _
  refine ⟨_,rfl,_,_,rfl,rfl,cdivK (by decide) (by decide),_,rfl,_,_,rfl,lenvS zp,_,_,rfl,rfl,hp2,.inl ⟨_,_,rfl,rfl,?_⟩⟩
  try dsimp (config:={ proj:=false,eta:=false,zeta:=false,iota:=false }) only [tNil,tC]
  rw [hj]
  refine ⟨_,rfl,_,rfl,_,rfl,.inr (cutT zp ?_)⟩
  refine ⟨_,rfl,Nat.le_trans (cut_le _ _ _) (by omega),λ c hc=>h16 c (cut_sub c hc),λ H5 s5=>⟨true,rfl,iteF ?_⟩⟩
  refine ⟨_,rfl,_,rfl,_,_,rfl,lenvS zp,_,rfl,_,_,rfl,rfl,_,rfl,.inr (cutT zp ?_)⟩
  refine ⟨_,rfl,Nat.le_trans (cut_le _ _ _) (by omega),λ c hc=>h16 c (cut_sub c hc),λ H6 s6=>⟨true,rfl,iteF ?_⟩⟩
  refine ⟨_,rfl,_,rfl,pk,c,rfl,by omega,by omega,λ i' y x hy hx hne3=>?_⟩
  have hxs:=signs_lt x hx
  refine ⟨exch pk i' x,rfl,by rw [exch_len (List.getElem?_eq_some_iff.mp hy).1]; omega,λ c hc=>?_,no_dec (X1 i' x y hy (by omega) hne3),λ H7 s7=>⟨true,rfl,iteT ?_⟩⟩
  ·rcases exch_mem hc with h | h
   ·exact h16 c h
   ·rw [h]; exact sg_16 hx
  refine ⟨_,rfl,_,rfl,pk,c,rfl,by omega,λ i2 x2 hi2 hx2=>?_⟩
  refine ⟨putAt pk i2 x2,rfl,by rw [put_len hi2]; omega,λ c hc=>?_,λ H8 s8=>q _ (s5.trans (s6.trans (s7.trans s8)))⟩
  rcases put_mem hc with h | h
  ·exact h16 c h
  ·rw [h]; exact sg_16 hx2
def hd0 (e:Nat) (X:List Nat):List Nat:=[48+e]++[48+X.length]++X++[48,48,48]
theorem head_no {e:Nat} {X:List Nat} (hno:¬ (okL X/\e<=6)):∀ f L d l b,¬ Dec (hd0 e X++cks (hd0 e X)) f L d l b:=λ f L d l b hD=>by
 have h:=pkt_body hD.2
 have h1:hd0 e X=(48+e)::(48+X.length)::(X++[48,48,48]):=rfl
 have h2:bdy (f::L) d l.length b=(48+d)::(48+(f::L).length)::((f::L)++(z3 l.length++grp (grN b) b)):=by unfold bdy hdr; simp only [List.append_assoc]; rfl
 rw [h1,h2] at h
 have e1:=(List.cons.inj h).1
 have e2:=(List.cons.inj (List.cons.inj h).2).1
 have e3:=(List.cons.inj (List.cons.inj h).2).2
 have e4:=(List.append_inj e3 (by omega)).1
 refine hno ⟨?_,by have:=hD.1.d6; omega⟩
 rw [e4]
 exact ⟨hD.1.l2,hD.1.l6,hD.1.nd,λ c hc=>sg_of (hD.1.sg c hc)⟩
structure NoHead (K:PySem.W.Frag) (H:Hp) (x:V):Prop where
 ex:∃ (p:Addr) (e:Nat) (X:List Nat),x=.ref p/\SqT K H p [.int (e:Int),vt X]/\e<=9/\X.length<=9/\(∀ c ∈ X,c<16^8)/\¬ (okL X/\e<=6)
theorem pigeon:∀ {S L:List Nat},S.Nodup->(∀ c ∈ S,c ∈ L)->S.length<=L.length
 | [],_,_,_=>Nat.zero_le _
 | s::S,L,hn,h=>by
   obtain ⟨h1,h2⟩:=List.nodup_cons.mp hn
   have hs:=h s List.mem_cons_self
   have ih:=pigeon (S:=S) (L:=L.erase s) h2 λ c hc=>(List.mem_erase_of_ne (λ (e:c=s)=>h1 (e ▸ hc))).mpr (h c (List.mem_cons_of_mem _ hc))
   rw [List.length_erase_of_mem hs] at ih
   have:0<L.length:=List.length_pos_of_mem hs
   simp only [List.length_cons]; omega
theorem flt_len (p:Nat->Bool):∀ l:List Nat,(l.filter p).length+(l.filter λ c=>!p c).length=l.length
 | []=>rfl
 | c::l=>by
   have ih:=flt_len p l
   cases h:p c<;>simp [List.filter_cons,h]<;>omega
def lackV (L:List Nat):V->Bool
 | .str z=>!decide (z.cps.toList.headD 0 ∈ L)
 | _=>false
theorem lacked9 {L:List Nat} (hk:L.length<=6):∃ lk:List Nat,((signs.map λ c=>vt [c]).filter (lackV L)).map (λ v=>v)=lk.map (λ c=>vt [c])/\(∀ c ∈ lk,c ∉ L/\c ∈ signs)/\88<=lk.length/\lk.length<=94:=by
 refine ⟨signs.filter λ c=>!decide (c ∈ L),?_,λ c hc=>?_,?_,?_⟩
 ·rw [List.map_id',List.filter_map]; rfl
 ·obtain ⟨h1,h2⟩:=List.mem_filter.mp hc
  exact ⟨by simpa using h2,h1⟩
 ·have h1:(signs.filter λ c=>decide (c ∈ L)).length<=L.length:=pigeon (signs_nodup.filter _) λ c hc=>by simpa using (List.mem_filter.mp hc).2
  have h2:=flt_len (λ c=>decide (c ∈ L)) signs
  rw [signs_len] at h2
  omega
 ·exact Nat.le_trans (List.length_filter_le _ _) (by rw [signs_len]; exact Nat.le_refl _)
theorem cut_vts (l:List Nat) (lo hi:Option Int):cutV (l.map λ c=>vt [c]) lo hi=(cutL l lo hi).map λ c=>vt [c]:=by
 unfold cutV cutL
 rw [List.length_map,List.map_take,List.map_drop]
theorem str000:V.str (Str.ofString "000")=vt [48,48,48]:=congrArg V.str (by decide +kernel)
def spHeads (K:PySem.W.Frag):L2.Sp:=λ vs H Q _=>∃ (fr:Addr) (LL S:List Nat) (d:Nat) (c:Int),vs=[.ref fr,.int c]/\SqT K H fr [vt LL,.int (d:Int)]/\2<=LL.length/\LL.length<=6/\Drawn LL.length LL S/\d<=6/\∀ H',Same H H'->Q (.bl true) H'
theorem ok_Qbv (T:Txt K mg t):FnOk P w K mg base (CX1 P w) 14 t.a_Qbv t.fd_Qbv ["frame", "cell"] (spHeads K):=by
 refine T.F_Qbv.okn (k:=13) sc_Qbv (λ vs H Q E h=>?_) (λ cdv A outer s H vs Q E hr h=>?_)
 ·obtain ⟨fr,LL,S,d,c,rfl,_⟩:=h; rfl
 obtain ⟨fr,LL,S,d,c,rfl,hF,l2,l6,hDr,hd,q⟩:=h
 have G_Qbs:=(@ok_Qbs P w K mg base t T).mono (show 1<=13 by decide)
 have G_Qba:=@ok_Qba P w K mg base t T
 have G_Qbu:=(@ok_Qbu P w K mg base t T).mono (show 1<=13 by decide)
 refine ⟨_,(pss_cons (ps_asg (pv 0) (pg_tup rfl (pgs_cons (pg_name (i:=2) sc_Qbv.nd rfl (Or.inr rfl)) (pgs_cons (pg_name (i:=3) sc_Qbv.nd rfl (Or.inl rfl)) pgs_nil))))
  (pss_cons (ps_setLC (i:=4) sc_Qbv.nd rfl rfl (compSc_of (N:=["sign", "letters"]) (cap:=[none,some 2]) (by kernel_rfl)) rfl (piAny (pe_call0 G_Qbs hr rfl T.m_Qbs T.F_Qbs.kp T.b_Qbs .nil pass1)) ⟨λ _=>(pg_name (i:=0) (show List.Nodup (["sign", "letters"]:List Str) by decide +kernel) rfl (Or.inl rfl)),λ _=>(pf_one (pt_cmpR oNotIn (pv 0) (pv 1) (by with_unfolding_all rfl))),λ _=>(pv 0)⟩ rfl)
  (pss_cons (ps_set (i:=5) sc_Qbv.nd rfl (Or.inl rfl) (pe_op op_mod (pv 1) (pe_callB call_len rfl T.m_len bt_len (pa_cons (pv 2) pa_nil))))
  (pss_cons (ps_set (i:=6) sc_Qbv.nd rfl (Or.inl rfl) (pe_op op_mod (pe_op oAddN (pe_op oAddN (pv 5) pe_int) (pe_op op_mod (pe_op op_fdivL (pv 1) pe_int) (pe_op op_sub (pe_callB call_len rfl T.m_len bt_len (pa_cons (pv 2) pa_nil)) pe_int))) (pe_callB call_len rfl T.m_len bt_len (pa_cons (pv 2) pa_nil))))
  (pss_cons (ps_set (i:=7) sc_Qbv.nd rfl (Or.inl rfl) (pe_bm PySem.F.plainAttrs_str PySem.F.slot_str_join PySem.F.type_str_join mt_join pe_str (pa_cons (pe_slice slAny (pv 4) po_none (po_some (pe_op op_sub (pe_op oAddN pe_int (pe_op op_mod (pv 1) pe_int)) (pe_callB call_len rfl T.m_len bt_len (pa_cons (pv 2) pa_nil))))) pa_nil)))
  (pss_cons (ps_set (i:=8) sc_Qbv.nd rfl (Or.inl rfl) (pe_lst (PAs.h (pas_cons (pe_tup (PAs.h (pas_cons (pe_op oAddN pe_int (pe_op op_mod (pv 1) pe_int)) (pas_cons (pv 2) pas_nil)))) (pas_cons (pe_tup (PAs.h (pas_cons (pv 3) (pas_cons (pe_op oAddN (pe_op oAddN (pe_slice slAny (pv 2) po_none (po_some (pv 5))) (pe_ix ixAny (pv 2) (pv 6) (λ _ _=>rfl))) (pe_slice slAny (pv 2) (po_some (pe_op oAddN (pv 5) pe_int)) po_none)) pas_nil)))) pas_nil)))))
  (pss_cons (ps_set (i:=8) sc_Qbv.nd rfl (Or.inl rfl) (pe_op oAddN (pv 8) (pe_lst (PAs.h (pas_cons (pe_tup (PAs.h (pas_cons (pv 3) (pas_cons (pe_op oAddN (pv 7) (pv 2)) pas_nil)))) (pas_cons (pe_tup (PAs.h (pas_cons (pv 3) (pas_cons (pe_op oAddN (pv 2) (pv 7)) pas_nil)))) (pas_cons (pe_tup (PAs.h (pas_cons (pv 3) (pas_cons pe_str pas_nil)))) (pas_cons (pe_tup (PAs.h (pas_cons (pv 3) (pas_cons (pe_ix ixAny (pv 2) (pv 5) (λ _ _=>rfl)) pas_nil)))) pas_nil))))))))
  (pss_cons (ps_for PassesOwn.never rfl (piAny (pv 8)) (pg_name (i:=9) sc_Qbv.nd rfl (Or.inl rfl)) (pss_cons (ps_set (i:=10) sc_Qbv.nd rfl (Or.inl rfl) (pe_op oAddN (pe_op oAddN (pe_op oAddN (pe_callTy call_str_int rfl T.m_str bt_str (pa_cons (pe_ix ixAny (pv 9) pe_int (λ _ _=>rfl)) pa_nil)) (pe_callTy call_str_int rfl T.m_str bt_str (pa_cons (pe_callB call_len rfl T.m_len bt_len (pa_cons (pe_ix ixAny (pv 9) pe_int (λ _ _=>rfl)) pa_nil)) pa_nil))) (pe_ix ixAny (pv 9) pe_int (λ _ _=>rfl))) pe_str))
  (pss_one (ps_if (pt_not (pt_val (pe_call G_Qba hr rfl T.m_Qba T.F_Qba.kp T.b_Qba .nil pass1 (pa_cons (pe_op oAddN (pv 10) (pe_call G_Qbu hr rfl T.m_Qbu T.F_Qbu.kp T.b_Qbu .nil pass1 (pa_cons (pv 10) pa_nil))) pa_nil)))) (pss_one (ps_ret pe_bl)) pss_nil))))
  (pss_one (ps_ret pe_bl)))))))))),?_⟩
 have zL:LL.length<=sizeLine:=by rw [sizeLine_eq]; omega
 refine ⟨_,rfl,fr,_,rfl,hF,rfl,_,_,rfl,_,_,rfl,rfl,?_⟩
 refine ⟨rfl,.inr (.inr ⟨_,rfl,λ D hD cp=>?_⟩)⟩
 refine lc_pure (walk_tx signs) (caps:=[some (vt LL)]) (lackV LL) (λ v=>v) (λ _=>trivial) (by rw [List.length_map,signs_len]; decide) ?_ ?_
 ·intro i x ys R hx hy h1 h2
  obtain ⟨c,_,rfl⟩:=sign_at hx
  refine ⟨_,rfl,_,rfl,.inl ⟨c,LL,rfl,rfl,_,rfl,?_⟩⟩
  rw [if_pos rfl]
  by_cases z:c ∈ LL
  ·rw [decide_eq_true z]
   exact iteF (h2 (by show (!decide (c ∈ LL))=false; rw [decide_eq_true z]; rfl))
  ·rw [decide_eq_false z]
   refine iteT ⟨_,rfl,ys,upd_same,hy,?_⟩
   rw [upd_upd]; exact h1 (by show (!decide (c ∈ LL))=true; rw [decide_eq_false z]; rfl)
 obtain ⟨lk,hlk,hk1,hk2⟩:=lacked9 l6
 rw [hlk]
 have hK:SqL K (upd H D (.lst (lk.map λ c=>vt [c]))) D (lk.map λ c=>vt [c]):=SqL.of upd_same
 have hF1:=new_tup (o:=.lst (lk.map λ c=>vt [c])) hD hF
 have s1:=same_new (o:=.lst (lk.map λ c=>vt [c])) hD
 generalize upd H D (.lst (lk.map λ c=>vt [c]))=H1 at hK hF1 s1 ⊢
 have hp:(0:Int)<(LL.length:Nat):=by omega
 have m1:=Int.emod_nonneg c (show ((LL.length:Nat):Int) ≠ 0 by omega)
 have m2:=Int.emod_lt_of_pos c hp
 obtain ⟨i,hi⟩:∃ i:Nat,c % ((LL.length:Nat):Int)=(i:Int):=⟨_,(Int.toNat_of_nonneg m1).symm⟩
 refine ⟨_,rfl,_,rfl,_,_,rfl,lenvS zL,_,_,rfl,rfl,hp,?_⟩
 try dsimp (config:={ proj:=false,eta:=false,zeta:=false,iota:=false }) only [tNil,tC]
 rw [hi]
 have n1:=Int.emod_nonneg (c.fdiv 6) (show ((LL.length:Nat):Int)-1 ≠ 0 by omega)
 have n2:=Int.emod_lt_of_pos (c.fdiv 6) (show (0:Int)<((LL.length:Nat):Int)-1 by omega)
 obtain ⟨j0,hj0⟩:∃ j:Nat,c.fdiv 6 % (((LL.length:Nat):Int)-1)=(j:Int):=⟨_,(Int.toNat_of_nonneg n1).symm⟩
 refine ⟨_,rfl,.inl ⟨_,_,rfl,rfl,_,rfl,_,_,rfl,rfl,cdivK (by decide) (by decide),_,rfl,_,_,rfl,lenvS zL,_,_,rfl,rfl,_,_,rfl,rfl,(by show (0:Int)<((LL.length:Nat):Int)-1; omega),?_⟩⟩
 try dsimp (config:={ proj:=false,eta:=false,zeta:=false,iota:=false }) only [tNil,tC]
 rw [hj0]
 have o1:=Int.emod_nonneg ((i:Int)+1+(j0:Int)) (show ((LL.length:Nat):Int) ≠ 0 by omega)
 have o2:=Int.emod_lt_of_pos ((i:Int)+1+(j0:Int)) hp
 obtain ⟨o,ho⟩:∃ o:Nat,((i:Int)+1+(j0:Int)) % ((LL.length:Nat):Int)=(o:Int):=⟨_,(Int.toNat_of_nonneg o1).symm⟩
 have hoi:o ≠ i:=λ e=>by
  subst e
  have hd:=Int.emod_emod_of_dvd ((o:Int)+1+(j0:Int)) (Int.dvd_refl ((LL.length:Nat):Int))
  have:=Int.mul_ediv_add_emod ((o:Int)+1+(j0:Int)) ((LL.length:Nat):Int)
  rw [ho] at this
  have hq:((LL.length:Nat):Int)*(((o:Int)+1+(j0:Int)) / ((LL.length:Nat):Int))=1+(j0:Int):=by omega
  have hdv:((LL.length:Nat):Int) ∣ 1+(j0:Int):=⟨_,hq.symm⟩
  have:=Int.le_of_dvd (by omega) hdv
  omega
 have hil:i<LL.length:=by omega
 have hol:o<LL.length:=by omega
 refine .inl ⟨_,_,rfl,rfl,_,rfl,_,_,rfl,lenvS zL,_,_,rfl,rfl,hp,?_⟩
 try dsimp (config:={ proj:=false,eta:=false,zeta:=false,iota:=false }) only [tNil,tC]
 rw [ho]
 have t1:=Int.emod_nonneg c (show (3:Int) ≠ 0 by decide)
 have t2:=Int.emod_lt_of_pos c (show (0:Int)<3 by decide)
 obtain ⟨k3,hk3⟩:∃ k:Nat,c % 3=(k:Int):=⟨_,(Int.toNat_of_nonneg t1).symm⟩
 refine ⟨rfl,_,rfl,_,rfl,_,_,rfl,rfl,(by show (0:Int)<3; decide),.inl ⟨_,_,rfl,rfl,_,rfl,_,_,rfl,lenvS zL,_,_,rfl,rfl,_,rfl,.inl ⟨D,_,rfl,hK,λ p1 hp1=>?_⟩⟩⟩
 rw [hk3,cut_vts,show (7+(k3:Int)-((LL.length:Nat):Int))=((7+k3-LL.length:Nat):Int) by omega,cut_to]
 have hMl:(lk.take (7+k3-LL.length)).length=7+k3-LL.length:=by rw [List.length_take]; omega
 have hMs:∀ c ∈ lk.take (7+k3-LL.length),c ∈ signs:=λ c hc=>(hk1 c (List.mem_of_mem_take hc)).2
 generalize lk.take (7+k3-LL.length)=M at hMl hMs ⊢
 have eM:(M.map λ c=>vt [c])=(M.map λ c=>[c]).map vt:=by rw [List.map_map]; rfl
 rw [eM]
 have s2:Same H (upd H1 p1 (.lst ((M.map λ c=>[c]).map vt))):=new_same hp1 s1
 have e2:upd H1 p1 (.lst ((M.map λ c=>[c]).map vt)) p1=some (.lst ((M.map λ c=>[c]).map vt)):=upd_same
 generalize upd H1 p1 (.lst ((M.map λ c=>[c]).map vt))=H2 at s2 e2 ⊢
 refine ⟨[],p1,M.map λ c=>[c],str_nil0,rfl,.inl (.inl (.inl e2)),?_,?_⟩
 ·rw [flatten_ones,List.length_map]; show _+_*0<=_; omega
 rw [between_nil,flatten_ones]
 have hF2:=same_tup s2 hF
 have hui:=List.getElem?_eq_getElem hil
 have huo:=List.getElem?_eq_getElem hol
 refine ⟨_,rfl,_,_,rfl,rfl,(by show (0:Int)<3; decide),.inl ⟨_,_,rfl,rfl,?_⟩⟩
 try dsimp (config:={ proj:=false,eta:=false,zeta:=false,iota:=false }) only [tNil,tC]
 rw [hk3,show (7+(k3:Int))=((7+k3:Nat):Int) by omega]
 refine ⟨_,rfl,by rw [sizeLine_eq]; show 2<=_; decide,λ q1 hq1=>?_⟩
 refine ⟨_,rfl,_,rfl,_,rfl,_,rfl,.inr (cutT zL ?_)⟩
 rw [cut_to]
 refine ⟨_,rfl,_,rfl,ixS zL (atI_nat huo) (.inr (.inl (catX (by rw [sizeLine_eq,List.length_take]; show _+1<=_; omega) ?_)))⟩
 repeat array_get_dec
 refine .inr (cutT zL ?_)
 try dsimp (config:={ proj:=false,eta:=false,zeta:=false,iota:=false }) only [tNil,tC]
 rw [show ((i:Int)+1)=((i+1:Nat):Int) by omega,cut_from]
 refine .inr (.inl (catX (by rw [sizeLine_eq,List.length_append,List.length_take,List.length_drop]; show _+1+_<=_; omega) ?_))
 refine ⟨by rw [sizeLine_eq]; show 2<=_; decide,λ q2 hq2=>?_⟩
 refine ⟨by rw [sizeLine_eq]; show 2<=_; decide,λ q3 hq3=>?_⟩
 have a1:SqT K (upd H2 q1 (.tup [V.int ((7+k3:Nat):Int),vt LL])) q1 [V.int ((7+k3:Nat):Int),vt LL]:=.inl (.inl upd_same)
 have s3:=new_same (o:=.tup [V.int ((7+k3:Nat):Int),vt LL]) hq1 s2
 generalize upd H2 q1 (.tup [V.int ((7+k3:Nat):Int),vt LL])=H3 at a1 s3 hq2 hq3 ⊢
 have a2:SqT K (upd H3 q2 (.tup [V.int (d:Int),vt (exch LL i LL[o])])) q2 [V.int (d:Int),vt (exch LL i LL[o])]:=.inl (.inl upd_same)
 have a1:=new_tup (o:=.tup [V.int (d:Int),vt (exch LL i LL[o])]) hq2 a1
 have s4:=new_same (o:=.tup [V.int (d:Int),vt (exch LL i LL[o])]) hq2 s3
 change upd H3 q2 (.tup [V.int (d:Int),vt (exch LL i LL[o])]) q3=none at hq3
 change gName 8 (V.ref q3) _ (upd (upd H3 q2 (.tup [V.int (d:Int),vt (exch LL i LL[o])])) q3 (.lst [.ref q1,.ref q2])) _
 generalize upd H3 q2 (.tup [V.int (d:Int),vt (exch LL i LL[o])])=H4 at a1 a2 s4 hq3 ⊢
 have e3:upd H4 q3 (.lst [.ref q1,.ref q2]) q3=some (.lst [.ref q1,.ref q2]):=upd_same
 have a1:=new_tup (o:=.lst [.ref q1,.ref q2]) hq3 a1
 have a2:=new_tup (o:=.lst [.ref q1,.ref q2]) hq3 a2
 have s5:=new_same (o:=.lst [.ref q1,.ref q2]) hq3 s4
 generalize upd H4 q3 (.lst [.ref q1,.ref q2])=H5 at a1 a2 s5 e3 ⊢
 refine ⟨_,rfl,_,rfl,_,rfl,_,rfl,.inr (.inl (catX (by rw [sizeLine_eq]; omega) ?_))⟩
 refine ⟨by rw [sizeLine_eq]; show 2<=_; decide,λ q4 hq4=>?_⟩
 refine ⟨_,rfl,_,rfl,_,rfl,.inr (.inl (catX (by rw [sizeLine_eq]; omega) ?_))⟩
 refine ⟨by rw [sizeLine_eq]; show 2<=_; decide,λ q5 hq5=>?_⟩
 refine ⟨_,rfl,by rw [sizeLine_eq]; show 2<=_; decide,λ q6 hq6=>?_⟩
 refine ⟨_,rfl,_,rfl,_,rfl,ixS zL (atI_nat hui) ?_⟩
 refine ⟨by rw [sizeLine_eq]; show 2<=_; decide,λ q7 hq7=>?_⟩
 refine ⟨by rw [sizeLine_eq]; show 4<=_; decide,λ q8 hq8=>?_⟩
 have a4:SqT K (upd H5 q4 (.tup [V.int (d:Int),vt (M++LL)])) q4 [V.int (d:Int),vt (M++LL)]:=.inl (.inl upd_same)
 have a1:=new_tup (o:=.tup [V.int (d:Int),vt (M++LL)]) hq4 a1
 have a2:=new_tup (o:=.tup [V.int (d:Int),vt (M++LL)]) hq4 a2
 have e3:=new_at (o:=.tup [V.int (d:Int),vt (M++LL)]) hq4 e3
 have s6:=new_same (o:=.tup [V.int (d:Int),vt (M++LL)]) hq4 s5
 generalize upd H5 q4 (.tup [V.int (d:Int),vt (M++LL)])=H6 at a1 a2 a4 e3 s6 hq5 hq6 hq7 hq8 ⊢
 have a5:SqT K (upd H6 q5 (.tup [V.int (d:Int),vt (LL++M)])) q5 [V.int (d:Int),vt (LL++M)]:=.inl (.inl upd_same)
 have a1:=new_tup (o:=.tup [V.int (d:Int),vt (LL++M)]) hq5 a1
 have a2:=new_tup (o:=.tup [V.int (d:Int),vt (LL++M)]) hq5 a2
 have a4:=new_tup (o:=.tup [V.int (d:Int),vt (LL++M)]) hq5 a4
 have e3:=new_at (o:=.tup [V.int (d:Int),vt (LL++M)]) hq5 e3
 have s7:=new_same (o:=.tup [V.int (d:Int),vt (LL++M)]) hq5 s6
 generalize upd H6 q5 (.tup [V.int (d:Int),vt (LL++M)])=H7 at a1 a2 a4 a5 e3 s7 hq6 hq7 hq8 ⊢
 have a6:SqT K (upd H7 q6 (.tup [V.int (d:Int),V.str (Str.ofString "")])) q6 [V.int (d:Int),V.str (Str.ofString "")]:=.inl (.inl upd_same)
 have a1:=new_tup (o:=.tup [V.int (d:Int),V.str (Str.ofString "")]) hq6 a1
 have a2:=new_tup (o:=.tup [V.int (d:Int),V.str (Str.ofString "")]) hq6 a2
 have a4:=new_tup (o:=.tup [V.int (d:Int),V.str (Str.ofString "")]) hq6 a4
 have a5:=new_tup (o:=.tup [V.int (d:Int),V.str (Str.ofString "")]) hq6 a5
 have e3:=new_at (o:=.tup [V.int (d:Int),V.str (Str.ofString "")]) hq6 e3
 have s8:=new_same (o:=.tup [V.int (d:Int),V.str (Str.ofString "")]) hq6 s7
 generalize upd H7 q6 (.tup [V.int (d:Int),V.str (Str.ofString "")])=H8 at a1 a2 a4 a5 a6 e3 s8 hq7 hq8 ⊢
 have a7:SqT K (upd H8 q7 (.tup [V.int (d:Int),vt [LL[i]]])) q7 [V.int (d:Int),vt [LL[i]]]:=.inl (.inl upd_same)
 have a1:=new_tup (o:=.tup [V.int (d:Int),vt [LL[i]]]) hq7 a1
 have a2:=new_tup (o:=.tup [V.int (d:Int),vt [LL[i]]]) hq7 a2
 have a4:=new_tup (o:=.tup [V.int (d:Int),vt [LL[i]]]) hq7 a4
 have a5:=new_tup (o:=.tup [V.int (d:Int),vt [LL[i]]]) hq7 a5
 have a6:=new_tup (o:=.tup [V.int (d:Int),vt [LL[i]]]) hq7 a6
 have e3:=new_at (o:=.tup [V.int (d:Int),vt [LL[i]]]) hq7 e3
 have s9:=new_same (o:=.tup [V.int (d:Int),vt [LL[i]]]) hq7 s8
 generalize upd H8 q7 (.tup [V.int (d:Int),vt [LL[i]]])=H9 at a1 a2 a4 a5 a6 a7 e3 s9 hq8 ⊢
 have e8:upd H9 q8 (.lst [V.ref q4,.ref q5,.ref q6,.ref q7]) q8=some (.lst [V.ref q4,.ref q5,.ref q6,.ref q7]):=upd_same
 have a1:=new_tup (o:=.lst [V.ref q4,.ref q5,.ref q6,.ref q7]) hq8 a1
 have a2:=new_tup (o:=.lst [V.ref q4,.ref q5,.ref q6,.ref q7]) hq8 a2
 have a4:=new_tup (o:=.lst [V.ref q4,.ref q5,.ref q6,.ref q7]) hq8 a4
 have a5:=new_tup (o:=.lst [V.ref q4,.ref q5,.ref q6,.ref q7]) hq8 a5
 have a6:=new_tup (o:=.lst [V.ref q4,.ref q5,.ref q6,.ref q7]) hq8 a6
 have a7:=new_tup (o:=.lst [V.ref q4,.ref q5,.ref q6,.ref q7]) hq8 a7
 have e3:=new_at (o:=.lst [V.ref q4,.ref q5,.ref q6,.ref q7]) hq8 e3
 have s10:=new_same (o:=.lst [V.ref q4,.ref q5,.ref q6,.ref q7]) hq8 s9
 generalize upd H9 q8 (.lst [V.ref q4,.ref q5,.ref q6,.ref q7])=H10 at a1 a2 a4 a5 a6 a7 e3 e8 s10 ⊢
 refine .inr (.inr (.inl ⟨q3,q8,_,_,rfl,rfl,e3,e8,by rw [sizeLine_eq]; show 2+4<=_; decide,λ q9 hq9=>?_⟩))
 have e9:SqL K (upd H10 q9 (.lst [V.ref q1,.ref q2,.ref q4,.ref q5,.ref q6,.ref q7])) q9 [V.ref q1,.ref q2,.ref q4,.ref q5,.ref q6,.ref q7]:=SqL.of upd_same
 have a1:=new_tup (o:=.lst [V.ref q1,.ref q2,.ref q4,.ref q5,.ref q6,.ref q7]) hq9 a1
 have a2:=new_tup (o:=.lst [V.ref q1,.ref q2,.ref q4,.ref q5,.ref q6,.ref q7]) hq9 a2
 have a4:=new_tup (o:=.lst [V.ref q1,.ref q2,.ref q4,.ref q5,.ref q6,.ref q7]) hq9 a4
 have a5:=new_tup (o:=.lst [V.ref q1,.ref q2,.ref q4,.ref q5,.ref q6,.ref q7]) hq9 a5
 have a6:=new_tup (o:=.lst [V.ref q1,.ref q2,.ref q4,.ref q5,.ref q6,.ref q7]) hq9 a6
 have a7:=new_tup (o:=.lst [V.ref q1,.ref q2,.ref q4,.ref q5,.ref q6,.ref q7]) hq9 a7
 have s11:=new_same (o:=.lst [V.ref q1,.ref q2,.ref q4,.ref q5,.ref q6,.ref q7]) hq9 s10
 change gName 8 (V.ref q9) _ (upd H10 q9 (.lst [V.ref q1,.ref q2,.ref q4,.ref q5,.ref q6,.ref q7])) _
 generalize upd H10 q9 (.lst [V.ref q1,.ref q2,.ref q4,.ref q5,.ref q6,.ref q7])=H11 at a1 a2 a4 a5 a6 a7 e9 s11 ⊢
 have hL16:∀ c ∈ LL,c<16^8:=λ c hc=>sg_16 (hDr.mem c hc)
 have hM16:∀ c ∈ M,c<16^8:=λ c hc=>sg_16 (hMs c hc)
 have noh:∀ x ∈ [V.ref q1,.ref q2,.ref q4,.ref q5,.ref q6,.ref q7],NoHead K H11 x:=by
  intro x hx
  simp only [List.mem_cons,List.not_mem_nil,or_false] at hx
  rcases hx with rfl | rfl | rfl | rfl | rfl | rfl
  ·exact ⟨q1,7+k3,LL,rfl,a1,by omega,by omega,hL16,λ h=>by have:=h.2; omega⟩
  ·refine ⟨q2,d,_,rfl,a2,by omega,by rw [exch_len hil]; omega,λ c hc=>?_,λ h=>?_⟩
   ·rcases exch_mem hc with h | h
    ·exact hL16 c h
    ·rw [h]; exact hL16 _ (List.getElem_mem _)
   ·have nd:=h.1.2.2.1
    have e1:(exch LL i LL[o])[i]?=some LL[o]:=by
     unfold exch
     rw [List.append_assoc,List.getElem?_append_right (by rw [List.length_take]; omega),List.length_take,Nat.min_eq_left (by omega),Nat.sub_self]; rfl
    have e2:(exch LL i LL[o])[o]?=some LL[o]:=by
     unfold exch
     rcases Nat.lt_or_ge o i with z | z
     ·rw [List.append_assoc,List.getElem?_append_left (by rw [List.length_take]; omega),List.getElem?_take,if_pos z]; exact huo
     ·rw [List.getElem?_append_right (by rw [List.length_append,List.length_take]; show min i _+1<=_; omega),List.length_append,List.length_take,Nat.min_eq_left (by omega),List.getElem?_drop]
      rw [show i+1+(o-(i+[LL[o]].length))=o by show i+1+(o-(i+1))=o; omega]; exact huo
    exact hoi (at_uniq nd e1 e2)
  ·exact ⟨q4,d,M++LL,rfl,a4,by omega,by rw [List.length_append]; omega,app_16 hM16 hL16,λ h=>by have:=h.1.2.1; rw [List.length_append] at this; omega⟩
  ·exact ⟨q5,d,LL++M,rfl,a5,by omega,by rw [List.length_append]; omega,app_16 hL16 hM16,λ h=>by have:=h.1.2.1; rw [List.length_append] at this; omega⟩
  ·rw [str_nil0] at a6
   exact ⟨q6,d,[],rfl,a6,by omega,by decide,λ c h=>(nomatch h),λ h=>by have:=h.1.1; simp at this⟩
  ·exact ⟨q7,d,[LL[i]],rfl,a7,by omega,by show 1<=9; decide,λ c hc=>by cases List.mem_singleton.mp hc; exact hL16 _ (List.getElem_mem _),λ h=>by have:=h.1.1; simp at this⟩
 refine ⟨_,rfl,.inl ⟨_,_,rfl,e9,?_⟩⟩
 rw [str000]
 refine for_walk (walk_list (xs:=[V.ref q1,.ref q2,.ref q4,.ref q5,.ref q6,.ref q7])) (λ n σ H'=>∃ r9 r10,σ=[some (.ref fr),some (.int c),some (vt LL),some (.int (d:Int)),some (.ref D),some (.int (i:Int)),some (.int (o:Int)),some (vt M),some (.ref q9),r9,r10]/\Same H11 H') ⟨_,_,rfl,Same.refl _⟩ (λ n σ H' _ ⟨_,_,_,g⟩=>same_lst g e9) ?_ ?_
 ·rintro n x _ H' hx ⟨r9,r10,rfl,g⟩
  obtain ⟨p,e,X,rfl,hq,he,hXl,hX16,hno⟩:=(noh x (List.mem_of_getElem? hx)).ex
  have hq:=same_tup g hq
  have zX:X.length<=sizeLine:=by rw [sizeLine_eq]; omega
  refine ⟨_,rfl,ixT hq rfl ⟨_,rfl,log_small (n:=e) (by omega),?_⟩⟩
  rw [str_dg,dg_one (show e<10 by omega)]
  refine ⟨_,rfl,ixT hq rfl ⟨_,_,rfl,lenvS zX,_,rfl,log_small (n:=X.length) (by omega),?_⟩⟩
  rw [str_dg,dg_one (show X.length<10 by omega)]
  refine .inr (.inl (catX (by rw [sizeLine_eq]; show 1+1<=_; decide) ?_))
  refine ⟨_,rfl,ixT hq rfl (.inr (.inl (catX (by rw [sizeLine_eq]; show 2+_<=_; omega) ?_)))⟩
  have hhl:(hd0 e X).length=X.length+5:=by unfold hd0; rw [List.length_append,List.length_append]; show 2+X.length+3=_; omega
  have hh16:∀ c ∈ hd0 e X,c<16^8:=by
   unfold hd0
   refine app_16 (app_16 (app_16 ?_ ?_) hX16) ?_
   ·intro c hc; cases List.mem_singleton.mp hc; omega
   ·intro c hc; cases List.mem_singleton.mp hc; omega
   ·intro c hc; simp only [List.mem_cons,List.not_mem_nil,or_false,or_self] at hc; subst hc; decide
  refine .inr (.inl (catX (by rw [sizeLine_eq,List.length_append]; show 2+_+3<=_; omega) ?_))
  refine ⟨_,rfl,_,rfl,hd0 e X,rfl,by omega,hh16,λ H3 s3=>.inr (.inl (catX (by rw [sizeLine_eq]; show (hd0 e X).length+2<=_; omega) ?_))⟩
  refine ⟨hd0 e X++cks (hd0 e X),rfl,by rw [List.length_append,hhl]; show _+2<=_; omega,app_16 hh16 (cks_16 _),head_no hno,λ H4 s4=>⟨true,rfl,iteF ?_⟩⟩
  exact ⟨_,_,rfl,g.trans (s3.trans s4)⟩
 ·rintro _ H' ⟨r9,r10,rfl,g⟩
  exact q _ (s11.trans g)
theorem PkOk.bits_le {f:Nat} {L:List Nat} {d:Nat} {l b:List Nat} (h:PkOk f L d l b) {e:Nat} (he:Bp.tb d l.length<=e):b.length<=e+1:=by
 have hsb:=sb_of (L:=f::L) (f:=f) (d:=d) (ah:=[]) (l:=l) h.sp h.al h.tb
 have pT:=h.sp.p3 (t:=l) (Nat.le_refl _) h.al
 have pA:=h.sp.p3 (t:=[]) (Nat.zero_le _) (λ c h=>nomatch h)
 have hW:WhW (f::L) f d [] l<=2^e:=by
  have q1:=mul_le_pow (x:=(WT (f::L) f d ([]++l)).2) (y:=(WT (f::L) f d []).1) (by have:=pA.a1; omega) pT.bb (Int.le_trans pA.ab pA.bb)
  exact Int.le_trans q1 (ipow_le (by
   show Bp.tb d l.length+Bp.tb d 0<=e
   have z0:Bp.tb d 0=0:=Nat.mul_zero _
   omega))
 have hs:=h.bi.sml
 have hw:=hsb.wi
 rcases Nat.lt_or_ge (e+1) b.length with z | z
 ·exfalso
  have h1:(1:Int)*2^b.length<=WiW (f::L) f d [] l*2^b.length:=Int.mul_le_mul_of_nonneg_right (by omega) (Int.le_of_lt (two_pow _))
  have h2:(2:Int)^(e+2)<=2^b.length:=ipow_le z
  have h3:(2:Int)^(e+2)=2^e*4:=by rw [Int.pow_add]; rfl
  omega
 ·exact z
theorem PkOk.body {f:Nat} {L:List Nat} {d:Nat} {l b:List Nat} (h:PkOk f L d l b) (he:Bp.tb d l.length<=420):(∀ c ∈ bdy (f::L) d l.length b,32<=c/\c<=126)/\(bdy (f::L) d l.length b).length<=96/\0<(bdy (f::L) d l.length b).length/\∀ c,(bdy (f::L) d l.length b).getLast?=some c->¬ (65<=c/\c<=74):=by
 have hb:=h.bits_le he
 have gl:=grp_len (grN b) b
 have hg:grN b<=85:=by unfold grN; omega
 have l6:=h.l6
 have d6:=h.d6
 have ll:=h.ll
 have ebl:(bdy (f::L) d l.length b).length=(f::L).length+5+grN b:=by unfold bdy; rw [List.length_append,hdr_len ll,gl]
 have gs:∀ c ∈ gsL,32<=c/\c<=126/\¬ (65<=c/\c<=74):=by decide +kernel
 refine ⟨λ c hc=>?_,by omega,by omega,λ c hc=>?_⟩
 ·rcases List.mem_append.mp hc with hc | hc
  ·rcases List.mem_append.mp hc with hc | hc
   ·rcases List.mem_append.mp hc with hc | hc
    ·rcases List.mem_append.mp hc with hc | hc
     ·cases List.mem_singleton.mp hc; omega
     ·cases List.mem_singleton.mp hc; omega
    ·have:=signs_lt c (h.sg c hc); omega
   ·have:=z3_fig ll c hc; omega
  ·have:=gs c (grp_mem _ _ c hc); omega
 ·unfold bdy at hc
  rw [List.getLast?_append] at hc
  cases z:(grp (grN b) b).getLast? with
  | some c' =>
    rw [z] at hc
    have hcc:c'=c:=Option.some.inj hc
    subst hcc
    exact (gs c' (grp_mem _ _ c' (List.mem_of_getLast? z))).2.2
  | none =>
    rw [z] at hc
    unfold hdr at hc
    rw [List.getLast?_append] at hc
    cases y:(z3 l.length).getLast? with
    | some c' =>
      rw [y] at hc
      have hcc:c'=c:=Option.some.inj hc
      subst hcc
      have:=z3_fig ll c' (List.mem_of_getLast? y)
      omega
    | none =>
      have:=List.getLast?_eq_none_iff.mp y
      have h3:=(dg_ok ll).2.2.1
      rw [this] at h3
      cases h3
theorem dg3 {n:Nat} (h1:101<=n) (h2:n<=999):(dg n).length=3/\digV (dg n)=n/\∀ c ∈ dg n,c<16^8:=by
 have go:∀ n ∈ List.range 1000,101<=n->(dg n).length=3/\digV (dg n)=n/\((dg n).all λ c=>decide (c<127))=true:=by decide +kernel
 obtain ⟨a,b,c⟩:=go n (List.mem_range.mpr (by omega)) h1
 exact ⟨a,b,λ x hx=>Nat.lt_trans (of_decide_eq_true (List.all_eq_true.mp c x hx)) (by decide)⟩
def mor (LL:List Nat) (d n:Nat) (g:List Nat):List Nat:=[48+d]++[48+LL.length]++LL++dg n++g
theorem more_no {LL g:List Nat} {d n:Nat} (h1:101<=n) (h2:n<=999):∀ f L d' l b,¬ Dec (mor LL d n g++cks (mor LL d n g)) f L d' l b:=λ f L d' l b hD=>by
 have h:=pkt_body hD.2
 have e1:mor LL d n g=(48+d)::(48+LL.length)::(LL++(dg n++g)):=by unfold mor; simp only [List.append_assoc]; rfl
 have e2:bdy (f::L) d' l.length b=(48+d')::(48+(f::L).length)::((f::L)++(z3 l.length++grp (grN b) b)):=by unfold bdy hdr; simp only [List.append_assoc]; rfl
 rw [e1,e2] at h
 have e3:=(List.cons.inj (List.cons.inj h).2).1
 have e4:=(List.cons.inj (List.cons.inj h).2).2
 have e5:=(List.append_inj e4 (by omega)).2
 obtain ⟨_,_,g3,g4⟩:=dg_ok hD.1.ll
 obtain ⟨q1,q2,_⟩:=dg3 h1 h2
 have e6:=(List.append_inj e5 (by rw [q1,g3])).1
 have:=hD.1.ll
 rw [e6,g4] at q2
 omega
theorem most72 {d:Nat} (h:d<=6):∃ m:Nat,m<=24/\Bp.tb d m<=420/\atI [V.int 24,.int 24,.int 16,.int 12,.int 8,.int 6,.int 6] (d:Int)=some (.int (m:Int)):=by
 match d,h with
 | 0,_=>exact ⟨24,by decide,by decide,rfl⟩
 | 1,_=>exact ⟨24,by decide,by decide,rfl⟩
 | 2,_=>exact ⟨16,by decide,by decide,rfl⟩
 | 3,_=>exact ⟨12,by decide,by decide,rfl⟩
 | 4,_=>exact ⟨8,by decide,by decide,rfl⟩
 | 5,_=>exact ⟨6,by decide,by decide,rfl⟩
 | 6,_=>exact ⟨6,by decide,by decide,rfl⟩
 | n+7,h=>omega
theorem grp_pad {b c:List Nat} (hb:b.all isB=true) (hc:c.all isB=true) (h:grp (grN b) b=grp (grN c) c):padB b=padB c:=by
 have hn:grN b=grN c:=by rw [← grp_len (grN b) b,h,grp_len]
 rw [← pad_fil c]
 refine (told_pad hb (by rw [fil_len,hn]) λ j x hx=>?_).symm
 have hj:j<grN c:=by
  have:=(List.getElem?_eq_some_iff.mp hx).1
  rwa [fil_len] at this
 obtain ⟨e1,e2⟩:=fil_get (grN c) c j hj
 rw [e1] at hx
 cases hx
 have hall:(c.drop (5*j)).all isB=true:=List.all_eq_true.mpr λ y hy=>List.all_eq_true.mp hc y (List.mem_of_mem_drop hy)
 refine ⟨five_len _,five_all hall,λ u k hu hk=>?_⟩
 rw [h,e2] at hu
 cases hu
 exact (gs_inv (five_bd _).1 (five_bd _).2 hk).symm
theorem PkOk.one {f:Nat} {L:List Nat} {d:Nat} {l b:List Nat} {f':Nat} {L':List Nat} {d':Nat} {l' b':List Nat} (hP:PkOk f L d l b) (hD:Dec (pkt (f::L) d l.length b) f' L' d' l' b'):f=f'/\L=L'/\d=d'/\l=l':=by
 obtain ⟨hP',hq⟩:=hD
 have hb:bdy (f::L) d l.length b=bdy (f'::L') d' l'.length b':=app2 (show bdy (f::L) d l.length b++cks _=bdy (f'::L') d' l'.length b'++cks _ from hq) rfl rfl
 obtain ⟨c1,c2,c3,c4,c5⟩:=hP.cuts
 obtain ⟨g1,g2,g3,g4,g5⟩:=hP'.cuts
 rw [← hb] at g1 g2 g3 g4 g5
 have ed:d=d':=by
  have:=(List.cons.inj (c1.symm.trans g1)).1
  omega
 have el:(f::L).length=(f'::L').length:=by
  have:=(List.cons.inj (c2.symm.trans g2)).1
  omega
 rw [← el] at g3 g4 g5
 have eL:=c3.symm.trans g3
 have en:l.length=l'.length:=by
  have:=congrArg digV (c4.symm.trans g4)
  rwa [(dg_ok hP.ll).2.2.2,(dg_ok hP'.ll).2.2.2] at this
 have eg:=grp_pad hP.bi.all hP'.bi.all (c5.symm.trans g5)
 obtain ⟨rfl,rfl⟩:=List.cons.inj eL
 subst ed
 refine ⟨rfl,rfl,rfl,?_⟩
 have hin:∀ {l b:List Nat},PkOk f L d l b->InSp (f::L) f d [] l (valB (padB b)) (2^(padB b).length):=λ {l b} hP=>by
  have hsb:=sb_of (L:=f::L) (f:=f) (d:=d) (ah:=[]) (l:=l) hP.sp hP.al hP.tb
  have pl:(padB b).length=5*grN b:=by unfold padB; rw [List.length_append,List.length_replicate]; unfold grN; omega
  have pv:valB (padB b)=valB b*2^(5*grN b-b.length):=valB_zeros b _
  have pn:(2:Int)^(padB b).length=2^b.length*2^(5*grN b-b.length):=by
   rw [pl,← Int.pow_add]; congr 1; unfold grN; omega
  have hin0:=(hP.bi.inSp hsb.w0).scale (s:=2^(5*grN b-b.length)) (Int.pow_pos (by decide))
  rwa [← pv,← pn] at hin0
 have h2:=hin hP'
 rw [← eg] at h2
 exact InSp.one hP.sp.gd (Int.pow_pos (by decide)) en (by show l.length<=_; omega) hP.al hP'.al (hin hP) h2
theorem alk72 {H:Hp} {fp f1:Addr} {LL l:List Nat} {d:Int} (e1:SqT K H fp [vt LL,.int d]) (e2:SqT K H f1 [vt LL,.int d]) (j:Nat) (u v:V) (hu:[V.ref fp,vt l][j]?=some u) (hv:[V.ref f1,vt l][j]?=some v):Alk K H 3 u v:=by
 match j with
 | 0 =>
   cases hu
   cases hv
   refine .inr ⟨fp,f1,_,_,rfl,rfl,.inl ⟨e1,e2⟩,rfl,λ i u' v' h1 h2=>?_⟩
   rw [h1] at h2
   cases h2
   refine .inl (.inl ⟨rfl,.inl ?_⟩)
   match i with
   | 0=>cases h1; rfl
   | 1=>cases h1; rfl
   | n+2=>cases h1
 | 1 =>
   cases hu
   cases hv
   exact .inl (.inl (.inl ⟨rfl,.inl rfl⟩))
 | n+2=>cases hu
theorem cut_tail (a m z:List Nat) (hz:z.length=2) {i:Int} (hi:i=(a.length:Int)):cutL (a++m++z) (some i) (some (-2))=m:=by
 subst hi
 refine Eq.trans ?_ (cut_at a m z (i:=a.length) (j:=a.length+m.length) rfl rfl)
 have hl:(a++m++z).length=a.length+m.length+2:=by rw [List.length_append,List.length_append,hz]
 unfold cutL
 have e1:HT.sIx (a++m++z).length (a++m++z).length (some (-2))=a.length+m.length:=by
  rw [hl]; unfold HT.sIx; simp only; split<;>(try split)<;>omega
 have e2:HT.sIx (a++m++z).length (a++m++z).length (some ((a.length+m.length:Nat):Int))=a.length+m.length:=by
  rw [hl]; unfold HT.sIx; simp only; split<;>(try split)<;>omega
 rw [e1,e2]
def spLaw (K:PySem.W.Frag):L2.Sp:=λ vs H Q _=>∃ (a:Addr) (ns:List Int),vs=[.ref a]/\SqL K H a (ns.map V.int)/\ns.length<=63/\(∀ n ∈ ns,Small n)/\∀ H',Q (.bl true) H'
theorem ok_law (T:Txt K mg t):FnOk P w K mg base (CX1 P w) 16 t.a_law t.fd_law ["script"] (spLaw K):=by
 refine T.F_law.okn (k:=15) sc_law (λ vs H Q E h=>?_) (λ cdv A outer s H vs Q E hr h=>?_)
 ·obtain ⟨a,ns,rfl,_⟩:=h; rfl
 obtain ⟨a,ns,rfl,ha,hl,hs,q⟩:=h
 have G_Qz:=(@ok_Qz P w K mg base t T).mono (show 1<=15 by decide)
 have G_Qbt:=(@ok_Qbt P w K mg base t T).mono (show 2<=15 by decide)
 have G_wrap:=(@ok_wrap P w K mg base t T).mono (show 11<=15 by decide)
 have G_Qbx:=(@ok_unwrapG P w K mg base t T).mono (show 12<=15 by decide)
 have G_Qbb:=@ok_Qbb P w K mg base t T
 have G_Qbv:=(@ok_Qbv P w K mg base t T).mono (show 14<=15 by decide)
 have G_Qbg:=(@ok_Qbg P w K mg base t T).mono (show 14<=15 by decide)
 have G_Qbu:=(@ok_Qbu P w K mg base t T).mono (show 1<=15 by decide)
 have G_Qbi:=@ok_Qbi P w K mg base t T
 have G_Qba:=(@ok_Qba P w K mg base t T).mono (show 13<=15 by decide)
 refine ⟨_,(pss_cons (ps_set (i:=1) sc_law.nd rfl (Or.inr rfl) (pe_call G_Qbt hr rfl T.m_Qbt T.F_Qbt.kp T.b_Qbt .nil pass1 (pa_cons (pe_call G_Qz hr rfl T.m_Qz T.F_Qz.kp T.b_Qz .nil pass1 (PAs.h (pas_cons (pv 0) (pas_cons pe_int pas_nil)))) pa_nil)))
  (pss_cons (ps_set (i:=2) sc_law.nd rfl (Or.inl rfl) (pe_ix ixAny (pe_lst (PAs.h (pas_cons pe_int (pas_cons pe_int (pas_cons pe_int (pas_cons pe_int (pas_cons pe_int (pas_cons pe_int (pas_cons pe_int pas_nil))))))))) (pe_ix ixAny (pv 1) pe_int (λ _ _=>rfl)) (λ _ _=>rfl)))
  (pss_cons (ps_set (i:=3) sc_law.nd rfl (Or.inl rfl) (pe_bm PySem.F.plainAttrs_str PySem.F.slot_str_join PySem.F.type_str_join mt_join pe_str (pa_cons (pe_lc (compSc_of (N:=["cell", "frame"]) (cap:=[none,some 1]) (by kernel_rfl)) rfl (piAny (pe_slice slAny (pv 0) (po_some pe_int) (po_some (pe_op oAddN pe_int (pv 2))))) ⟨λ _=>(pg_name (i:=0) (show List.Nodup (["cell", "frame"]:List Str) by decide +kernel) rfl (Or.inl rfl)),λ _=>pf_nil,λ _=>(pe_ix ixAny (pe_ix ixAny (pv 1) pe_int (λ _ _=>rfl)) (pe_op op_mod (pv 0) (pe_callB call_len rfl T.m_len bt_len (pa_cons (pe_ix ixAny (pv 1) pe_int (λ _ _=>rfl)) pa_nil))) (λ _ _=>rfl))⟩) pa_nil)))
  (pss_cons (ps_set (i:=4) sc_law.nd rfl (Or.inl rfl) (pe_call G_wrap hr rfl T.m_wrap T.F_wrap.kp T.b_wrap .nil pass1 (PAs.h (pas_cons (pv 1) (pas_cons (pv 3) pas_nil)))))
  (pss_cons (ps_if (pt_cmpR (oNeK (hu9 hr)) (pe_call G_Qbx hr rfl T.m_Qbx T.F_Qbx.kp T.b_Qbx .nil pass1 (pa_cons (pv 4) pa_nil)) (pe_tup (PAs.h (pas_cons (pv 1) (pas_cons (pv 3) pas_nil)))) (nomark _)) (pss_one (ps_ret pe_bl)) pss_nil)
  (pss_cons (ps_set (i:=5) sc_law.nd rfl (Or.inl rfl) (pe_call G_Qz hr rfl T.m_Qz T.F_Qz.kp T.b_Qz .nil pass1 (PAs.h (pas_cons (pv 0) (pas_cons pe_int pas_nil)))))
  (pss_cons (ps_if (PW.pt (pw_or (pt_not (pt_val (pe_call G_Qbb hr rfl T.m_Qbb T.F_Qbb.kp T.b_Qbb .nil pass1 (PAs.h (pas_cons (pv 4) (pas_cons (pe_call G_Qz hr rfl T.m_Qz T.F_Qz.kp T.b_Qz .nil pass1 (PAs.h (pas_cons (pv 0) (pas_cons pe_int pas_nil)))) pas_nil)))))) (pw_or1 (pt_not (pt_val (pe_call G_Qbb hr rfl T.m_Qbb T.F_Qbb.kp T.b_Qbb .nil pass1 (PAs.h (pas_cons (pv 4) (pas_cons (pv 5) pas_nil))))))))) (pss_one (ps_ret pe_bl)) pss_nil)
  (pss_cons (ps_set (i:=6) sc_law.nd rfl (Or.inl rfl) (pe_slice slAny (pv 4) po_none (po_some (pe_op op_mod (pv 5) (pe_op op_sub (pe_callB call_len rfl T.m_len bt_len (pa_cons (pv 4) pa_nil)) pe_int)))))
  (pss_cons (ps_if (PW.pt (pw_or (pt_not (pt_val (pe_call G_Qbv hr rfl T.m_Qbv T.F_Qbv.kp T.b_Qbv .nil pass1 (PAs.h (pas_cons (pv 1) (pas_cons (pv 5) pas_nil)))))) (pw_or1 (pt_not (pt_val (pe_call G_Qbg hr rfl T.m_Qbg T.F_Qbg.kp T.b_Qbg .nil pass1 (pa_cons (pe_op oAddN (pv 6) (pe_call G_Qbu hr rfl T.m_Qbu T.F_Qbu.kp T.b_Qbu .nil pass1 (pa_cons (pv 6) pa_nil))) pa_nil))))))) (pss_one (ps_ret pe_bl)) pss_nil)
  (pss_cons (ps_for PassesOwn.never rfl (piAny (pe_op oAddN (pe_lst (pa_cons (pe_call G_Qz hr rfl T.m_Qz T.F_Qz.kp T.b_Qz .nil pass1 (PAs.h (pas_cons (pv 0) (pas_cons pe_int pas_nil)))) pa_nil)) (pe_slice slAny (pv 0) (po_some pe_int) (po_some pe_int)))) (pg_name (i:=5) sc_law.nd rfl (Or.inl rfl)) (pss_one (ps_if (pt_not (pt_val (pe_call G_Qbi hr rfl T.m_Qbi T.F_Qbi.kp T.b_Qbi .nil pass1 (PAs.h (pas_cons (pv 4) (pas_cons (pe_op op_mod (pe_op oMulN (pv 5) pe_int) pe_int) pas_nil)))))) (pss_one (ps_ret pe_bl)) pss_nil)))
  (pss_cons (ps_set (i:=7) sc_law.nd rfl (Or.inl rfl) (pe_op oAddN pe_int (pe_callB call_len rfl T.m_len bt_len (pa_cons (pe_ix ixAny (pv 1) pe_int (λ _ _=>rfl)) pa_nil))))
  (pss_cons (ps_set (i:=8) sc_law.nd rfl (Or.inl rfl) (pe_op oAddN (pe_op oAddN (pe_slice slAny (pv 4) po_none (po_some (pv 7))) (pe_callTy call_str_int rfl T.m_str bt_str (pa_cons (pe_op oAddN pe_int (pe_op op_mod (pe_call G_Qz hr rfl T.m_Qz T.F_Qz.kp T.b_Qz .nil pass1 (PAs.h (pas_cons (pv 0) (pas_cons pe_int pas_nil)))) pe_int)) pa_nil))) (pe_slice slAny (pv 4) (po_some (pe_op oAddN (pv 7) pe_int)) (po_some (pe_un un_neg pe_int)))))
  (pss_cons (ps_if (pt_not (pt_val (pe_call G_Qba hr rfl T.m_Qba T.F_Qba.kp T.b_Qba .nil pass1 (pa_cons (pe_op oAddN (pv 8) (pe_call G_Qbu hr rfl T.m_Qbu T.F_Qbu.kp T.b_Qbu .nil pass1 (pa_cons (pv 8) pa_nil))) pa_nil)))) (pss_one (ps_ret pe_bl)) pss_nil)
  (pss_one (ps_ret (pe_cmpR (oEqK (hu9 hr)) (pe_call G_Qbx hr rfl T.m_Qbx T.F_Qbx.kp T.b_Qbx .nil pass1 (pa_cons (pv 4) pa_nil)) (pe_tup (PAs.h (pas_cons (pv 1) (pas_cons (pv 3) pas_nil)))) (nomark _))))))))))))))))),?_⟩
 refine ⟨_,rfl,a,ns,0,rfl,ha,by decide,?_⟩
 refine ⟨_,rfl,cellN_small hs 0,λ LL S0 d0 f1 hL2 hL6 dr hd0 hd6 h1=>?_⟩
 obtain ⟨d,rfl⟩:∃ k:Nat,d0=k:=⟨d0.toNat,(Int.toNat_of_nonneg hd0).symm⟩
 obtain ⟨f,L,rfl⟩:∃ f L',LL=f::L':=by
  cases LL with
  | nil=>simp at hL2
  | cons f L'=>exact ⟨f,L',rfl⟩
 have zL:(f::L).length<=sizeLine:=by rw [sizeLine_eq]; omega
 have s1:=same_new (o:=.tup [vt (f::L),.int (d:Int)]) h1
 have hF1:SqT K (upd H f1 (.tup [vt (f::L),.int (d:Int)])) f1 [vt (f::L),.int (d:Int)]:=.inl (.inl upd_same)
 try dsimp (config:={ proj:=false,eta:=false,zeta:=false,iota:=false }) only [tNil,tC]
 generalize upd H f1 (.tup [vt (f::L),.int (d:Int)])=H1 at s1 hF1 ⊢
 have d6:d<=6:=by omega
 obtain ⟨m,hm24,hmt,em⟩:=most72 d6
 refine ⟨by rw [sizeLine_eq]; show 7<=_; decide,λ p0 h0=>?_⟩
 have s2:=new_same (o:=.lst [V.int 24,.int 24,.int 16,.int 12,.int 8,.int 6,.int 6]) h0 s1
 have hF2:=new_tup (o:=.lst [V.int 24,.int 24,.int 16,.int 12,.int 8,.int 6,.int 6]) h0 hF1
 have e2:upd H1 p0 (.lst [V.int 24,.int 24,.int 16,.int 12,.int 8,.int 6,.int 6]) p0=some (.lst [V.int 24,.int 24,.int 16,.int 12,.int 8,.int 6,.int 6]):=upd_same
 try dsimp (config:={ proj:=false,eta:=false,zeta:=false,iota:=false }) only [tNil,tC]
 generalize upd H1 p0 (.lst [V.int 24,.int 24,.int 16,.int 12,.int 8,.int 6,.int 6])=H2 at s2 hF2 e2 ⊢
 refine ⟨_,rfl,ixT hF2 rfl (ixL (.inl (.inl e2)) em ?_)⟩
 refine ⟨rfl,_,rfl,_,rfl,_,rfl,.inl ⟨_,_,rfl,rfl,_,rfl,.inl ⟨a,_,rfl,same_lst s2 ha,λ p1 hp1=>?_⟩⟩⟩
 rw [cut_ints]
 have hcm:(cutN ns (some 4) (some (4+(m:Int)))).length<=m:=by
  unfold cutN
  rw [List.length_take,List.length_drop]
  have e1:HT.sIx ns.length 0 (some 4)=min 4 ns.length:=HT.sIx_nat _ _ 4
  have e2:HT.sIx ns.length ns.length (some (4+(m:Int)))=min (4+m) ns.length:=by
   have:=HT.sIx_nat ns.length ns.length (4+m)
   rw [← this]; congr 1
  rw [e1,e2]; omega
 have s3:=new_same (o:=.lst ((cutN ns (some 4) (some (4+(m:Int)))).map V.int)) hp1 s2
 have hF3:=new_tup (o:=.lst ((cutN ns (some 4) (some (4+(m:Int)))).map V.int)) hp1 hF2
 have e3:upd H2 p1 (.lst ((cutN ns (some 4) (some (4+(m:Int)))).map V.int)) p1=some (.lst ((cutN ns (some 4) (some (4+(m:Int)))).map V.int)):=upd_same
 generalize cutN ns (some 4) (some (4+(m:Int)))=ms at hcm s3 hF3 e3 ⊢
 generalize upd H2 p1 (.lst (ms.map V.int))=H3 at s3 hF3 e3 ⊢
 refine .inl ⟨p1,_,rfl,.inl (.inl e3),λ D hD cp=>?_⟩
 have hp:(0:Int)<(((f::L).length:Nat):Int):=by omega
 refine lc_grow (walk_list (xs:=ms.map V.int)) hD (λ _ _ v=>∃ c ∈ f::L,v=vt [c]) (λ _ _ _ _ _ h=>h) (λ H' s'=>?_) (by rw [List.length_map,sizeLine_eq]; omega) ?_ ?_
 ·exact .inl (.inl (s' _ _ e3))
 ·intro i x H4 ys C hx s4 hy hC
  rw [List.getElem?_map] at hx
  obtain ⟨n,_,rfl⟩:=Option.map_eq_some_iff.mp hx
  have hF4:=same_tup s4 hF3
  have m1:=Int.emod_nonneg n (show (((f::L).length:Nat):Int) ≠ 0 by omega)
  have m2:=Int.emod_lt_of_pos n hp
  obtain ⟨j,hj⟩:∃ j:Nat,n % (((f::L).length:Nat):Int)=(j:Int):=⟨_,(Int.toNat_of_nonneg m1).symm⟩
  have hjl:j<(f::L).length:=by omega
  refine ⟨_,rfl,ixT hF4 rfl ⟨_,rfl,_,rfl,ixT hF4 rfl ⟨_,_,rfl,lenvS zL,_,_,rfl,rfl,hp,?_⟩⟩⟩
  try dsimp (config:={ proj:=false,eta:=false,zeta:=false,iota:=false }) only [tNil,tC]
  rw [hj]
  exact ixS zL (atI_nat (List.getElem?_eq_getElem hjl)) (hC _ _ (Same.refl _) ⟨_,List.getElem_mem hjl,rfl⟩)
 ·intro H4 ys s4 hy hn hv
  obtain ⟨l,rfl,hlL⟩:∃ l:List Nat,ys=(l.map λ c=>[c]).map vt/\∀ c ∈ l,c ∈ f::L:=by
   clear hn hy
   induction ys with
   | nil=>exact ⟨[],rfl,λ c h=>nomatch h⟩
   | cons y ys ih =>
     obtain ⟨l,e,hl⟩:=ih λ j v h=>hv (j+1) v h
     obtain ⟨c,hc,rfl⟩:=hv 0 y rfl
     exact ⟨c::l,by rw [e]; rfl,λ x hx=>by rcases List.mem_cons.mp hx with rfl | h; exact hc; exact hl x h⟩
  rw [List.length_map,List.length_map,List.length_map] at hn
  have hll:l.length<=24:=by omega
  have hF4:=same_tup s4 hF3
  refine ⟨[],D,l.map λ c=>[c],str_nil0,rfl,.inl (.inl (.inl hy)),?_,?_⟩
  ·rw [flatten_ones,List.length_map]; show _+_*0<=_; omega
  rw [between_nil,flatten_ones]
  have ok:okL (f::L):=⟨hL2,hL6,dr.nodup,λ c hc=>sg_of (dr.mem c hc)⟩
  obtain ⟨P1,htb⟩:=sp_of (n:=l.length) ok d6 (by omega)
  have h16:∀ c ∈ f::L,c<16^8:=λ c hc=>sg_16 (dr.mem c hc)
  have s04:Same H H4:=s3.trans s4
  refine ⟨_,rfl,_,rfl,f1,f,L,d,l,rfl,hF4,d6,hL6,h16,λ c hc=>h16 c (hlL c hc),λ ⟨c,y1,y2⟩=>absurd (hlL c y1) y2,λ _=>⟨by omega,P1,htb,λ H5 b s5 hb=>?_⟩⟩
  have hP:PkOk f L d l b:=⟨hL2,hL6,dr.nodup,dr.mem,d6,by omega,hlL,P1,htb,hb⟩
  have hbd:=hP.body (Nat.le_trans (Nat.mul_le_mul_left _ (show l.length<=m by omega)) hmt)
  have hF5:=same_tup s5 hF4
  have s05:=s04.trans s5
  have hbd16:∀ c ∈ bdy (f::L) d l.length b,c<16^8:=λ c hc=>Nat.lt_of_le_of_lt (hbd.1 c hc).2 (by decide)
  have hpl:(pkt (f::L) d l.length b).length=(bdy (f::L) d l.length b).length+2:=by unfold pkt; rw [List.length_append]; rfl
  have hp16:∀ c ∈ pkt (f::L) d l.length b,c<16^8:=app_16 hbd16 (cks_16 _)
  have hb96:=hbd.2.1
  have hb0:=hbd.2.2.1
  have zp:(pkt (f::L) d l.length b).length<=sizeLine:=by rw [hpl,sizeLine_eq]; omega
  refine ⟨_,rfl,pkt (f::L) d l.length b,rfl,by omega,hp16,λ hno=>absurd (⟨hP,rfl⟩:Dec _ f L d l b) (hno _ _ _ _ _),λ f' L' d' l' b' H6 r fp hD6 s6 er ef=>?_⟩
  obtain ⟨rfl,rfl,rfl,rfl⟩:=hP.one hD6
  refine ⟨_,rfl,_,rfl,by rw [sizeLine_eq]; show 2<=_; decide,λ rr hrr=>?_⟩
  have hF7:=new_tup (o:=.tup [.ref f1,vt l]) hrr (same_tup s6 hF5)
  have s07:=new_same (o:=.tup [.ref f1,vt l]) hrr (s05.trans s6)
  have eR:SqT K (upd H6 rr (.tup [.ref f1,vt l])) r [.ref fp,vt l]:=.inl (.inl (new_at hrr er))
  have eF:SqT K (upd H6 rr (.tup [.ref f1,vt l])) fp [vt (f::L),.int (d:Int)]:=.inl (.inl (new_at hrr ef))
  have eT:SqT K (upd H6 rr (.tup [.ref f1,vt l])) rr [.ref f1,vt l]:=.inl (.inl upd_same)
  generalize upd H6 rr (.tup [.ref f1,vt l])=H7 at hF7 s07 eR eF eT ⊢
  refine .inr ⟨r,rr,_,_,rfl,rfl,.inl ⟨eR,eT⟩,rfl,alk72 eF hF7,false,rfl,iteF ?_⟩
  refine ⟨_,rfl,a,ns,3,rfl,same_lst s07 ha,by decide,?_⟩
  generalize cellN ns 3=cell
  refine ⟨_,rfl,_,rfl,a,ns,1,rfl,same_lst s07 ha,by decide,bdy (f::L) d l.length b,_,rfl,hb0,by omega,hbd16,λ H8 s8=>⟨true,rfl,iteF ?_⟩⟩
  refine ⟨_,rfl,_,rfl,bdy (f::L) d l.length b,_,rfl,hb0,by omega,hbd16,λ H9 s9=>⟨true,rfl,iteF ?_⟩⟩
  have s09:=s07.trans (s8.trans s9)
  have hF9:=same_tup (s8.trans s9) hF7
  have hp1:(0:Int)<(((pkt (f::L) d l.length b).length:Nat):Int)-1:=by omega
  refine ⟨_,rfl,_,rfl,_,rfl,_,_,rfl,lenvS zp,_,_,rfl,rfl,_,_,rfl,rfl,hp1,_,rfl,.inr (cutT zp ?_)⟩
  try dsimp (config:={ proj:=false,eta:=false,zeta:=false,iota:=false }) only [tNil,tC]
  have kB:=cut_le (pkt (f::L) d l.length b) none (some (cell % ((((pkt (f::L) d l.length b).length:Nat):Int)-1)))
  have mB:∀ c ∈ cutL (pkt (f::L) d l.length b) none (some (cell % ((((pkt (f::L) d l.length b).length:Nat):Int)-1))),c<16^8:=λ c hc=>hp16 c (cut_sub c hc)
  generalize cutL (pkt (f::L) d l.length b) none (some (cell % ((((pkt (f::L) d l.length b).length:Nat):Int)-1)))=B at kB mB ⊢
  refine ⟨_,rfl,_,rfl,f1,f::L,S0,d,_,rfl,hF9,hL2,hL6,dr,d6,λ H10 s10=>⟨true,rfl,iteF ?_⟩⟩
  refine ⟨_,rfl,_,rfl,B,rfl,by omega,mB,λ H11 s11=>.inr (.inl (catX (by rw [sizeLine_eq]; show _+2<=_; omega) ?_))⟩
  refine ⟨B++cks B,rfl,by rw [List.length_append]; show _+2<=_; omega,app_16 mB (cks_16 B),λ H12 s12=>⟨true,rfl,iteF ?_⟩⟩
  have s012:=s09.trans (s10.trans (s11.trans s12))
  have hF12:=same_tup (s10.trans (s11.trans s12)) hF9
  refine ⟨_,rfl,a,ns,1,rfl,same_lst s012 ha,by decide,by rw [sizeLine_eq]; show 1<=_; decide,λ p1 hq1=>?_⟩
  have e1:upd H12 p1 (.lst [V.int (cellN ns 1)]) p1=some (.lst [V.int (cellN ns 1)]):=upd_same
  have s013:=new_same (o:=.lst [V.int (cellN ns 1)]) hq1 s012
  have hF13:=new_tup (o:=.lst [V.int (cellN ns 1)]) hq1 hF12
  try dsimp (config:={ proj:=false,eta:=false,zeta:=false,iota:=false }) only [tNil,tC]
  generalize upd H12 p1 (.lst [V.int (cellN ns 1)])=H13 at e1 s013 hF13 ⊢
  refine ⟨_,rfl,_,rfl,_,rfl,.inl ⟨a,_,rfl,same_lst s013 ha,λ p2 hq2=>?_⟩⟩
  rw [cut_ints]
  have hms:(cutN ns (some 4) (some 14)).length<=ns.length:=by
   unfold cutN
   rw [List.length_take,List.length_drop]; omega
  generalize cutN ns (some 4) (some 14)=ks at hms ⊢
  have e2:upd H13 p2 (.lst (ks.map V.int)) p2=some (.lst (ks.map V.int)):=upd_same
  have e1:=new_at (o:=.lst (ks.map V.int)) hq2 e1
  have s014:=new_same (o:=.lst (ks.map V.int)) hq2 s013
  have hF14:=new_tup (o:=.lst (ks.map V.int)) hq2 hF13
  generalize upd H13 p2 (.lst (ks.map V.int))=H14 at e1 e2 s014 hF14 ⊢
  refine .inr (.inr (.inl ⟨p1,p2,_,_,rfl,rfl,e1,e2,by rw [sizeLine_eq,List.length_map]; show 1+_<=_; omega,λ p3 hq3=>?_⟩))
  have e3:SqL K (upd H14 p3 (.lst ([V.int (cellN ns 1)]++ks.map V.int))) p3 ((cellN ns 1::ks).map V.int):=SqL.of upd_same
  have s015:=new_same (o:=.lst ([V.int (cellN ns 1)]++ks.map V.int)) hq3 s014
  have hF15:=new_tup (o:=.lst ([V.int (cellN ns 1)]++ks.map V.int)) hq3 hF14
  generalize upd H14 p3 (.lst ([V.int (cellN ns 1)]++ks.map V.int))=H15 at e3 s015 hF15 ⊢
  refine .inl ⟨_,_,rfl,e3,?_⟩
  refine for_walk (walk_list (xs:=(cellN ns 1::ks).map V.int)) (λ n σ H'=>∃ r5,σ=[some (.ref a),some (.ref f1),some (.int (m:Int)),some (vt l),some (vt (pkt (f::L) d l.length b)),r5,some (vt B),none,none]/\Same H15 H') ⟨_,rfl,Same.refl _⟩ (λ n σ H' _ ⟨_,_,g⟩=>same_lst g e3) ?_ ?_
  ·rintro n x _ H' hx ⟨r5,rfl,g⟩
   rw [List.getElem?_map] at hx
   obtain ⟨z,_,rfl⟩:=Option.map_eq_some_iff.mp hx
   refine ⟨_,rfl,_,rfl,.inl ⟨_,_,rfl,rfl,mulR (by decide) (by decide),_,_,rfl,rfl,(by show (0:Int)<2147483647; decide),bdy (f::L) d l.length b,_,rfl,hb0,hb96,hbd.1,hbd.2.2.2,λ H'' s''=>⟨true,rfl,iteF ?_⟩⟩⟩
   exact ⟨_,rfl,g.trans s''⟩
  rintro _ H16 ⟨r5,rfl,g16⟩
  have s016:=s015.trans g16
  have hF16:=same_tup g16 hF15
  refine ⟨_,rfl,ixT hF16 rfl ⟨_,_,rfl,lenvS zL,.inl ⟨_,_,rfl,rfl,?_⟩⟩⟩
  refine ⟨_,rfl,_,rfl,_,rfl,.inr (cutT zp ?_)⟩
  try dsimp (config:={ proj:=false,eta:=false,zeta:=false,iota:=false }) only [tNil,tC]
  have ec1:cutL (pkt (f::L) d l.length b) none (some (2+(((f::L).length:Nat):Int)))=[48+d]++[48+(f::L).length]++(f::L):=by
   have:=cut_to (pkt (f::L) d l.length b) (2+(f::L).length)
   rw [show ((2+(f::L).length:Nat):Int)=2+(((f::L).length:Nat):Int) by omega] at this
   rw [this]
   have epk:pkt (f::L) d l.length b=([48+d]++[48+(f::L).length]++(f::L))++(z3 l.length++grp (grN b) b++cks (bdy (f::L) d l.length b)):=by
    show ([48+d]++[48+(f::L).length]++(f::L)++z3 l.length++grp (grN b) b)++cks (bdy (f::L) d l.length b)=_
    generalize cks (bdy (f::L) d l.length b)=ck
    simp only [List.append_assoc]
   rw [epk]
   rw [List.take_append_of_le_length (by rw [List.length_append]; show _<=2+_; omega),List.take_of_length_le (by rw [List.length_append]; show 2+_<=_; omega)]
  rw [ec1]
  have n1:=Int.emod_nonneg (cellN ns 2) (show (899:Int) ≠ 0 by decide)
  have n2:=Int.emod_lt_of_pos (cellN ns 2) (show (0:Int)<899 by decide)
  obtain ⟨j,hj⟩:∃ j:Nat,101+cellN ns 2 % 899=(j:Int):=⟨(101+cellN ns 2 % 899).toNat,(Int.toNat_of_nonneg (by omega)).symm⟩
  have hj1:101<=j:=by omega
  have hj2:j<=999:=by omega
  obtain ⟨q1,_,q3⟩:=dg3 hj1 hj2
  refine ⟨_,rfl,a,ns,2,rfl,same_lst s016 ha,by decide,_,_,rfl,rfl,(by show (0:Int)<899; decide),.inl ⟨_,_,rfl,rfl,?_⟩⟩
  try dsimp (config:={ proj:=false,eta:=false,zeta:=false,iota:=false }) only [tNil,tC]
  rw [hj]
  refine ⟨_,rfl,log_small (n:=j) (by omega),?_⟩
  rw [str_dg]
  refine .inr (.inl (catX (by rw [sizeLine_eq,q1,List.length_append]; show 2+_+3<=_; omega) ?_))
  refine ⟨_,rfl,_,rfl,.inl ⟨_,_,rfl,rfl,_,rfl,2,rfl,_,rfl,.inr (cutT zp ?_)⟩⟩
  try dsimp (config:={ proj:=false,eta:=false,zeta:=false,iota:=false }) only [tNil,tC]
  have ec2:cutL (pkt (f::L) d l.length b) (some (2+(((f::L).length:Nat):Int)+3)) (some (-2))=grp (grN b) b:=cut_tail (hdr (f::L) d l.length) (grp (grN b) b) (cks (bdy (f::L) d l.length b)) rfl (by rw [hdr_len hP.ll]; omega)
  have hgl:(grp (grN b) b).length<=96:=by
   have:=hb96
   unfold bdy at this
   rw [List.length_append] at this; omega
  rw [ec2]
  refine .inr (.inl (catX (by rw [sizeLine_eq,List.length_append,List.length_append,q1]; show 2+_+3+_<=_; omega) ?_))
  have hml:(mor (f::L) d j (grp (grN b) b)).length<=200:=by
   unfold mor
   rw [List.length_append,List.length_append,List.length_append,q1]; show 2+_+3+_<=_; omega
  have hm16:∀ c ∈ mor (f::L) d j (grp (grN b) b),c<16^8:=by
   unfold mor
   refine app_16 (app_16 (app_16 (app_16 ?_ ?_) h16) q3) (λ c hc=>Nat.lt_trans (gs_lt c (grp_mem _ _ c hc)) (by decide))
   ·intro c hc; cases List.mem_singleton.mp hc; omega
   ·intro c hc; cases List.mem_singleton.mp hc; omega
  have hno:=more_no (LL:=f::L) (g:=grp (grN b) b) (d:=d) hj1 hj2
  change gName 8 (vt (mor (f::L) d j (grp (grN b) b))) _ _ _
  generalize mor (f::L) d j (grp (grN b) b)=M at hml hm16 hno ⊢
  refine ⟨_,rfl,_,rfl,M,rfl,by omega,hm16,λ H17 s17=>.inr (.inl (catX (by rw [sizeLine_eq]; show _+2<=_; omega) ?_))⟩
  refine ⟨M++cks M,rfl,by rw [List.length_append]; show _+2<=_; omega,app_16 hm16 (cks_16 M),hno,λ H18 s18=>⟨true,rfl,iteF ?_⟩⟩
  have hF18:=same_tup (s17.trans s18) hF16
  refine ⟨_,rfl,pkt (f::L) d l.length b,rfl,by omega,hp16,λ hno=>absurd (⟨hP,rfl⟩:Dec _ f L d l b) (hno _ _ _ _ _),λ f' L' d' l' b' H19 r2 fp2 hD9 s19 er2 ef2=>?_⟩
  obtain ⟨rfl,rfl,rfl,rfl⟩:=hP.one hD9
  refine ⟨_,rfl,_,rfl,by rw [sizeLine_eq]; show 2<=_; decide,λ rr2 hrr2=>?_⟩
  have hF20:=new_tup (o:=.tup [.ref f1,vt l]) hrr2 (same_tup s19 hF18)
  exact .inr ⟨r2,rr2,_,_,rfl,rfl,.inl ⟨.inl (.inl (new_at hrr2 er2)),.inl (.inl upd_same)⟩,rfl,alk72 (.inl (.inl (new_at hrr2 ef2))) hF20,q _⟩
end
theorem fin {P:Program} {w:World} {K:PySem.W.Frag} {mg:Str->Option Value} {fa:Addr} (hmg:mg "law" = some (.ref fa)) (h:∃ t,Txt K mg t):
 ∃ fd:FuncData,(∀ (s:Shared) (v:Value),BindsTo s fd ⟨[v],[]⟩ [("script",v)])/\∀ base:Heap,K.In base->base.Ns mainGlobals mg->FnOk P w K mg base (CX1 P w) 16 fa fd ["script"] (spLaw K):=by
 obtain ⟨t,T⟩:=h
 have e:=hmg.symm.trans T.m_law
 cases e
 exact ⟨_,T.bl,λ base _ _=>ok_law T⟩
theorem walk {l:PySem.W.OpenLaw} {q:Program} {loose:List Str} {XP:(Str->Option Value)->Heap->Prop} {YP:World->Heap->Prop} {d:DefRec} {K:Params->PySem.W.Frag} (hn:l.most=some 63) (hdf:d.params.defaults=[])
 (hY:∀ (w:World) (h:Heap),YP w h->(K w.params).In h)
 (F:∀ (w:World) (mg:Str->Option Value) (fa:Addr) (h:Heap),(K w.params).In h->h.Ns mainGlobals mg->mg d.name=some (.ref fa)->
  ∃ fd:FuncData,(∀ (s:Shared) (u:Value),BindsTo s fd ⟨[u],[]⟩ [("script",u)])/\∀ base:Heap,(K w.params).In base->base.Ns mainGlobals mg->FnOk l.prog w (K w.params) mg base (CX1 l.prog w) 16 fa fd ["script"] (spLaw (K w.params))):
 PySem.W.WalkO q loose XP YP l.row.toRowW d [] (λ f vs=>PySem.call f vs) :=
 L2.walk_b (n:=63) (k:=16) (x := "script") (CX:=λ w=>CX1 l.prog w) (sp:=λ w=>spLaw (K w.params)) hn (by decide) hdf ⟨rfl,by decide,by decide⟩ hY F (λ _ _ a ns hl hb _ hS=>⟨a,ns,rfl,hS,hl,hb,λ _=>rfl⟩) λ _ _ _ _ _ z=>cx1_none z
end Bp
namespace PySem.W.Fast
theorem tw3967507235984554065:True:=⟨⟩
theorem tw17083446662530874394:True:=⟨⟩
theorem tw15155935697218448787:True:=⟨⟩
theorem tw3802165479089858526:True:=⟨⟩
theorem tw14821526610356727455:True:=⟨⟩
theorem tw11141542853563589311:True:=⟨⟩
theorem tw16062584641594130988:True:=⟨⟩
theorem tw18150708467381489690:True:=⟨⟩
theorem tw8798636618778669691:True:=⟨⟩
theorem tw13668643969470667413:True:=⟨⟩
theorem tw7772757189147825888:True:=⟨⟩
theorem tw4081228867685314304:True:=⟨⟩
theorem tw5131005042342354630:True:=⟨⟩
theorem tw8236378799099183264:True:=⟨⟩
theorem tw18365785610994220831:True:=⟨⟩
theorem tw3567119404193852635:True:=⟨⟩
theorem tw11660216137436606220:True:=⟨⟩
theorem tw10932803613574064819:True:=⟨⟩
theorem tw3157662769594397025:True:=⟨⟩
theorem tw4134489796830052026:True:=⟨⟩
theorem tw13324829433507515353:True:=⟨⟩
theorem tw18235187118014701988:True:=⟨⟩
theorem tw18287253467768116238:True:=⟨⟩
theorem tw17176223009976024303:True:=⟨⟩
theorem tw10445538401019445317:True:=⟨⟩
theorem tw2204209679305964810:True:=⟨⟩
theorem tw5528045359500755626:True:=⟨⟩
theorem tw17212169381113393999:True:=⟨⟩
theorem tw4277488103411309659:True:=⟨⟩
theorem tw12450348596822501659:True:=⟨⟩
theorem tw11784908727507468319:True:=⟨⟩
theorem tw5899226225242012423:True:=⟨⟩
theorem tw3835713325428112397:True:=⟨⟩
theorem tw1086688610241459388:True:=⟨⟩
theorem tw6755446955618268463:True:=⟨⟩
theorem tw16485734056621069024:True:=⟨⟩
theorem tw3037875664644373380:True:=⟨⟩
theorem tw4810567914986262757:True:=⟨⟩
theorem tw12246701271163141542:True:=⟨⟩
theorem tw9858109261299956059:True:=⟨⟩
theorem tw16172282936492066654:True:=⟨⟩
theorem tw13107429579139640249:True:=⟨⟩
theorem tw10327380845044413679:True:=⟨⟩
theorem tw6150254688984497939:True:=⟨⟩
theorem tw17776387804284418145:True:=⟨⟩
theorem tw3032225713102029379:True:=⟨⟩
theorem tw17842285843785415164:True:=⟨⟩
theorem tw2320978296461843530:True:=⟨⟩
theorem tw8490457796455541010:True:=⟨⟩
theorem tw8374813529443515604:True:=⟨⟩
theorem tw10525031427743684830:True:=⟨⟩
theorem tw2588635970704395484:True:=⟨⟩
theorem tw5111193541841393308:True:=⟨⟩
theorem tw12190278942678894076:True:=⟨⟩
theorem tw16053115371363409117:True:=⟨⟩
theorem tw15536979562676899418:True:=⟨⟩
theorem tw14096253856170368061:True:=⟨⟩
theorem tw3869804915891734095:True:=⟨⟩
theorem tw16863428187223649384:True:=⟨⟩
theorem tw2543591212620326131:True:=⟨⟩
theorem tw9624437241617517307:True:=⟨⟩
theorem tw2123874191209686606:True:=⟨⟩
theorem tw15348220172606431367:True:=⟨⟩
theorem tw18002776560732454798:True:=⟨⟩
theorem tw15489096337170079284:True:=⟨⟩
theorem tw11368153848494908438:True:=⟨⟩
theorem tw17578370924095180296:True:=⟨⟩
theorem tw1568738068333008342:True:=⟨⟩
theorem tw11095359662466823495:True:=⟨⟩
theorem tw6739128055708294361:True:=⟨⟩
theorem tw3624183707895911901:True:=⟨⟩
theorem tw104564716156519633:True:=⟨⟩
theorem tw8410367230362862470:True:=⟨⟩
theorem tw5188852567051569378:True:=⟨⟩
theorem tw451244865419821901:True:=⟨⟩
theorem tw3109209288883921442:True:=⟨⟩
theorem tw16672072113814091693:True:=⟨⟩
theorem tw16370242399547658401:True:=⟨⟩
theorem tw15900549017992711222:True:=⟨⟩
theorem tw2662748549845545627:True:=⟨⟩
theorem tw6164734470336817198:True:=⟨⟩
theorem tw7698230440458986998:True:=⟨⟩
theorem tw7513042422566579917:True:=⟨⟩
theorem tw15296918630709294793:True:=⟨⟩
theorem tw9211005016274992650:True:=⟨⟩
theorem tw13537490817378525938:True:=⟨⟩
theorem tw2957208068840020822:True:=⟨⟩
theorem tw5684837710327915517:True:=⟨⟩
theorem tw4264022417619836330:True:=⟨⟩
theorem tw12352192309323265113:True:=⟨⟩
theorem tw11901845143379668256:True:=⟨⟩
theorem tw6829372297742227150:True:=⟨⟩
theorem tw11358664965476954876:True:=⟨⟩
theorem tw6976056261033872973:True:=⟨⟩
theorem tw11115694070273964844:True:=⟨⟩
theorem tw15182742215084630717:True:=⟨⟩
theorem tw15158597648174232596:True:=⟨⟩
theorem tw6515936652528677262:True:=⟨⟩
theorem tw11293850096188738607:True:=⟨⟩
theorem tw5789439598588217396:True:=⟨⟩
theorem tw13781379751445316562:True:=⟨⟩
theorem tw8921061258666113552:True:=⟨⟩
theorem tw10014227110161359136:True:=⟨⟩
theorem tw16063490226928911479:True:=⟨⟩
theorem tw8842304966890603104:True:=⟨⟩
theorem tw15607895069692044463:True:=⟨⟩
theorem tw9017386213189186569:True:=⟨⟩
theorem tw8397868334214590297:True:=⟨⟩
theorem tw9437890192538028700:True:=⟨⟩
theorem tw10175952222463307847:True:=⟨⟩
theorem tw4260038652837453411:True:=⟨⟩
theorem tw2311376255045922516:True:=⟨⟩
theorem tw7181087067214497269:True:=⟨⟩
theorem tw18263149445043872414:True:=⟨⟩
theorem tw293793777214857102:True:=⟨⟩
theorem tw17927520243937207947:True:=⟨⟩
theorem tw10577319746116444153:True:=⟨⟩
theorem tw330127515337245470:True:=⟨⟩
theorem tw1496794887421447671:True:=⟨⟩
theorem tw1327696410084975032:True:=⟨⟩
theorem tw16819397452348212905:True:=⟨⟩
theorem tw11774347459297358148:True:=⟨⟩
theorem tw5751826596575638324:True:=⟨⟩
theorem tw17868781415007498045:True:=⟨⟩
theorem tw14466075173689247926:True:=⟨⟩
theorem tw412808592285104716:True:=⟨⟩
theorem tw11370071380812448315:True:=⟨⟩
theorem tw5272563059933116289:True:=⟨⟩
theorem tw17451695398473127688:True:=⟨⟩
theorem tw584735660882959174:True:=⟨⟩
theorem tw16124179484456213885:True:=⟨⟩
theorem tw2159464959882532964:True:=⟨⟩
theorem tw10662102067629080704:True:=⟨⟩
theorem tw5482506146869810120:True:=⟨⟩
theorem tw9014458667228683183:True:=⟨⟩
theorem tw940673048996754226:True:=⟨⟩
theorem tw14536743270054065627:True:=⟨⟩
theorem tw10470911733171458795:True:=⟨⟩
theorem tw12200405270233957324:True:=⟨⟩
theorem tw16239395297344488066:True:=⟨⟩
theorem tw10645652936065430679:True:=⟨⟩
theorem tw14047298810293117871:True:=⟨⟩
theorem tw2518740273392914193:True:=⟨⟩
theorem tw3923224621610494531:True:=⟨⟩
theorem tw2311300796823701697:True:=⟨⟩
theorem tw9362286905315883014:True:=⟨⟩
theorem tw10917061224255970363:True:=⟨⟩
theorem tw10971930635456110527:True:=⟨⟩
theorem tw15128700149230825719:True:=⟨⟩
theorem tw17863497446984618307:True:=⟨⟩
theorem tw14209688048485885549:True:=⟨⟩
theorem tw1429881317670896672:True:=⟨⟩
theorem tw61767908344489345:True:=⟨⟩
theorem tw17987547867293790236:True:=⟨⟩
theorem tw3288046825457089731:True:=⟨⟩
theorem tw7580210462009194275:True:=⟨⟩
theorem tw16788766169977567875:True:=⟨⟩
theorem tw2943460411096957996:True:=⟨⟩
theorem tw14160823217026676026:True:=⟨⟩
theorem tw6438230882854714671:True:=⟨⟩
theorem tw3646721076040027938:True:=⟨⟩
theorem tw16361331548820459070:True:=⟨⟩
theorem tw4056118160461161110:True:=⟨⟩
theorem tw1470345125033782019:True:=⟨⟩
theorem tw12762654018042880124:True:=⟨⟩
theorem tw12190991888040693262:True:=⟨⟩
theorem tw10486990088730744180:True:=⟨⟩
theorem tw5459717763962170965:True:=⟨⟩
theorem tw17241063230808158838:True:=⟨⟩
theorem tw6951093297698813909:True:=⟨⟩
theorem tw1684475373227553965:True:=⟨⟩
theorem tw7223649412976536538:True:=⟨⟩
theorem tw1349765700300195640:True:=⟨⟩
theorem tw11827356793204811756:True:=⟨⟩
theorem tw18154364370199690231:True:=⟨⟩
end PySem.W.Fast
local macro_rules | `(tactic| sizeOf_list_dec)=>`(tactic| first | (refine' Bp.fx ?n ?l ?c ?k; (case n=>k_is); (case l=>k_is); (case c=>k_is); (case k=>k_is)) | (refine' Bp.mx ?n ?i ?l ?c ?k; (case n=>k_is); (case i=>k_is); (case l=>k_is); (case c=>k_is); (case k=>k_is)))
open PySem PySem.W PyProof.Rows
set_option maxRecDepth 100000 in
set_option maxHeartbeats 0 in
theorem PySem.Challenge.cw_boughpress_k72_packets_spoilt_holds : PySem.Challenge.rw_boughpress_k72_packets_spoilt.Holds := by
 w_on; o_law; k_head; (case hw=>w_witness2)
 k_fill
 refine Bp.walk (l:=PySem.Challenge.rw_boughpress_k72_packets_spoilt) rfl rfl (λ w h Y=>PySem.W.kIn_of Y) ?F
 case F =>
  intro w mg fa h KX G hmg
  refine Bp.fin hmg ?_
  refine' Bp.txt_mk KX G ?f_Qbc ?f_Qm ?f_Qbj ?f_Qbk ?f_Qn ?f_Qbd ?f_Qt ?f_Qbl ?f_Qb ?f_Qbe ?f_plus ?f_Qby ?f_half ?f_over ?f_Qbm ?f_Qbz ?f_Qbn ?f_Qe ?f_Qi ?f_Qbo ?f_Qo ?f_Qbp ?f_Qv ?f_Qw ?f_Qca ?f_Qbw ?f_Qcb ?f_Qj ?n_span ?l_span ?ld_span ?o_span ?k_span ?f_Qx ?n_text_at ?l_text_at ?ld_Qbq ?o_text_at ?k_text_at ?n_press ?l_press ?ld_Qcc ?o_press ?k_press ?f_Qbr ?f_Qbf ?f_wrap ?f_Qy ?f_Qf ?f_Qd ?f_Qp ?f_Qk ?f_Qbx ?f_Qz ?f_Qbs ?f_Qbt ?f_Qbu ?f_Qba ?f_Qu ?f_Qbg ?f_Qbv ?f_Qq ?f_Qbh ?f_Qbi ?f_Qbb ?f_law ?n_Growth ?f_Qr ?f_Ql ?f_Qc ?f_Qg ?f_Qh ?f_Qa ?f_Qs ?pg_Growth ?hd_Growth ?po_Growth ?sa_Growth ?mk_Growth ?kc_Growth ?na_Growth_frame ?na_Growth_replaced ?na_Growth_table ?na_Growth_text ?n_ValueError ?n_abs ?n_all ?n_bool ?n_enumerate ?n_int ?n_isinstance ?n_len ?n_list ?n_max ?n_ord ?n_range ?n_reversed ?n_set ?n_str ?n_sum ?n_tuple ?n_PressError ?n_NoFraction ?n_NoFrame ?n_NoText ?n_NoSign ?n_NoBits ?n_NoPress ?n_NoPacket ?n_NoRow ?n_NoNumber ?n_PER_CENT ?n_FEWEST_LETTERS ?n_MOST_LETTERS ?n_GREATEST_DEPTH ?n_FIGURES ?n_COUNTS ?n_WORTH ?n_WEIGHT ?n_MOST_SIGNS ?n_GROUP_SIGNS ?n_GROUP_SIZE ?n_CHECK_SIGNS ?n_CHECK_SIZE ?n_CHECK_DIVISOR ?n_LENGTH_SIZE ?n_NOUGHT ?lk_NOUGHT ?n_ONE ?lk_ONE ?x_NoBits ?zga_NoBits ?zgt_NoBits ?zcl_NoBits ?zob_NoBits ?zbe_NoBits ?x_NoFraction ?zga_NoFraction ?zgt_NoFraction ?zcl_NoFraction ?zob_NoFraction ?zbe_NoFraction ?x_NoFrame ?zga_NoFrame ?zgt_NoFrame ?zcl_NoFrame ?zob_NoFrame ?zbe_NoFrame ?x_NoPacket ?zga_NoPacket ?zgt_NoPacket ?zcl_NoPacket ?zob_NoPacket ?zbe_NoPacket ?x_NoText ?zga_NoText ?zgt_NoText ?zcl_NoText ?zob_NoText ?zbe_NoText ?x_PressError ?zga_PressError ?zgt_PressError ?zcl_PressError ?zob_PressError ?zbe_PressError ?i_NoBits_NoPacket ?i_NoFraction_NoPacket ?i_NoFrame_NoPacket ?i_NoPacket_NoPacket ?i_NoText_NoPacket ?i_NoBits_ValueError ?i_NoFraction_ValueError ?i_NoFrame_ValueError ?i_NoPacket_ValueError ?i_NoText_ValueError ?it_L_refused_NoBits_0 ?it_L_refused_NoFraction_0 ?it_L_refused_NoFrame_0 ?it_L_refused_NoPacket_0 ?it_L_refused_NoText_0 ?u_NoBits_PressError ?u_NoFraction_PressError ?u_NoFrame_PressError ?u_NoPacket_PressError ?u_NoText_PressError ?u_NoPacket_NoPacket
  (case f_Qbc=>sizeOf_list_dec)
  (case f_Qm=>sizeOf_list_dec)
  (case f_Qbj=>sizeOf_list_dec)
  (case f_Qbk=>sizeOf_list_dec)
  (case f_Qn=>sizeOf_list_dec)
  (case f_Qbd=>sizeOf_list_dec)
  (case f_Qt=>sizeOf_list_dec)
  (case f_Qbl=>sizeOf_list_dec)
  (case f_Qb=>sizeOf_list_dec)
  (case f_Qbe=>sizeOf_list_dec)
  (case f_plus=>sizeOf_list_dec)
  (case f_Qby=>sizeOf_list_dec)
  (case f_half=>sizeOf_list_dec)
  (case f_over=>sizeOf_list_dec)
  (case f_Qbm=>sizeOf_list_dec)
  (case f_Qbz=>sizeOf_list_dec)
  (case f_Qbn=>sizeOf_list_dec)
  (case f_Qe=>sizeOf_list_dec)
  (case f_Qi=>sizeOf_list_dec)
  (case f_Qbo=>sizeOf_list_dec)
  (case f_Qo=>sizeOf_list_dec)
  (case f_Qbp=>sizeOf_list_dec)
  (case f_Qv=>sizeOf_list_dec)
  (case f_Qw=>sizeOf_list_dec)
  (case f_Qca=>sizeOf_list_dec)
  (case f_Qbw=>sizeOf_list_dec)
  (case f_Qcb=>sizeOf_list_dec)
  (case f_Qj=>sizeOf_list_dec)
  (case n_span=>k_is)
  (case l_span=>k_is)
  (case ld_span=>k_is)
  (case o_span=>k_is)
  (case k_span=>k_is)
  (case f_Qx=>sizeOf_list_dec)
  (case n_text_at=>k_is)
  (case l_text_at=>k_is)
  (case ld_Qbq=>k_is)
  (case o_text_at=>k_is)
  (case k_text_at=>k_is)
  (case n_press=>k_is)
  (case l_press=>k_is)
  (case ld_Qcc=>k_is)
  (case o_press=>k_is)
  (case k_press=>k_is)
  (case f_Qbr=>sizeOf_list_dec)
  (case f_Qbf=>sizeOf_list_dec)
  (case f_wrap=>sizeOf_list_dec)
  (case f_Qy=>sizeOf_list_dec)
  (case f_Qf=>sizeOf_list_dec)
  (case f_Qd=>sizeOf_list_dec)
  (case f_Qp=>sizeOf_list_dec)
  (case f_Qk=>sizeOf_list_dec)
  (case f_Qbx=>sizeOf_list_dec)
  (case f_Qz=>sizeOf_list_dec)
  (case f_Qbs=>sizeOf_list_dec)
  (case f_Qbt=>sizeOf_list_dec)
  (case f_Qbu=>sizeOf_list_dec)
  (case f_Qba=>sizeOf_list_dec)
  (case f_Qu=>sizeOf_list_dec)
  (case f_Qbg=>sizeOf_list_dec)
  (case f_Qbv=>sizeOf_list_dec)
  (case f_Qq=>sizeOf_list_dec)
  (case f_Qbh=>sizeOf_list_dec)
  (case f_Qbi=>sizeOf_list_dec)
  (case f_Qbb=>sizeOf_list_dec)
  (case f_law=>sizeOf_list_dec)
  (case n_Growth=>k_is)
  (case f_Qr=>sizeOf_list_dec)
  (case f_Ql=>sizeOf_list_dec)
  (case f_Qc=>sizeOf_list_dec)
  (case f_Qg=>sizeOf_list_dec)
  (case f_Qh=>sizeOf_list_dec)
  (case f_Qa=>sizeOf_list_dec)
  (case f_Qs=>sizeOf_list_dec)
  (case pg_Growth=>k_is)
  (case hd_Growth=>k_is)
  (case po_Growth=>k_is)
  (case sa_Growth=>k_is)
  (case mk_Growth=>k_is)
  (case kc_Growth=>k_is)
  (case na_Growth_frame=>k_is)
  (case na_Growth_replaced=>k_is)
  (case na_Growth_table=>k_is)
  (case na_Growth_text=>k_is)
  (case n_ValueError=>k_is)
  (case n_abs=>k_is)
  (case n_all=>k_is)
  (case n_bool=>k_is)
  (case n_enumerate=>k_is)
  (case n_int=>k_is)
  (case n_isinstance=>k_is)
  (case n_len=>k_is)
  (case n_list=>k_is)
  (case n_max=>k_is)
  (case n_ord=>k_is)
  (case n_range=>k_is)
  (case n_reversed=>k_is)
  (case n_set=>k_is)
  (case n_str=>k_is)
  (case n_sum=>k_is)
  (case n_tuple=>k_is)
  (case n_PressError=>k_is)
  (case n_NoFraction=>k_is)
  (case n_NoFrame=>k_is)
  (case n_NoText=>k_is)
  (case n_NoSign=>k_is)
  (case n_NoBits=>k_is)
  (case n_NoPress=>k_is)
  (case n_NoPacket=>k_is)
  (case n_NoRow=>k_is)
  (case n_NoNumber=>k_is)
  (case n_PER_CENT=>k_is)
  (case n_FEWEST_LETTERS=>k_is)
  (case n_MOST_LETTERS=>k_is)
  (case n_GREATEST_DEPTH=>k_is)
  (case n_FIGURES=>k_is)
  (case n_COUNTS=>k_is)
  (case n_WORTH=>k_is)
  (case n_WEIGHT=>k_is)
  (case n_MOST_SIGNS=>k_is)
  (case n_GROUP_SIGNS=>k_is)
  (case n_GROUP_SIZE=>k_is)
  (case n_CHECK_SIGNS=>k_is)
  (case n_CHECK_SIZE=>k_is)
  (case n_CHECK_DIVISOR=>k_is)
  (case n_LENGTH_SIZE=>k_is)
  (case n_NOUGHT=>k_is)
  (case lk_NOUGHT=>k_is)
  (case n_ONE=>k_is)
  (case lk_ONE=>k_is)
  (case x_NoBits=>k_exc)
  (case zga_NoBits=>k_is)
  (case zgt_NoBits=>k_is)
  (case zcl_NoBits=>k_is)
  (case zob_NoBits=>k_is)
  (case zbe_NoBits=>k_is)
  (case x_NoFraction=>k_exc)
  (case zga_NoFraction=>k_is)
  (case zgt_NoFraction=>k_is)
  (case zcl_NoFraction=>k_is)
  (case zob_NoFraction=>k_is)
  (case zbe_NoFraction=>k_is)
  (case x_NoFrame=>k_exc)
  (case zga_NoFrame=>k_is)
  (case zgt_NoFrame=>k_is)
  (case zcl_NoFrame=>k_is)
  (case zob_NoFrame=>k_is)
  (case zbe_NoFrame=>k_is)
  (case x_NoPacket=>k_exc)
  (case zga_NoPacket=>k_is)
  (case zgt_NoPacket=>k_is)
  (case zcl_NoPacket=>k_is)
  (case zob_NoPacket=>k_is)
  (case zbe_NoPacket=>k_is)
  (case x_NoText=>k_exc)
  (case zga_NoText=>k_is)
  (case zgt_NoText=>k_is)
  (case zcl_NoText=>k_is)
  (case zob_NoText=>k_is)
  (case zbe_NoText=>k_is)
  (case x_PressError=>k_exc)
  (case zga_PressError=>k_is)
  (case zgt_PressError=>k_is)
  (case zcl_PressError=>k_is)
  (case zob_PressError=>k_is)
  (case zbe_PressError=>k_is)
  (case i_NoBits_NoPacket=>kit_is)
  (case i_NoFraction_NoPacket=>kit_is)
  (case i_NoFrame_NoPacket=>kit_is)
  (case i_NoPacket_NoPacket=>kit_is)
  (case i_NoText_NoPacket=>kit_is)
  (case i_NoBits_ValueError=>kit_is)
  (case i_NoFraction_ValueError=>kit_is)
  (case i_NoFrame_ValueError=>kit_is)
  (case i_NoPacket_ValueError=>kit_is)
  (case i_NoText_ValueError=>kit_is)
  (case it_L_refused_NoBits_0=>kit_is)
  (case it_L_refused_NoFraction_0=>kit_is)
  (case it_L_refused_NoFrame_0=>kit_is)
  (case it_L_refused_NoPacket_0=>kit_is)
  (case it_L_refused_NoText_0=>kit_is)
  (case u_NoBits_PressError=>k_is)
  (case u_NoFraction_PressError=>k_is)
  (case u_NoFrame_PressError=>k_is)
  (case u_NoPacket_PressError=>k_is)
  (case u_NoText_PressError=>k_is)
  (case u_NoPacket_NoPacket=>k_is)
#print axioms PySem.Challenge.cw_boughpress_k72_packets_spoilt_holds
