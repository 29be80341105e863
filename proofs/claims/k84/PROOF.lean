import PyProof.Rows.All
import Wide.All
import OpenK.AllK
import Wide.FinOn
import Lean
import PyProof.EqAt
import PyProof.EqKinds
import PyProof.TupleCall
import KE.KDictLaws
import KE.KIntText
import KE.KRevIter
import OpenK.KTop
import PyProof.Draws
import PyProof.EnumMake
import PyProof.JoinWalk
import PyProof.MinMaxWalk
import PyProof.NeKinds
import PyProof.Rows.CallKw2
import PyProof.Rows.SortWalk
import PyProof.Rows.StrPadFill
import PyProof.Rows.StrRev
import PyProof.SeqI3
import PyProof.StrLawsChain
import PyProof.StrLawsTight
import PyProof.SumAny
import PyProof.WalkInts
import PyProof.ZipIter
import PySem.Challenge.RW_boughpress_k84_whole_from_rows_to_rows
local macro_rules | `(tactic| omega)=>`(tactic| first | (lia) | omega (config:={}))
set_option Elab.async false
set_option compiler.extract_closed false
set_option linter.all false
noncomputable section
section
open PySem PySem.Spec PyProof.Rows
def aq:=@List.length_append
def aH:=@PySem.W.mg_of
def aI:=@Nat.le_refl
def aP:=@Int.le_trans
def aT:=@List.length_map
def bh:=@List.getElem?_eq_some_iff
def bj:=@Heap.lt_size
def bq:=@List.getElem?_eq_getElem
def bx:=@List.mem_singleton
def bE:=@List.mem_cons
def bO:=@List.mem_cons_self
def bP:=@Heap.get?_push_of_some
def bR:=@List.map_cons
def bS:=@List.getElem?_map
def c7:=@Nat.le_trans
def cg:=@Int.mul_assoc
def cx:=@Int.le_of_lt
def cz:=@Bool.false_ne_true
def cD:=@List.mem_append
def cG:=@Nat.ne_of_lt
def cK:=@Int.mul_pos
def cM:=@Heap.get?_push_size
def cR:=@PassesOwn.never
def cS:=@Int.mul_comm
def cU:=@Nat.zero_le
def cZ:=@List.size_toArray
def d7:=@List.map_map
def d8:=@List.length_cons
def df:=@List.mem_cons_of_mem
def dA:=@List.sum_cons
def dG:=@Ne.symm
def dM:=@List.length_take
def dS:=@Option.some.inj
def dZ:=@Nat.lt_of_lt_of_le
def eK:=@Int.toNat_natCast
def eL:=@Int.add_mul
def eU:=@List.mem_of_getElem?
def eV:=@List.all_eq_true
def fe:=@List.getElem?_eq_none
def ff:=@Int.mul_right_comm
def fH:=@List.take_length
def fI:=@Int.mul_le_mul_of_nonneg_right
def fJ:=@Int.le_refl
def fT:=@PySem.W.mg_none_of
def fU:=@List.getD_eq_getElem?_getD
def fW:=@Int.mul_nonneg
def fZ:=@Bool.and_eq_true
def gs:=@List.mem_append_right
def gv:=@List.map_append
def gw:=@List.append_nil
def gA:=@List.append_assoc
def gB:=@Int.dvd_refl
def gQ:=@List.map_congr_left
def gR:=@List.length_drop
def gS:=@Int.emod_nonneg
def hZ:=@PySem.F.plainAttrs_str
def i4:=@Nat.lt_irrefl
def i6:=@List.take_add_one
def i7:=@List.mem_map
def i8:=@List.mem_append_left
def i9:=@List.length_reverse
def ia:=@Int.eq_of_mul_eq_mul_right
def ib:=@Int.add_zero
def iE:=@PySem.W.kia_one
def iF:=@List.length_range
def iG:=@List.getElem?_append_right
def iH:=@List.getElem?_append_left
def iI:=@Int.mul_le_mul
def iJ:=@Int.eq_ofNat_of_zero_le
def iZ:=@List.not_mem_nil
def j3:=@Calls.spliced_cons
def js:=@List.replicate_succ
def jt:=@List.ext_getElem?
def ju:=@Int.emod_lt_of_pos
def jx:=@Calls.spliced_nil
def jS:=@Nat.add_mul
def jU:=@List.nodup_cons
def jV:=@List.mem_range
def jW:=@List.lookup_cons
def jX:=@List.getElem_mem
def jY:=@List.flatten_cons
def k5:=@Int.natCast_pow
def k7:=@Int.natAbs_mul
def kO:=@List.take_append_drop
def kR:=@Int.mul_lt_mul_of_pos_right
def kS:=@Int.mul_left_comm
def kT:=@Array.length_toList
def m7:=@PySem.F.slot_dict_get
def m8:=@PyProof.Rows.callWith_type1
def ma:=@Nat.pow_le_pow_right
def md:=@Nat.mul_le_mul
def mh:=@List.filter_cons
def mj:=@List.cons.inj
def ml:=@List.all_map
def mq:=@Int.one_mul
def mw:=@F.called_set
def my:=@Calls.callWith_builtin
def mz:=@Array.getElem?_toList
def nL:=@PySem.F.plainAttrs_list
def nO:=@Option.map_some
def nP:=@Nat.le_succ
def nQ:=@Nat.le_of_lt
def nU:=@List.mem_of_mem_take
def nV:=@List.foldl_cons
def nW:=@List.filter_eq_self
def nX:=@List.drop_zero
def nY:=@List.any_cons
def nZ:=@List.all_cons
def o5:=@Int.zero_mul
def o6:=@Int.le_of_mul_le_mul_right
def oh:=@Calls.evalArgs_plain
def oj:=@Bool.eq_iff_iff
def om:=@Around.under_plainId
def pW:=@beq_iff_eq
def pX:=@beq_eq_false_iff_ne
def qe:=@PySem.F.type_list_append
def qf:=@PySem.F.slot_str_index
def qg:=@PySem.F.slot_list_append
def qk:=@List.take_of_length_le
def ql:=@List.sum_append
def qm:=@List.length_replicate
def qo:=@List.length_nil
def qp:=@List.getElem?_range
def qr:=@List.find?_cons
def qv:=@Int.zero_add
def qw:=@Int.nonneg_of_mul_nonneg_left
def qx:=@Int.mul_one
def qy:=@Heap.size_push
def qz:=@Heap.get?_update_other
def qG:=@Bool.or_eq_true
def xl:=@PySem.mem_of_lookup
def xm:=@PySem.F.type_str_index
def xn:=@PySem.F.slot_str_split
def xo:=@PySem.F.entry_dict_get
def xr:=@Option.map_eq_some_iff
def xx:=@Nat.sub_zero
def xy:=@Nat.mul_le_mul_right
def xA:=@Nat.mul_comm
def xB:=@Nat.lt_trans
def xC:=@Nat.lt_or_ge
def xD:=@Nat.lt_of_le_of_lt
def xF:=@List.range_succ
def xG:=@List.mem_of_mem_drop
def xH:=@List.mem_filter
def xI:=@List.length_eq_zero_iff
def xJ:=@List.getElem?_of_mem
def xK:=@List.eq_nil_or_concat
def xM:=@List.drop_of_length_le
def xN:=@List.concat_eq_append
def xR:=@Int.pow_succ
def xS:=@Int.lt_of_le_of_lt
def xT:=@Int.add_assoc
def xU:=@Heap.get?_update_self
def y9:=@Bool.true_and
def yb:=@Bool.false_and
def Cc:=@PySem.intBits_le_iff
def Cd:=@PySem.IntMulOk.of_le
def Ce:=@PySem.F.type_str_join
def Cf:=@PySem.F.slot_str_join
def Cg:=@PySem.F.plainAttrs_dict
def Cj:=@Obj.data_mapFields
def Ck:=@Nat.mul_le_mul_left
def Cm:=@Nat.lt_succ_self
def Cn:=@List.take_prefix
def Co:=@List.replicate_zero
def Cp:=@List.length_pos_of_mem
def Cq:=@List.getElem?_reverse
def Cr:=@List.getElem?_eq_none_iff
def Cs:=@List.drop_eq_getElem_cons
def Ct:=@List.cons_ne_nil
def Cw:=@Int.toNat_of_nonneg
def Cy:=@Int.neg_mul_neg
def Cz:=@Int.lt_of_mul_lt_mul_right
def D9:=@F.slot_str_join
def Dc:=@F.plain_list_iadd
def Ka:=@PySem.F.entry_str_split
def Kb:=@PySem.F.args_str_split_2
def Kc:=@PySem.F.args_dict_get_2
def Kd:=@PyProof.Rows.F.plain_set_update_loop
def Kl:=@List.take_append_of_le_length
def Km:=@List.range_succ_eq_map
def Kn:=@List.getElem?_take_of_lt
def Ko:=@List.getElem?_replicate
def Kp:=@Int.mul_le_mul_of_nonneg_left
def Kq:=@Int.fdiv_eq_ediv_of_nonneg
def Ln:=@Array.getElem?_eq_getElem
end
set_option maxRecDepth 100000
open PySem.W (instObj methodObj Frag lookIn plainGet hasDictIn isFn plainOver takerIn makesIn emptyDict keepIn kitOne fnOf codeIn kitCls subIn nsIn KeysLit)
namespace L2
open PySem PySem.Spec PyProof.Rows
abbrev aU:=Sum Int Str
noncomputable def nu:aU->Value->Bool
 | .inl k,v=>Value.isInt k v
 | .inr x,v=>Value.isStrOf x v
noncomputable def RH(w:World):aU->Int
 | .inl k=>hashInt k
 | .inr x=>hashStr w x
theorem jK:∀{k:aU} {v:Value},nu k v=true->(∃i t,k=Sum.inl i/\v=Value.int i t)\/(∃x t,k=Sum.inr x/\v=Value.str x t)
 | .inl i,v,h=>by
   obtain⟨t,e⟩:=Value.isInt_shape (k:=i) (v:=v) h
   exact .inl ⟨i,t,rfl,e⟩
 | .inr x,v,h=>by
   obtain⟨t,e⟩:=Value.isStrOf_shape (x:=x) (v:=v) h
   exact .inr ⟨x,t,rfl,e⟩
theorem RG(i:Int)(t:Tok):nu (.inl i) (.int i t)=true:=by simp [nu,Value.isInt]
theorem RF(x:Str)(t:Tok):nu (.inr x) (.str x t)=true:=by simp [nu,Value.isStrOf]
theorem RE(a b:Int):decide ((Sum.inl a:aU)=Sum.inl b)=(a == b):=by
 by_cases e:a=b
 ·subst e;simp
 ·have h:¬ (Sum.inl a:aU)=Sum.inl b:=λq=>e (Sum.inl.inj q)
  rw [decide_eq_false h]
  exact(pX.mpr e).symm
theorem RA(a b:Str):decide ((Sum.inr a:aU)=Sum.inr b)=decide (a=b):=by
 by_cases e:a=b
 ·subst e;simp
 ·have h:¬ (Sum.inr a:aU)=Sum.inr b:=λq=>e (Sum.inr.inj q)
  rw [decide_eq_false h,decide_eq_false e]
theorem RD(a:Int)(b:Str):decide ((Sum.inl a:aU)=Sum.inr b)=false:=decide_eq_false (λq=>nomatch q)
theorem RB(a:Str)(b:Int):decide ((Sum.inr a:aU)=Sum.inl b)=false:=decide_eq_false (λq=>nomatch q)
noncomputable def fj(prog:Program)(w:World):PySem.KeyKind prog w aU where
 is:=nu
 hash:=RH w
 inj:=λv a b ha hb=>by
  rcases jK ha with⟨i,t,rfl,rfl⟩ | ⟨x,t,rfl,rfl⟩
  ·rcases jK hb with⟨j,u,rfl,e⟩ | ⟨y,u,rfl,e⟩
   ·injection e with e1 _;rw [e1]
   ·exact nomatch e
  ·rcases jK hb with⟨j,u,rfl,e⟩ | ⟨y,u,rfl,e⟩
   ·exact nomatch e
   ·injection e with e1 _;rw [e1]
 byValue:=λk v h=>by
  rcases jK h with⟨i,t,rfl,rfl⟩ | ⟨x,t,rfl,rfl⟩<;>rfl
 pyHash:=λhv h=>by
  rcases jK hv with⟨i,t,rfl,rfl⟩ | ⟨x,t,rfl,rfl⟩
  ·exact wpAny_pyHash_int h
  ·exact wpAny_pyHash_str h
 eqBool:=λhu hv h=>by
  rcases jK hu with⟨i,t,rfl,rfl⟩ | ⟨x,t,rfl,rfl⟩
  ·rcases jK hv with⟨j,u,rfl,rfl⟩ | ⟨y,u,rfl,rfl⟩
   ·rw [RE] at h;exact wpAny_eqBool_int h
   ·rw [RD] at h;exact SeqAt.EqAt.int_str i t y u _ _ _ _ h
  ·rcases jK hv with⟨j,u,rfl,rfl⟩ | ⟨y,u,rfl,rfl⟩
   ·rw [RB] at h;exact SeqAt.EqAt.str_int x t j u _ _ _ _ h
   ·rw [RA] at h;exact wpAny_eqBool_str h
 «strs»:=λk x t v h=>by
  rcases jK h with⟨i,u,rfl,e⟩ | ⟨y,u,rfl,e⟩
  ·exact nomatch e
  ·injection e with e1 _
   subst e1
   cases v<;>rfl
theorem QV(prog:Program)(w:World)(i:Int)(t:Tok):(fj prog w).is (.inl i) (.int i t)=true:=RG i t
theorem QU(prog:Program)(w:World)(x:Str)(t:Tok):(fj prog w).is (.inr x) (.str x t)=true:=RF x t
end L2
namespace L2
open PySem PySem.Spec PyProof.Rows
inductive V where
 | non | bl (b:Bool) | int (i:Int) | str (x:Str) | byt (b:Array UInt8) | flt (b:UInt64) | ref (a:Addr) | ty (n:String)
 deriving DecidableEq
noncomputable def aL:V->Value->Prop
 | .non,u=>u=Value.none
 | .bl b,u=>u=Value.bool b
 | .int i,u=>∃t,u=Value.int i t
 | .str x,u=>∃t,u=Value.str x t
 | .byt b,u=>∃t,u=Value.bytes b t
 | .flt b,u=>∃t,u=Value.float b t
 | .ref a,u=>u=Value.ref a
 | .ty n,u=>u=Value.type n
abbrev aB:List V->List Value->Prop:=Paired aL
theorem aB.length{xs:List V}{us:List Value}(r:aB xs us):xs.length=us.length:=Paired.length r
theorem aB.get:∀{xs:List V} {us:List Value} {i:Nat} {x:V},aB xs us->xs[i]?=some x->∃u,us[i]?=some u/\aL x u
 | _,_,_,_,.nil,e=>by simp at e
 | _,_,0,_,.cons r _,e=>by simp at e;subst e;exact⟨_,rfl,r⟩
 | _,_,i+1,x,.cons _ t,e=>by
   obtain⟨u,h1,h2⟩:=aB.get (i:=i) (x:=x) t (by simpa using e)
   exact⟨u,by simpa using h1,h2⟩
theorem aB.set{x:V}{u:Value}(r:aL x u):∀{xs:List V} {us:List Value} (i:Nat),aB xs us->aB (xs.set i x) (us.set i u)
 | _,_,_,.nil=>.nil
 | _,_,0,.cons _ t=>.cons r t
 | _,_,i+1,.cons q t=>.cons q (aB.set r i t)
theorem aB.append:∀{xs ys:List V} {us ws:List Value},aB xs us->aB ys ws->aB (xs++ys) (us++ws)
 | _,_,_,_,.nil,s=>s
 | _,_,_,_,.cons r t,s=>.cons r (aB.append t s)
theorem aB.take:∀{xs:List V} {us:List Value} (n:Nat),aB xs us->aB (xs.take n) (us.take n)
 | _,_,0,_=>.nil
 | _,_,_+1,.nil=>.nil
 | _,_,n+1,.cons r t=>.cons r (aB.take n t)
theorem aB.drop:∀{xs:List V} {us:List Value} (n:Nat),aB xs us->aB (xs.drop n) (us.drop n)
 | _,_,0,r=>r
 | _,_,_+1,.nil=>.nil
 | _,_,n+1,.cons _ t=>aB.drop n t
theorem aB.none_of:∀{xs:List V} {us:List Value} {i:Nat},aB xs us->xs[i]?=none->us[i]?=none:=λ {xs us i} r e=>by
 have h1:=r.length
 have h2:xs.length<=i:=Cr.mp e
 exact Cr.mpr (by omega)
noncomputable def fc:Option V->Option Value->Prop
 | some v,some u=>aL v u
 | none,none=>True
 | _,_=>False
noncomputable def KV{κ:Type}:List (κ × V)->List (κ × Value)->Prop:=Paired λ(p:κ × V) (q:κ × Value)=>p.1=q.1/\aL p.2 q.2
noncomputable def kV:aU->V
 | .inl i=>.int i
 | .inr x=>.str x
inductive HO where
 | lst (xs:List V)
 | tup (xs:List V)
 | dK (kvs:List (aU × V)) | dT (kvs:List (List aU × V))
 | set (S:Int->Bool) (n:Nat)
 | ins (C dx:Addr) (fs:List (Str × V))
 | own (x:Addr)
 | xd (fs:List (Str × V))
 | met (f x:Addr)
 | rng (lo hi:Int)
 | frz (o:Obj) (u:HO)
 | tbl (ps:Array Value)
 | ext (φ:Heap->Prop)
abbrev Hp:=Addr->Option HO
noncomputable def ai(H:Hp)(a:Addr)(o:HO):Hp:=λb=>if b=a then some o else H b
theorem aA{H:Hp}{a:Addr}{o:HO}:ai H a o a=some o:=by unfold ai;rw [if_pos rfl]
theorem au{H:Hp}{a b:Addr}{o:HO}(h:b ≠ a):ai H a o b=H b:=by unfold ai;rw [if_neg h]
theorem kW{H:Hp}{a:Addr}{o u:HO}:ai (ai H a o) a u=ai H a u:=by
 funext b;unfold ai;split<;>rfl
theorem Bi{H:Hp}{a b:Addr}{o u:HO}(h:H a=some o)(h':H b=some u)(d:o ≠ u):a ≠ b:=by
 intro e;subst e;rw [h] at h';exact d (dS h')
theorem bQ{H:Hp}{a b:Addr}{o:HO}(h:H a=some o)(h':H b=none):a ≠ b:=by
 intro e;subst e;rw [h] at h';cases h'
section
variable (P:Program) (w:World)
noncomputable def cc(H:Hp)(h:Heap)(a:Addr):HO->Prop
 | .lst xs=>xs.length<=sizeLine/\∃(its:List Value) (n:Nat),aB xs its/\h.get? a=some { cls:=.type "list",data:=.seq its.toArray n }
 | .tup xs=>xs.length<=sizeLine/\∃its:List Value,aB xs its/\IsTup h a its.toArray
 | .dK kvs=>kvs.length<=sizeLine/\(a == sysModules)=false/\∃vs,KV kvs vs/\h.DictOf (fj P w) a vs
 | .dT kvs=>kvs.length<=sizeLine/\(a == sysModules)=false/\∃xs:List (List aU × Addr × Value),
  Paired (λ(p:List aU × V) (q:List aU × Addr × Value)=>p.1=q.1/\H q.2.1=some (.tup (p.1.map kV))/\aL p.2 q.2.2) kvs xs/\
  ∃o es ep,h.get? a=some o/\o.ExactDict/\o.data=.dict es ep/\es.toList=xs.map (entryOfKey (tupleKind (fj P w)))/\(xs.map (·.1)).Nodup
 | .set S n=>h.SetOf (intKind P w) a S n
 | .ins C dx fs=>H dx=some (.own a)/\fs.length<=1000/\dx ≠ a/\h.get? a=some (instObj C dx)/\
  ∃mA,h.Ns1 dx mA/\(∀f,fc (fs.lookup f) (mA f))/\PySem.Within mA (fs.map (·.1))
 | .own _=>∃o,h.get? a=some o
 | .xd fs=>∃mA,h.Ns1 a mA/\∀f,fc (fs.lookup f) (mA f)
 | .rng lo hi=>∃t u v,h.get? a=some { cls:=.type "range",data:=.fields #[.int lo t,.int hi u,.int 1 v] }
 | .frz o u=>h.get? a=some o/\cc H h a u
 | .tbl ps=>h.get? a=some { cls:=.none,data:=.fields ps }
 | .met f x=>h.get? a=some (methodObj (.ref f) (.ref x))
 | .ext φ=>φ h/\(∃o,h.get? a=some o)/\∀h1 h2:Heap,φ h1->(∀o,h1.get? a=some o->h2.get? a=some o)->φ h2
noncomputable def bZ(H:Hp)(h:Heap):Prop:=∀a o,H a=some o->cc P w H h a o
end
section
variable {P:Program} {w:World} {H H':Hp} {h h':Heap} {a:Addr} {o:HO}
theorem cc.lt(x:cc P w H h a o):a<h.objs.size:=by
 cases o with
 | lst xs=>obtain⟨_,_,_,_,e⟩:=x;exact bj e
 | tup xs=>obtain⟨_,_,_,p⟩:=x;exact p.lt
 | dK kvs=>obtain⟨_,_,_,_,o,_,_,e,_⟩:=x;exact bj e
 | dT kvs=>obtain⟨_,_,_,_,o,_,_,e,_⟩:=x;exact bj e
 | set S n=>obtain⟨o,_,_,_,e,_⟩:=x;exact bj e
 | ins C dx fs=>obtain⟨_,_,_,e,_⟩:=x;exact bj e
 | own y=>obtain⟨_,e⟩:=x;exact bj e
 | xd fs=>obtain⟨_,⟨_,_,_,e,_⟩,_⟩:=x;exact bj e
 | rng lo hi=>obtain⟨_,_,_,e⟩:=x;exact bj e
 | frz ob u=>obtain⟨e,_⟩:=x;exact bj e
 | tbl ps=>exact bj (show h.get? a=some _ from x)
 | met f y=>exact bj (show h.get? a=some _ from x)
 | ext φ=>obtain⟨_,⟨_,e⟩,_⟩:=x;exact bj e
theorem Paired.mapP{α β:Type}{F G:α->β->Prop}:∀{l₁:List α} {l₂:List β},Paired F l₁ l₂->(∀a b,F a b->G a b)->Paired G l₁ l₂
 | _,_,.nil,_=>.nil
 | _,_,.cons r t,f=>.cons (f _ _ r) (Paired.mapP t f)
theorem cc.stay(x:cc P w H h a o)(k:∀b u,(b=a\/H b=some (.own a))->h.get? b=some u->h'.get? b=some u)
 (ho:∀b,H b=some (.own a)->H' b=some (.own a)) (ht:∀b xs,H b=some (.tup xs)->H' b=some (.tup xs)):cc P w H' h' a o:=by
 induction o with
 | lst xs=>obtain⟨z,its,n,r,e⟩:=x;exact⟨z,its,n,r,k _ _ (.inl rfl) e⟩
 | tup xs=>obtain⟨z,its,r,ob,e,c⟩:=x;exact⟨z,its,r,ob,k _ _ (.inl rfl) e,c⟩
 | dK kvs=>obtain⟨z,y,vs,r,ob,es,ep,e,c⟩:=x;exact⟨z,y,vs,r,ob,es,ep,k _ _ (.inl rfl) e,c⟩
 | dT kvs =>
   obtain⟨z,y,xs,r,ob,es,ep,e,c⟩:=x
   exact⟨z,y,xs,Paired.mapP r λp q z=>⟨z.1,ht _ _ z.2.1,z.2.2⟩,ob,es,ep,k _ _ (.inl rfl) e,c⟩
 | set S n=>obtain⟨ob,es,ep,t,e,c⟩:=x;exact⟨ob,es,ep,t,k _ _ (.inl rfl) e,c⟩
 | ins C dx fs =>
   obtain⟨d,z,ne,e,mA,⟨od,es,ep,e2,c⟩,r⟩:=x
   exact⟨ho _ d,z,ne,k _ _ (.inl rfl) e,mA,⟨od,es,ep,k _ _ (.inr d) e2,c⟩,r⟩
 | own y=>obtain⟨ob,e⟩:=x;exact⟨ob,k _ _ (.inl rfl) e⟩
 | xd fs=>obtain⟨mA,⟨od,es,ep,e,c⟩,r⟩:=x;exact⟨mA,⟨od,es,ep,k _ _ (.inl rfl) e,c⟩,r⟩
 | rng lo hi=>obtain⟨t,u,v,e⟩:=x;exact⟨t,u,v,k _ _ (.inl rfl) e⟩
 | frz ob u ih=>obtain⟨e,q⟩:=x;exact⟨k _ _ (.inl rfl) e,ih q⟩
 | tbl ps =>
   have e:h.get? a=some { cls:=.none,data:=.fields ps }:=x
   show h'.get? a=some { cls:=.none,data:=.fields ps }
   exact k a _ (.inl rfl) e
 | met f y =>
   have e:h.get? a=some (methodObj (.ref f) (.ref y)):=x
   show h'.get? a=some (methodObj (.ref f) (.ref y))
   exact k a _ (.inl rfl) e
 | ext φ=>obtain⟨p,⟨o,e⟩,st⟩:=x;exact⟨st _ _ p λo q=>k _ _ (.inl rfl) q,⟨o,k _ _ (.inl rfl) e⟩,st⟩
theorem bZ.lt(x:bZ P w H h)(e:H a=some o):a<h.objs.size:=(x a o e).lt
theorem bZ.fresh(x:bZ P w H h)(e:h.objs.size<=a):H a=none:=by
 cases q:H a with
 | none=>rfl
 | some u=>exact absurd (dZ (x.lt q) e) (i4 _)
theorem bZ.kept(x:bZ P w H h)(k:∀b u,h.get? b=some u->h'.get? b=some u):bZ P w H h':=λa o e =>
 (x a o e).stay (λb u _ q=>k b u q) (λ_ q=>q) λ_ _ q=>q
theorem bZ.laid(x:bZ P w H h)(k:∀b u,h.get? b=some u->h'.get? b=some u)(hp:h.objs.size<=a)(new:cc P w (ai H a o) h' a o):bZ P w (ai H a o) h':=λb u e=>by
 have hn:=x.fresh hp
 by_cases hb:b=a
 ·subst hb;rw [aA] at e;cases e;exact new
 ·rw [au hb] at e
  exact(x b u e).stay (λc v _ q=>k c v q) (λc q=>by rw [au (bQ q hn)];exact q) λc xs q=>by rw [au (bQ q hn)];exact q
end
noncomputable def Rd(H:Hp)(a:Addr)(u:HO):Prop:=H a=some u\/∃o,H a=some (.frz o u)
theorem Rd.of{H:Hp}{a:Addr}{u:HO}(h:H a=some u):Rd H a u:=.inl h
theorem Rd.ok{P:Program}{w:World}{H:Hp}{h:Heap}{a:Addr}{u:HO}(r:Rd H a u)(x:bZ P w H h):cc P w H h a u:=by
 rcases r with r | ⟨o,r⟩
 ·exact x a u r
 ·obtain⟨_,q⟩:=x a _ r
  exact q
noncomputable def qj:Option HO->Prop
 | some (.lst _)=>True
 | some (.dK _)=>True
 | some (.dT _)=>True
 | some (.set _ _)=>True
 | some (.ins _ _ _)=>True
 | some (.ext _)=>True
 | _=>False
section
variable {P:Program} {w:World} {H:Hp} {h h':Heap} {x e:Addr} {o':HO}
theorem bZ.write(ok:bZ P w H h)(mu:qj (H x))(he:e=x\/H e=some (.own x))(k:∀b u,b ≠ e->h.get? b=some u->h'.get? b=some u)(heo:∃u,h'.get? e=some u)
 (new:cc P w (ai H x o') h' x o'):bZ P w (ai H x o') h':=λb u q=>by
 have nown:∀c y,H c=some (.own y)->c ≠ x:=λc y r z=>by subst z;rw [r] at mu;exact mu
 have ntup:∀c xs,H c=some (.tup xs)->c ≠ x:=λc xs r z=>by subst z;rw [r] at mu;exact mu
 by_cases hb:b=x
 ·subst hb;rw [aA] at q;cases q;exact new
 ·rw [au hb] at q
  by_cases hbe:b=e
  ·have q':H b=some (.own x):=by
    rcases he with z | z
    ·exact absurd (hbe.trans z) hb
    ·rw [hbe];exact z
   rw [q] at q';cases q'
   obtain⟨v,hv⟩:=heo
   exact⟨v,by rw [hbe];exact hv⟩
  ·refine(ok b u q).stay (λc v hc r=>k c v ?_ r) (λc r=>by rw [au (nown c b r)];exact r) λc xs r=>by rw [au (ntup c xs r)];exact r
   rcases hc with rfl | hc
   ·exact hbe
   ·rintro rfl
    rcases he with z | z
    ·exact nown c b hc z
    ·rw [hc] at z;cases z;exact hb rfl
end
structure Un(fs ex:List Addr)(H H':Hp)(h h':Heap):Prop where
 keep:∀b o,h.get? b=some o->H b=none->b ∉ fs->b ∉ ex->h'.get? b=some o
 slot:∀b o,h.get? b=some o->H b=none->b ∈ fs->b ∉ ex->∃sl,h'.get? b=some { o with slots:=sl }
 free:∀b o,h.get? b=some o->H b=none->b ∉ ex->H' b=none
 there:∀b o,h.get? b=some o->b ∉ ex->∃o',h'.get? b=some o'
 tups:∀b xs,H b=some (.tup xs)->H' b=some (.tup xs)
 frzs:∀b o u,H b=some (.frz o u)->H' b=some (.frz o u)
 tbls:∀b ps,H b=some (.tbl ps)->∃more,H' b=some (.tbl (ps++more))
section
variable {fs fs' ex ex':List Addr} {H H1 H2:Hp} {h h1 h2 h':Heap} {a x e:Addr} {o:HO}
theorem Un.any(u:Un fs ex H H1 h h1){b:Addr}{ob:Obj}(q:h.get? b=some ob)(n:H b=none)(hx:b ∉ ex):∃sl,h1.get? b=some { ob with slots:=sl }:=by
 by_cases hb:b ∈ fs
 ·exact u.slot b ob q n hb hx
 ·exact⟨ob.slots,u.keep b ob q n hb hx⟩
theorem Un.trans(a:Un fs ex H H1 h h1)(b:Un fs ex H1 H2 h1 h2):Un fs ex H H2 h h2 where
 keep:=λc ob q n hc hx=>b.keep c ob (a.keep c ob q n hc hx) (a.free c ob q n hx) hc hx
 slot:=λc ob q n hc hx=>by
  obtain⟨sl,e1⟩:=a.slot c ob q n hc hx
  obtain⟨sl',e2⟩:=b.slot c _ e1 (a.free c ob q n hx) hc hx
  exact⟨sl',e2⟩
 free:=λc ob q n hx=>by
  obtain⟨o',e1⟩:=a.there c ob q hx
  exact b.free c o' e1 (a.free c ob q n hx) hx
 there:=λc ob q hx=>by
  obtain⟨o',e1⟩:=a.there c ob q hx
  exact b.there c o' e1 hx
 tups:=λc xs q=>b.tups c xs (a.tups c xs q)
 frzs:=λc ob xs q=>b.frzs c ob xs (a.frzs c ob xs q)
 tbls:=λc ps q=>by
  obtain⟨m1,e1⟩:=a.tbls c ps q
  obtain⟨m2,e2⟩:=b.tbls c _ e1
  exact⟨m1++m2,by rw [e2,Array.append_assoc]⟩
theorem Un.kept(k:∀b u,h.get? b=some u->h'.get? b=some u):Un fs ex H H h h' :=
 ⟨λb ob q _ _ _=>k b ob q,λb ob q _ _ _=>⟨ob.slots,k b ob q⟩,λ_ _ _ n _=>n,λb ob q _=>⟨ob,k b ob q⟩,λ_ _ q=>q,λ_ _ _ q=>q,λ_ ps q=>⟨#[],by rw [q];simp⟩⟩
theorem Un.refl:Un fs ex H H h h:=Un.kept λ_ _ q=>q
theorem Un.laid(k:∀b u,h.get? b=some u->h'.get? b=some u)(hp:h.objs.size<=a)(hn:H a=none):Un fs ex H (ai H a o) h h' where
 keep:=λb u q _ _ _=>k b u q
 slot:=λb u q _ _ _=>⟨u.slots,k b u q⟩
 free:=λb u q n _=>by rw [au (cG (dZ (bj q) hp))];exact n
 there:=λb u q _=>⟨u,k b u q⟩
 tups:=λb xs q=>by rw [au (bQ q hn)];exact q
 frzs:=λb u xs q=>by rw [au (bQ q hn)];exact q
 tbls:=λb ps q=>⟨#[],by rw [au (bQ q hn),q];simp⟩
theorem Un.write(mu:qj (H x))(he:e=x\/H e=some (.own x))(k:∀b u,b ≠ e->h.get? b=some u->h'.get? b=some u)(heo:∃u,h'.get? e=some u):Un fs ex H (ai H x o) h h':=by
 have hx:∀b,H b=none->b ≠ x:=λb n z=>by subst z;rw [n] at mu;exact mu
 have hb:∀b,H b=none->b ≠ e:=λb n z=>by
  subst z
  rcases he with r | r
  ·exact hx b n r
  ·rw [n] at r;cases r
 have hm:∀b u,H b=some u->¬ qj (some u)->b ≠ x:=λb u q nm z=>by subst z;rw [q] at mu;exact nm mu
 refine⟨λb u q n _ _=>k b u (hb b n) q,λb u q n _ _=>⟨u.slots,k b u (hb b n) q⟩,λb u q n _=>by rw [au (hx b n)];exact n,λb u q _=>?_,
  λb xs q=>by rw [au (hm b _ q λz=>z)];exact q,λb u xs q=>by rw [au (hm b _ q λz=>z)];exact q,λb ps q=>⟨#[],by rw [au (hm b _ q λz=>z),q];simp⟩⟩
 by_cases hbe:b=e
 ·subst hbe;exact heo
 ·exact⟨u,k b u hbe q⟩
theorem Un.mono(u:Un fs ex H H1 h h1)(hs:∀b ∈ fs,b ∈ fs')(hx:∀b ∈ ex,b ∈ ex'):Un fs' ex' H H1 h h1 :=
 ⟨λb ob q n hb he=>u.keep b ob q n (λz=>hb (hs b z)) λz=>he (hx b z),λ_ _ q n _ he=>u.any q n λz=>he (hx _ z),λb ob q n he=>u.free b ob q n λz=>he (hx b z),λb ob q he=>u.there b ob q λz=>he (hx b z),u.tups,u.frzs,u.tbls⟩
end
noncomputable def qT(h:Heap)(H:Hp):List Addr:=(List.range h.objs.size).filter λa=>(H a).isSome
noncomputable def jN(h:Heap)(H:Hp):Heap:=PySem.W.hideAll h (qT h H)
theorem Sd(h:Heap)(H:Hp):(jN h H).objs.size=h.objs.size:=PySem.W.hideAll_size _ _
theorem Se{h:Heap}{H:Hp}{b:Addr}{o:Obj}(e:h.get? b=some o)(n:H b=none):(jN h H).get? b=some o :=
 PySem.W.hideAll_get _ e λhm=>by
  have q:(H b).isSome=true:=(xH.mp hm).2
  rw [n] at q;simp at q
theorem Qs{h:Heap}{H:Hp}{b:Addr}{o:Obj}(e:(jN h H).get? b=some o):h.get? b=some o/\H b=none:=by
 have e':h.get? b=some o:=PySem.W.of_hideAll (qT h H) e
 refine⟨e',?_⟩
 cases q:H b with
 | none=>rfl
 | some x =>
   have hm:b ∈ qT h H:=xH.mpr ⟨jV.mpr (bj e'),by simp [q]⟩
   have z:(jN h H).get? b=none:=PySem.W.hideAll_none (qT h H) hm
   rw [z] at e;cases e
noncomputable def Uk(g h:Heap)(L:Addr):List (Addr × Obj):=(List.range h.objs.size).filterMap λa=>if a=L\/(g.get? a).isSome=true then none else (h.get? a).map λo=>(a,o)
noncomputable def rest(g h:Heap)(L d:Addr):List (Addr × Obj):=(Uk g h L).filter λp=>decide (p.1 ≠ d)
end L2
namespace L2
open PySem PySem.Spec PyProof.Rows
structure Mod(K:Frag)(mg:Str->Option Value)(base:Heap):Prop where
 kin:K.In base
 glob:base.Ns mainGlobals mg
 blt:∃mb,base.Ns builtinsNs mb/\∀x:Str,x ≠ "__name__" -> mb x=bootBuiltins x
 nolimit:base.NoLimit
structure Cx where
 prog:Program
 w:World
 K:Frag
 mg:Str->Option Value
 base:Heap
 A:Around
 N:List Str
 s₀:Shared
 H₀:Hp
 env:Env
 outer:List Env
 stack:List Env
 ex:List Addr
 fn:Str->Bool
 calm:Bool
 pn:List (Addr × Obj)
 xe:Value->Shared->Prop
noncomputable def gJ(l:List Env):List Addr:=l.filterMap (·.frame)
abbrev Cx.fs(X:Cx):List Addr:=gJ X.outer
noncomputable def qc(sc:Scope)(x:Str):Prop:=sc.names.lookup x=some .local\/sc.names.lookup x=some .cell\/sc.names.lookup x=some .free
noncomputable def mf(sc:Scope)(x:Str):Prop:=sc.names.lookup x=some .local\/sc.names.lookup x=some .cell
noncomputable def Ur(env:Env)(h:Heap)(m:Str->Option Value)(x:Str)(u:Value):Prop :=
 (env.kindOf x=some .local/\m x=some u)\/((env.kindOf x=some .cell\/env.kindOf x=some .free)/\∃c,env.cells.lookup x=some c/\h.IsCell c (some u))
structure Cx.Ok(X:Cx):Prop where
 mod:Mod X.K X.mg X.base
 kind:X.env.scope.kind=.function
 glob:X.env.globals=mainGlobals
 blt:X.env.builtins=builtinsNs
 above:X.s₀.heap.objs.size<=X.env.locals
 inj:∀x y c,X.env.cells.lookup x=some c->X.env.cells.lookup y=some c->x=y
 has:∀x,(X.env.kindOf x=some .cell\/X.env.kindOf x=some .free)->∃c,X.env.cells.lookup x=some c
 cab:∀x c,X.fn x=true->X.env.cells.lookup x=some c->X.s₀.heap.objs.size<=c
 hd:X.calm=true->X.A.handled=none
 frames:X.A.frames=some X.stack
 stk:X.stack=X.outer\/(X.stack=X.env::X.outer/\X.env.frame=some X.env.locals)
 exf:∀b ∈ X.ex,b ≠ X.env.locals/\∀x c,X.env.cells.lookup x=some c->c ≠ b
 bs:∀b o,X.base.get? b=some o->X.s₀.heap.get? b=some o/\X.H₀ b=none
 bsz:X.base.objs.size<=X.s₀.heap.objs.size
 noex:∀b o,X.base.get? b=some o->b ∉ X.ex
 exfs:∀b ∈ X.ex,b ∉ X.fs
 funs:X.s₀.heap.FunFrames X.base X.outer
 frf:∀b ∈ X.fs,X.H₀ b=none
structure ae(X:Cx)(pins:List (Addr × Obj))(σ:List (Option V))(H:Hp)(s:Shared):Prop where
 ok:X.Ok
 os:s.os=X.s₀.os
 bare:AllBare s.gens
 base:Un X.fs X.ex X.H₀ H X.s₀.heap s.heap
 loc:∃m,s.heap.Ns X.env.locals m/\∀(i:Nat) (x:Str) (v:V),X.N[i]?=some x->σ[i]?=some (some v)->qc X.env.scope x->∃u,aL v u/\Ur X.env s.heap m x u
 cell:∀x c,X.env.cells.lookup x=some c->∃v,s.heap.IsCell c v
 free:H X.env.locals=none
 freeC:∀x c,X.env.cells.lookup x=some c->H c=none
 pin:∀p ∈ X.pn++pins,s.heap.get? p.1=some p.2/\H p.1=none/\p.1 ≠ X.env.locals/\p.1 ∉ X.fs/\∀v,p.2.data ≠ .cell v
 hok:bZ X.prog X.w H s.heap
 len:σ.length=X.N.length
section
variable {X:Cx} {pins:List (Addr × Obj)} {σ:List (Option V)} {H H':Hp} {s:Shared} {h':Heap}
theorem Cx.Ok.nofr(ok:X.Ok){b:Addr}{o:Obj}(e:X.base.get? b=some o):b ∉ X.fs:=λhb=>by
 have:=(ok.funs.mem hb).1
 rw [e] at this;cases this
theorem ae.bs(I:ae X pins σ H s):∀b o,X.base.get? b=some o->s.heap.get? b=some o/\H b=none:=λb o e =>
 ⟨I.base.keep b o (I.ok.bs b o e).1 (I.ok.bs b o e).2 (I.ok.nofr e) (I.ok.noex b o e),I.base.free b o (I.ok.bs b o e).1 (I.ok.bs b o e).2 (I.ok.noex b o e)⟩
theorem ae.bk(I:ae X pins σ H s):∀b o,X.base.get? b=some o->s.heap.get? b=some o:=λb o e=>(I.bs b o e).1
theorem ae.mod(I:ae X pins σ H s):Mod X.K X.mg X.base:=I.ok.mod
theorem ae.kIn(I:ae X pins σ H s):X.K.In s.heap:=I.ok.mod.kin.keeps I.bk
theorem ae.nolimit(I:ae X pins σ H s):s.heap.NoLimit:=I.ok.mod.nolimit.keeps I.bk
theorem ae.fr(I:ae X pins σ H s):∃m,Fr X.base X.env.locals s.heap m :=
 let ⟨m,hn,_⟩:=I.loc
 ⟨m,hn,I.bk,c7 I.ok.bsz I.ok.above⟩
theorem ae.lt(I:ae X pins σ H s):X.env.locals<s.heap.objs.size:=let ⟨_,hn,_⟩:=I.loc;hn.lt
theorem ae.sz(I:ae X pins σ H s):X.s₀.heap.objs.size<=s.heap.objs.size:=c7 I.ok.above (nQ I.lt)
theorem ae.nofs(I:ae X pins σ H s){a:Addr}(h:s.heap.objs.size<=a):a ∉ X.fs:=λhb=>by
 obtain⟨_,o,ho,_⟩:=I.ok.funs.mem hb
 exact absurd (dZ (bj ho) (c7 I.sz h)) (i4 _)
theorem ae.cne(I:ae X pins σ H s):∀x c,X.env.cells.lookup x=some c->c ≠ X.env.locals:=λx c e z=>by
 obtain⟨v,o,ho,hd⟩:=I.cell x c e
 obtain⟨m,⟨o',es,ep,ho',hd',_⟩,_⟩:=I.loc
 rw [z,ho'] at ho;cases ho;rw [hd'] at hd;cases hd
theorem ae.funs(I:ae X pins σ H s):s.heap.FunFrames X.base X.outer:=by
 have all:∀(l:List Env),(∀b ∈ gJ l,b ∈ X.fs)->X.s₀.heap.FunFrames X.base l->s.heap.FunFrames X.base l:=by
  intro l
  induction l with
  | nil=>intro _ _;trivial
  | cons env r ih =>
    intro hs hl
    obtain⟨hk,⟨L,o,hf,hn,ho,hd⟩,hr⟩:=hl
    have hL:L ∈ X.fs:=hs L (by unfold gJ;rw [List.filterMap_cons,hf];exact bO)
    obtain⟨sl,e⟩:=I.base.slot L o ho (I.ok.frf L hL) hL λz=>I.ok.exfs L z hL
    exact⟨hk,⟨L,_,hf,hn,e,hd⟩,ih (λb hb=>hs b (by unfold gJ;rw [List.filterMap_cons,hf];exact df _ hb)) hr⟩
 exact all X.outer (λ_ hb=>hb) I.ok.funs
theorem ae.stack(I:ae X pins σ H s):s.heap.FunFrames X.base X.stack:=by
 rcases I.ok.stk with e | ⟨e,hf⟩
 ·rw [e];exact I.funs
 ·rw [e]
  obtain⟨m,hn,_⟩:=I.loc
  refine .cons (by rw [I.ok.kind];decide) hf hn ?_ I.funs
  exact Heap.get?_none_of_le (c7 I.ok.bsz I.ok.above)
theorem ae.stkSub(I:ae X pins σ H s):∀b ∈ gJ X.stack,b ∈ X.env.locals::X.fs:=λb hb=>by
 rcases I.ok.stk with e | ⟨e,hf⟩
 ·rw [e] at hb;exact df _ hb
 ·rw [e] at hb
  unfold gJ at hb
  rw [List.filterMap_cons,hf] at hb
  exact hb
theorem ae.stkFree(I:ae X pins σ H s):∀b ∈ gJ X.stack,H b=none:=λb hb=>by
 rcases bE.mp (I.stkSub b hb) with e | hb
 ·rw [e];exact I.free
 ·obtain⟨_,o,ho,_⟩:=I.ok.funs.mem hb
  exact I.base.free b o ho (I.ok.frf b hb) λz=>I.ok.exfs b z hb
theorem ae.step{g':Array GenState}{t':Nat}{d':Drawn}{ch:List Addr}(I:ae X pins σ H s)
 (hch:∀b ∈ ch,(b ∈ X.ex\/X.s₀.heap.objs.size<=b)/\b ≠ X.env.locals/\(∀x c,X.env.cells.lookup x=some c->c ≠ b)/\∀p ∈ X.pn++pins,p.1 ≠ b)
 (keep:∀b o,b ≠ X.env.locals->b ∉ X.fs->b ∉ ch->s.heap.get? b=some o->H b=none->h'.get? b=some o)
 (slot:∀b o,b ≠ X.env.locals->b ∈ X.fs->b ∉ ch->s.heap.get? b=some o->H b=none->∃sl,h'.get? b=some { o with slots:=sl }) (free:∀b o,b ∉ ch->s.heap.get? b=some o->H b=none->H' b=none)
 (there:∀b o,b ∉ ch->s.heap.get? b=some o->∃o',h'.get? b=some o')
 (tups:∀b xs,H b=some (.tup xs)->H' b=some (.tup xs)) (frzs:∀b o u,H b=some (.frz o u)->H' b=some (.frz o u)) (tbls:∀b ps,H b=some (.tbl ps)->∃more,H' b=some (.tbl (ps++more)))
 (ns:∀m,s.heap.Ns X.env.locals m->h'.Ns X.env.locals m) (hok:bZ X.prog X.w H' h') (hg:AllBare g'):
 ae X pins σ H' { s with heap:=h',gens:=g',drawn:=d',toks:=t' }:=by
 have neL:∀b o,X.s₀.heap.get? b=some o->b ≠ X.env.locals:=λb o e=>cG (dZ (bj e) I.ok.above)
 have neC:∀b o,X.s₀.heap.get? b=some o->b ∉ X.ex->b ∉ ch:=λb o e hx hb=>by
  rcases (hch b hb).1 with z | z
  ·exact hx z
  ·exact absurd (dZ (bj e) z) (i4 _)
 have cellK:∀x c,X.env.cells.lookup x=some c->∀v,s.heap.IsCell c v->h'.IsCell c v:=λx c e v ⟨o,ho,hd⟩=>by
  have nch:c ∉ ch:=λz=>(hch c z).2.2.1 x c e rfl
  by_cases hc:c ∈ X.fs
  ·obtain⟨sl,q⟩:=slot c o (I.cne x c e) hc nch ho (I.freeC x c e)
   exact⟨_,q,hd⟩
  ·exact⟨o,keep c o (I.cne x c e) hc nch ho (I.freeC x c e),hd⟩
 refine⟨I.ok,I.os,hg,⟨λb o e n hb hx=>?_,λb o e n hb hx=>?_,λb o e n hx=>?_,λb o e hx=>?_,λb xs e=>tups b xs (I.base.tups b xs e),λb o xs e=>frzs b o xs (I.base.frzs b o xs e),λb ps e=>?_⟩,?_,λx c e=>?_,?_,λx c e=>?_,λp hp=>?_,hok,I.len⟩
 ·exact keep b o (neL b o e) hb (neC b o e hx) (I.base.keep b o e n hb hx) (I.base.free b o e n hx)
 ·obtain⟨sl,e1⟩:=I.base.slot b o e n hb hx
  obtain⟨sl',e2⟩:=slot b _ (neL b o e) hb (neC b o e hx) e1 (I.base.free b o e n hx)
  exact⟨sl',e2⟩
 ·obtain⟨o',e1⟩:=I.base.there b o e hx
  exact free b o' (neC b o e hx) e1 (I.base.free b o e n hx)
 ·obtain⟨o',e1⟩:=I.base.there b o e hx
  exact there b o' (neC b o e hx) e1
 ·obtain⟨m1,e1⟩:=I.base.tbls b ps e
  obtain⟨m2,e2⟩:=tbls b _ e1
  exact⟨m1++m2,by rw [e2,Array.append_assoc]⟩
 ·obtain⟨m,hn,hl⟩:=I.loc
  refine⟨m,ns m hn,λi x v e1 e2 e3=>?_⟩
  obtain⟨u,r,l⟩:=hl i x v e1 e2 e3
  refine⟨u,r,?_⟩
  rcases l with l | ⟨k,c,e,z⟩
  ·exact .inl l
  ·exact .inr ⟨k,c,e,cellK x c e _ z⟩
 ·obtain⟨v,z⟩:=I.cell x c e
  exact⟨v,cellK x c e v z⟩
 ·obtain⟨m,⟨o,_,_,ho,_⟩,_⟩:=I.loc
  exact free _ o (λz=>(hch _ z).2.1 rfl) ho I.free
 ·obtain⟨v,o,ho,hd⟩:=I.cell x c e
  exact free c o (λz=>(hch c z).2.2.1 x c e rfl) ho (I.freeC x c e)
 ·obtain⟨e,n,ne,nf,d⟩:=I.pin p hp
  have nch:p.1 ∉ ch:=λz=>(hch p.1 z).2.2.2 p hp rfl
  exact⟨keep p.1 p.2 ne nf nch e n,free p.1 p.2 nch e n,ne,nf,d⟩
theorem ae.un{t':Nat}(I:ae X pins σ H s)(u:Un X.fs [] H H' s.heap h')(hok:bZ X.prog X.w H' h'):ae X pins σ H' { s with heap:=h',toks:=t' }:=by
 obtain⟨m,⟨o,es,ep,ho,r⟩,_⟩:=id I.loc
 obtain⟨sl,hL⟩:=u.any ho I.free (by simp)
 exact I.step (g':=s.gens) (d':=s.drawn) (ch:=[]) (λ_ z=>nomatch z) (λb o _ hb _ e n=>u.keep b o e n hb (by simp)) (λb o _ hb _ e n=>u.slot b o e n hb (by simp)) (λb o _ e n=>u.free b o e n (by simp)) (λb o _ e=>u.there b o e (by simp)) u.tups u.frzs u.tbls (λm' hm=>by
  obtain⟨o',es',ep',ho',r'⟩:=hm
  rw [ho] at ho';cases ho'
  exact⟨_,es',ep',hL,r'⟩) hok I.bare
theorem ae.call{g':Array GenState}{t':Nat}{d':Drawn}{ch:List Addr}(I:ae X pins σ H s)(u:Un (gJ X.stack) ch H H' s.heap h')(hok:bZ X.prog X.w H' h')(hg:AllBare g')
 (hch:∀b ∈ ch,(b ∈ X.ex\/X.s₀.heap.objs.size<=b)/\b ≠ X.env.locals/\(∀x c,X.env.cells.lookup x=some c->c ≠ b)/\∀p ∈ X.pn++pins,p.1 ≠ b):
 ae X pins σ H' { s with heap:=h',gens:=g',drawn:=d',toks:=t' }:=by
 obtain⟨m,⟨o,es,ep,ho,r⟩,_⟩:=id I.loc
 obtain⟨sl,hL⟩:=u.any ho I.free λz=>(hch _ z).2.1 rfl
 exact I.step (ch:=ch) hch (λb o hL hb hc e n=>u.keep b o e n (λz=>(bE.mp (I.stkSub b z)).elim hL hb) hc) (λb o _ _ hc e n=>u.any e n hc) (λb o hc e n=>u.free b o e n hc) (λb o hc e=>u.there b o e hc) u.tups u.frzs u.tbls (λm' hm=>by
  obtain⟨o',es',ep',ho',r'⟩:=hm
  rw [ho] at ho';cases ho'
  exact⟨_,es',ep',hL,r'⟩) hok hg
theorem ae.turned{t':Nat}{it:Addr}(I:ae X pins σ H s)(k:∀b o,b ≠ it->s.heap.get? b=some o->h'.get? b=some o)(hn:H it=none)(hL:it ≠ X.env.locals)
 (h1:it ∈ X.ex\/X.s₀.heap.objs.size<=it) (h2:∀x c,X.env.cells.lookup x=some c->c ≠ it) (h3:∀p ∈ X.pn++pins,p.1 ≠ it):ae X pins σ H { s with heap:=h',toks:=t' }:=by
 have nit:∀b u,H b=some u->b ≠ it:=λb u e z=>by rw [z,hn] at e;cases e
 refine I.step (g':=s.gens) (d':=s.drawn) (ch:=[it]) (λb hb=>?_) (λb o _ _ hc e _=>k b o (λz=>hc (by simp [z])) e) (λb o _ _ hc e _=>⟨o.slots,k b o (λz=>hc (by simp [z])) e⟩) (λ_ _ _ _ n=>n)
  (λb o hc e=>⟨o,k b o (λz=>hc (by simp [z])) e⟩) (λ_ _ e=>e) (λ_ _ _ e=>e) (λb ps e=>⟨#[],by rw [e];simp⟩) (λm hm=>?_) (λb u e=>?_) I.bare
 ·have e:b=it:=by simpa using hb
  subst e
  exact⟨h1,hL,h2,h3⟩
 ·obtain⟨o,es,ep,ho,r⟩:=hm
  exact⟨o,es,ep,k _ o (dG hL) ho,r⟩
 ·refine(I.hok b u e).stay (λc v hc q=>k c v ?_ q) (λ_ q=>q) λ_ _ q=>q
  rcases hc with z | z
  ·rw [z];exact nit b u e
  ·exact nit c _ z
theorem ae.tok(I:ae X pins σ H s)(t:Nat):ae X pins σ H { s with toks:=t }:=I.un (h':=s.heap) (t':=t) Un.refl I.hok
theorem ae.kept{t':Nat}(I:ae X pins σ H s)(k:∀b u,s.heap.get? b=some u->h'.get? b=some u):ae X pins σ H { s with heap:=h',toks:=t' }:=I.un (Un.kept k) (I.hok.kept k)
theorem ae.laid{a:Addr}{o:HO}{t':Nat}(I:ae X pins σ H s)(k:∀b u,s.heap.get? b=some u->h'.get? b=some u)(hp:s.heap.objs.size<=a)(new:cc X.prog X.w (ai H a o) h' a o):
 ae X pins σ (ai H a o) { s with heap:=h',toks:=t' }:=I.un (Un.laid k hp (I.hok.fresh hp)) (I.hok.laid k hp new)
theorem ae.write{x e:Addr}{o:HO}{t':Nat}(I:ae X pins σ H s)(mu:qj (H x))(he:e=x\/H e=some (.own x))(k:∀b u,b ≠ e->s.heap.get? b=some u->h'.get? b=some u)(heo:∃u,h'.get? e=some u)
 (new:cc X.prog X.w (ai H x o) h' x o):ae X pins σ (ai H x o) { s with heap:=h',toks:=t' }:=I.un (Un.write mu he k heo) (I.hok.write mu he k heo new)
theorem ae.pins_of{pins':List (Addr × Obj)}(I:ae X pins σ H s)(h:∀p ∈ pins',s.heap.get? p.1=some p.2/\H p.1=none/\p.1 ≠ X.env.locals/\p.1 ∉ X.fs/\∀v,p.2.data ≠ .cell v):ae X pins' σ H s :=
 ⟨I.ok,I.os,I.bare,I.base,I.loc,I.cell,I.free,I.freeC,λp hp=>(cD.mp hp).elim (λz=>I.pin p (i8 _ z)) (h p),I.hok,I.len⟩
theorem Ic{N:List Str}(hN:N.Nodup){i j:Nat}{x:Str}(a:N[i]?=some x)(b:N[j]?=some x):i=j:=by
 obtain⟨h1,e1⟩:=bh.mp a
 obtain⟨h2,e2⟩:=bh.mp b
 exact(List.getElem_inj hN).mp (e1.trans e2.symm)
theorem Ea{M:Model}{A:Around}{E:Value->Shared->Prop}{i:Nat}{x:Str}{v:V}{u:Value}{Q:Unit->Shared->Prop}(I:ae X pins σ H s)(hN:X.N.Nodup)(hi:X.N[i]?=some x)(hx:mf X.env.scope x)(r:aL v u)
 (h:∀s',ae X pins (σ.set i (some v)) H s'->(∃a,Heap.SameBut a s.heap s'.heap/\(a=X.env.locals\/X.env.cells.lookup x=some a))->Q () s') (hf:X.fn x=true\/X.env.scope.names.lookup x=some .local:=by first | exact .inl rfl | exact .inr rfl | assumption):wpAny M A (storeName X.env x u) Q E s:=by
 obtain⟨m,hn,hl⟩:=id I.loc
 have hcls:(X.env.scope.kind == .class || (X.env.scope.kind == .module && X.env.locals != X.env.globals))=false:=by rw [I.ok.kind];rfl
 have hiσ:i<σ.length:=by rw [I.len];exact(bh.mp hi).1
 have cne:=I.cne
 have tracked:∀{a:Addr} {h':Heap},(∃o,s.heap.get? a=some o/\H a=none)->Heap.SameBut a s.heap h'->bZ X.prog X.w H h':=λ {a h'} ha hs b ob e=>by
  obtain⟨_,_,hfree⟩:=ha
  refine(I.hok b ob e).stay (λc w' hc q=>(hs.2 c ?_).trans q) (λ_ q=>q) λ_ _ q=>q
  rintro rfl
  rcases hc with rfl | hc
  ·rw [hfree] at e;cases e
  ·rw [hfree] at hc;cases hc
 rcases hx with hk | hk
 ·refine wpAny_storeName_local hk hn (λh' hn' hs=>?_) hcls
  obtain⟨oL,_,_,hoL,_⟩:=id hn
  refine h _ ⟨I.ok,I.os,I.bare,⟨λb o e n hb hx=>?_,λb o e n hb hx=>?_,I.base.free,λb o e hx=>?_,I.base.tups,I.base.frzs,I.base.tbls⟩,⟨_,hn',λj y v' e1 e2 e3=>?_⟩,λy c e=>?_,I.free,I.freeC,λp hp=>?_,tracked ⟨oL,hoL,I.free⟩ hs,by simpa using I.len⟩ ⟨_,hs,.inl rfl⟩
  ·exact(hs.2 b (cG (dZ (bj e) I.ok.above))).trans (I.base.keep b o e n hb hx)
  ·obtain⟨sl,e1⟩:=I.base.slot b o e n hb hx
   exact⟨sl,(hs.2 b (cG (dZ (bj e) I.ok.above))).trans e1⟩
  ·obtain⟨o',e1⟩:=I.base.there b o e hx
   exact⟨o',(hs.2 b (cG (dZ (bj e) I.ok.above))).trans e1⟩
  ·by_cases hj:j=i
   ·subst hj
    rw [hi] at e1;cases e1
    rw [List.getElem?_set_self hiσ] at e2
    cases e2
    exact⟨u,r,.inl ⟨hk,by simp⟩⟩
   ·rw [List.getElem?_set_ne (dG hj)] at e2
    obtain⟨u',r',q⟩:=hl j y v' e1 e2 e3
    refine⟨u',r',?_⟩
    rcases q with⟨k,e⟩ | ⟨k,c,e,z⟩
    ·refine .inl ⟨k,?_⟩
     have:y ≠ x:=λe=>hj (Ic hN e1 (e ▸ hi))
     simp [this,e]
    ·exact .inr ⟨k,c,e,z.sameBut hs (cne y c e)⟩
  ·obtain⟨w',z⟩:=I.cell y c e
   exact⟨w',z.sameBut hs (cne y c e)⟩
  ·obtain⟨e,n,ne,nf,d⟩:=I.pin p hp
   exact⟨(hs.2 p.1 ne).trans e,n,ne,nf,d⟩
 ·have hfn:X.fn x=true:=by
   rcases hf with z | z
   ·exact z
   ·rw [z] at hk;cases hk
  obtain⟨c,hc⟩:=I.ok.has x (.inl hk)
  obtain⟨w',z⟩:=I.cell x c hc
  refine wpAny_storeName_cell I.ok.kind hk hc z (λh' hc' hs=>?_)
  obtain⟨oc,hoc,hocd⟩:=id z
  refine h { s with heap:=h' } ⟨I.ok,I.os,I.bare,⟨λb o e n hb hx=>?_,λb o e n hb hx=>?_,I.base.free,λb o e hx=>?_,I.base.tups,I.base.frzs,I.base.tbls⟩,⟨m,hn.sameBut hs (dG (cne x c hc)),λj y v' e1 e2 e3=>?_⟩,λy c' e=>?_,I.free,I.freeC,λp hp=>?_,tracked ⟨oc,hoc,I.freeC x c hc⟩ hs,by simpa using I.len⟩ ⟨c,hs,.inr hc⟩
  ·exact(hs.2 b (cG (dZ (bj e) (I.ok.cab x c hfn hc)))).trans (I.base.keep b o e n hb hx)
  ·obtain⟨sl,e1⟩:=I.base.slot b o e n hb hx
   exact⟨sl,(hs.2 b (cG (dZ (bj e) (I.ok.cab x c hfn hc)))).trans e1⟩
  ·obtain⟨o',e1⟩:=I.base.there b o e hx
   exact⟨o',(hs.2 b (cG (dZ (bj e) (I.ok.cab x c hfn hc)))).trans e1⟩
  ·by_cases hj:j=i
   ·subst hj
    rw [hi] at e1;cases e1
    rw [List.getElem?_set_self hiσ] at e2
    cases e2
    exact⟨u,r,.inr ⟨.inl hk,c,hc,hc'⟩⟩
   ·rw [List.getElem?_set_ne (dG hj)] at e2
    obtain⟨u',r',q⟩:=hl j y v' e1 e2 e3
    refine⟨u',r',?_⟩
    rcases q with q | ⟨k,c',e,z'⟩
    ·exact .inl q
    ·refine .inr ⟨k,c',e,z'.sameBut hs ?_⟩
     rintro rfl
     exact hj (Ic hN e1 (I.ok.inj _ _ _ e hc ▸ hi))
  ·by_cases hcc:c'=c
   ·subst hcc;exact⟨_,hc'⟩
   ·obtain⟨w2,z2⟩:=I.cell y c' e
    exact⟨w2,z2.sameBut hs hcc⟩
  ·obtain⟨e,n,ne,nf,d⟩:=I.pin p hp
   refine⟨(hs.2 p.1 ?_).trans e,n,ne,nf,d⟩
   intro q
   rw [q,hoc] at e
   have q':oc=p.2:=dS e
   exact d w' (by rw [← q'];exact hocd)
theorem oC{M:Model}{A:Around}{E:Value->Shared->Prop}{i:Nat}{x:Str}{v:V}{u:Value}{Q:Unit->Shared->Prop}(I:ae X pins σ H s)(hN:X.N.Nodup)(hi:X.N[i]?=some x)(hx:mf X.env.scope x)(r:aL v u)
 (h:∀s',ae X pins (σ.set i (some v)) H s'->Q () s') (hf:X.fn x=true\/X.env.scope.names.lookup x=some .local:=by first | exact .inl rfl | exact .inr rfl | assumption):wpAny M A (storeName X.env x u) Q E s :=
 Ea I hN hi hx r (λs' I' _=>h s' I') hf
theorem ae.call'{s':Shared}{ch:List Addr}(I:ae X pins σ H s)(ho:s'.os=s.os)(u:Un (gJ X.stack) ch H H' s.heap s'.heap)(hok:bZ X.prog X.w H' s'.heap)(hg:AllBare s'.gens)
 (hch:∀b ∈ ch,(b ∈ X.ex\/X.s₀.heap.objs.size<=b)/\b ≠ X.env.locals/\(∀x c,X.env.cells.lookup x=some c->c ≠ b)/\∀p ∈ X.pn++pins,p.1 ≠ b):ae X pins σ H' s':=by
 obtain⟨h',g',d',t',o'⟩:=s'
 have e:o'=s.os:=ho
 subst e
 exact I.call (g':=g') (t':=t') (d':=d') u hok hg hch
end
abbrev XK:=Value->Option Addr->Hp->Prop
abbrev St:=List (Option V)
abbrev VK:=V->Hp->Prop
abbrev TE:=St->Hp->VK->Prop
abbrev TT:=St->Hp->(Bool->Hp->Prop)->Prop
abbrev TA:=St->Hp->(List V->Hp->Prop)->Prop
structure ie where
 nx:St->Hp->Prop
 rt:VK
 bk:St->Hp->Prop:=λ_ _=>False
 ct:St->Hp->Prop:=λ_ _=>False
abbrev TS:=ie->St->Hp->Prop
noncomputable def EP(X:Cx)(pins:List (Addr × Obj))(σ:St)(Q:VK)(u:Value)(s':Shared):Prop:=∃v H',ae X pins σ H' s'/\aL v u/\Q v H'
noncomputable def TP(X:Cx)(pins:List (Addr × Obj))(σ:St)(Q:Bool->Hp->Prop)(b:Bool)(s':Shared):Prop:=∃H',ae X pins σ H' s'/\Q b H'
noncomputable def AP(X:Cx)(pins:List (Addr × Obj))(σ:St)(Q:List V->Hp->Prop)(us:List Value)(s':Shared):Prop:=∃vs H',ae X pins σ H' s'/\aB vs us/\Q vs H'
noncomputable def SP(X:Cx)(pins:List (Addr × Obj))(D:ie)(f:Flow)(s':Shared):Prop :=
 match f with
 | .next=>∃σ' H',ae X pins σ' H' s'/\D.nx σ' H'
 | .brk=>∃σ' H',ae X pins σ' H' s'/\D.bk σ' H'
 | .cont=>∃σ' H',ae X pins σ' H' s'/\D.ct σ' H'
 | .ret u=>∃v σ' H',ae X pins σ' H' s'/\aL v u/\D.rt v H'
noncomputable def PE(X:Cx)(e:Expr)(t:TE):Prop :=
 ∀(pins:List (Addr × Obj)) (s:Shared) (σ:St) (H:Hp) (Q:VK),ae X pins σ H s->t σ H Q->wpAny (model X.prog X.w) X.A (eval e X.env) (EP X pins σ Q) X.xe s
noncomputable def PT(X:Cx)(e:Expr)(t:TT):Prop :=
 ∀(pins:List (Addr × Obj)) (s:Shared) (σ:St) (H:Hp) (Q:Bool->Hp->Prop),ae X pins σ H s->t σ H Q->wpAny (model X.prog X.w) X.A (isTrue e X.env (eval e X.env)) (TP X pins σ Q) X.xe s
noncomputable def PW(X:Cx)(e:Expr)(t:TT):Prop :=
 ∀(whole:Sem Value) (pins:List (Addr × Obj)) (s:Shared) (σ:St) (H:Hp) (Q:Bool->Hp->Prop),ae X pins σ H s->t σ H Q->wpAny (model X.prog X.w) X.A (isTrue e X.env whole) (TP X pins σ Q) X.xe s
theorem PW.pt{X:Cx}{e:Expr}{t:TT}(h:PW X e t):PT X e t:=h _
noncomputable def PA(X:Cx)(es:List Expr)(t:TA):Prop :=
 ∀(pos:Pos) (pins:List (Addr × Obj)) (s:Shared) (σ:St) (H:Hp) (Q:List V->Hp->Prop),ae X pins σ H s->t σ H Q->wpAny (model X.prog X.w) X.A (spliced (backTo pos (starEach es X.env))) (AP X pins σ Q) X.xe s
noncomputable def PS(X:Cx)(st:Stmt)(t:TS):Prop :=
 ∀(pins:List (Addr × Obj)) (s:Shared) (σ:St) (H:Hp) (D:ie),ae X pins σ H s->t D σ H->wpAny (model X.prog X.w) X.A (exec st X.env) (SP X pins D) X.xe s
noncomputable def eJ(X:Cx)(st:List Stmt)(t:TS):Prop :=
 ∀(pins:List (Addr × Obj)) (s:Shared) (σ:St) (H:Hp) (D:ie),ae X pins σ H s->t D σ H->wpAny (model X.prog X.w) X.A (execs st X.env) (SP X pins D) X.xe s
theorem av{α:Type}{t:Sem α}{Q Q':α->Shared->Prop}{M:Model}{A:Around}{E:Value->Shared->Prop}{s:Shared}(h:wpAny M A t Q E s)(hQ:∀a s,Q a s->Q' a s):wpAny M A t Q' E s:=wpAny_mono h hQ λ_ _ x=>x
end L2
namespace L2
open PySem PySem.Spec PyProof.Rows
section
variable {X:Cx}
inductive gW(i:Nat)(σ:St)(H:Hp)(Q:VK):Prop where
 | mk (v:V) (_:σ[i]?=some (some v)) (_:Q v H):gW i σ H Q
noncomputable def tC(v:V):TE:=λ_ H Q=>Q v H
theorem Ou{i:Nat}{x:Str}{pos:Pos}(hN:X.N[i]?=some x)(hv:qc X.env.scope x)(hd:(x == ("__debug__" : Str))=false:=by decide)(hcd:(x == ("__classdict__" : Str))=false:=by decide):PE X (.Name x pos) (gW i):=by
 intro pins s σ H Q I h
 obtain⟨v,e,h⟩:=h
 obtain⟨m,hn,hl⟩:=I.loc
 obtain⟨u,r,l⟩:=hl i x v hN e hv
 have fin:EP X pins σ Q u s:=⟨v,H,I,r,h⟩
 rcases l with⟨hk,hm⟩ | ⟨hk,c,hc,hcell⟩
 ·exact wpAny_Name (wpAny_loadName_local I.ok.kind hk hn hm fin) hd
 ·rcases hk with hk | hk
  ·exact wpAny_Name (wpAny_loadName_cell I.ok.kind hk hc hcell fin) hd
  ·exact wpAny_Name (wpAny_loadName_free I.ok.kind hk hc hcell fin hcd) hd
theorem aw{i j pos}:PE X (.Constant (.int i) j pos) (tC (.int i)):=λ_ _ _ H _ I h=>wpAny_Constant_int ⟨.int i,H,I.tok _,⟨_,rfl⟩,h⟩
theorem eA{b j pos}:PE X (.Constant (.bool b) j pos) (tC (.bl b)):=λ_ _ _ H _ I h=>Constant_bool ⟨.bl b,H,I,rfl,h⟩
theorem rM{j pos}:PE X (.Constant .none j pos) (tC .non):=λ_ _ _ H _ I h=>Constant_none ⟨.non,H,I,rfl,h⟩
theorem aO{x j pos}:PE X (.Constant (.str x) j pos) (tC (.str x)):=λ_ _ _ H _ I h=>Calls.Constant_str ⟨.str x,H,I.tok _,⟨_,rfl⟩,h⟩
noncomputable def Gl(X:Cx)(x:Str):Prop:=X.env.kindOf x=some .globalImplicit
theorem sk{E:Value->Shared->Prop}{pins:List (Addr × Obj)}{s:Shared}{σ:St}{H:Hp}{x:Str}{u:Value}{pos:Pos}{Q:Value->Shared->Prop}(I:ae X pins σ H s)(hg:Gl X x)(hm:X.mg x=some u)(h:Q u s)
 (hd:(x == ("__debug__" : Str))=false:=by decide):wpAny (model X.prog X.w) X.A (eval (.Name x pos) X.env) Q E s :=
 Calls.Name_function_global I.ok.kind hg (Calls.loadGlobal_global (by rw [I.ok.glob];exact I.mod.glob.keeps I.bk) hm h) hd
theorem iR{E:Value->Shared->Prop}{pins:List (Addr × Obj)}{s:Shared}{σ:St}{H:Hp}{x:Str}{u:Value}{pos:Pos}{Q:Value->Shared->Prop}(I:ae X pins σ H s)(hg:Gl X x)(hm:X.mg x=none)(hv:bootBuiltins x=some u)(h:Q u s)
 (hn:x ≠ "__name__":=by decide) (hd:(x == ("__debug__" : Str))=false:=by decide):wpAny (model X.prog X.w) X.A (eval (.Name x pos) X.env) Q E s:=by
 obtain⟨mb,h1,h2⟩:=I.mod.blt
 exact Calls.Name_function_global I.ok.kind hg (Calls.loadGlobal_builtin (by rw [I.ok.glob];exact I.mod.glob.keeps I.bk) hm (by rw [I.ok.blt];exact h1.keeps I.bk) ((h2 x hn).trans hv) h) hd
theorem ja{x:Str}{v:V}{u:Value}{pos:Pos}(hg:Gl X x)(hm:X.mg x=some u)(r:aL v u)(hd:(x == ("__debug__" : Str))=false:=by decide):PE X (.Name x pos) (tC v) :=
 λ_ _ _ H _ I h=>sk I hg hm ⟨v,H,I,r,h⟩ hd
theorem jE{x:Str}{v:V}{u:Value}{pos:Pos}(hg:Gl X x)(hm:X.mg x=none)(hv:bootBuiltins x=some u)(r:aL v u)(hn:x ≠ "__name__":=by decide)(hd:(x == ("__debug__" : Str))=false:=by decide):PE X (.Name x pos) (tC v) :=
 λ_ _ _ H _ I h=>iR I hg hm hv ⟨v,H,I,r,h⟩ hn hd
variable {a b:Expr} {ta tb:TE} {pos:Pos}
noncomputable def PC(X:Cx)(op:CmpOp)(a b:Expr)(t:TE):Prop :=
 ∀(pins:List (Addr × Obj)) (s:Shared) (σ:St) (H:Hp) (Q:VK),ae X pins σ H s->t σ H Q->
   wpAny (model X.prog X.w) X.A (eval a X.env) (λv s₁=>wpAny (model X.prog X.w) X.A (eval b X.env) (λu s₂=>wpAny (model X.prog X.w) X.A (compareOp op v u) (EP X pins σ Q) X.xe s₂) X.xe s₁) X.xe s
theorem Qv(b:Expr){op:CmpOp}(h:op ≠ .In)(h2:op ≠ .NotIn):behindInMarks op b=false:=by
 have e1:(op == CmpOp.In)=false:=by cases op<;>first | rfl | exact absurd rfl h
 have e2:(op == CmpOp.NotIn)=false:=by cases op<;>first | rfl | exact absurd rfl h2
 cases b<;>simp [behindInMarks,e1,e2]
noncomputable def Mb(ta:TE):TE:=λσ H Q=>ta σ H λx H1=>Q (.bl (decide (x=.non))) H1
theorem aL.none_iff{x:V}{v:Value}(r:aL x v):(v == Value.none)=decide (x=.non):=by
 cases x with
 | non=>cases r;rfl
 | bl _=>cases r;rfl
 | int _=>obtain⟨t,rfl⟩:=r;rfl
 | str _=>obtain⟨t,rfl⟩:=r;rfl
 | byt _=>obtain⟨t,rfl⟩:=r;rfl
 | flt _=>obtain⟨t,rfl⟩:=r;rfl
 | ref _=>cases r;rfl
 | ty _=>cases r;rfl
theorem AU{j pos'}(ha:PE X a ta):PC X .Is a (.Constant .none j pos') (Mb ta):=by
 intro pins s σ H Q I h
 refine av (ha pins s σ H _ I h) λv s1 ⟨x,H1,I1,r1,q1⟩=>?_
 exact Constant_none (is_none_gen ⟨.bl _,H1,I1,by rw [r1.none_iff];rfl,q1⟩)
inductive Di(x:V)(H:Hp)(Q:Bool->Hp->Prop):Prop where
 | mk (c:Bool) (_:x=.bl c) (_:Q c H):Di x H Q
noncomputable def tB(t:TE):TT:=λσ H Q=>t σ H λx H1=>Di x H1 Q
theorem mQ{op:CmpOp}{t:TE}(h:PC X op a b t)(h1:behindInMarks op b=false:=by first | exact Qv _ (by decide) (by decide) | rfl):PT X (.Compare a [op] [b] pos) (tB t):=by
 intro pins s σ H Q I hw
 refine wpAny_isTrue_Compare1 (av (h pins s σ H _ I hw) λv s1 h1=>av h1 λu s2 h2=>av h2 λc s3 ⟨x,H1,I1,r1,q1⟩=>?_) h1
 obtain⟨d,rfl,q⟩:=q1
 cases r1
 exact wpAny_truthy_bool ⟨H1,I1,q⟩
theorem du{e:Expr}{t:TE}(h:PE X e t)(he:∀whole,isTrue e X.env whole=(do let v ← whole;standAt e.pos;holding [v] (truthy v)):=by intro _;rfl):PT X e (tB t):=by
 intro pins s σ H Q I hw
 refine isTrue_plain (av (h pins s σ H _ I hw) λv s1 ⟨x,H1,I1,r1,q1⟩=>?_) (he _)
 obtain⟨d,rfl,q⟩:=q1
 cases r1
 exact wpAny_truthy_bool ⟨H1,I1,q⟩
variable {tA tB':TT} {rest:List Expr}
noncomputable def Mp(t u:TT):TT:=λσ H Q=>t σ H λc H1=>if c=true then u σ H1 Q else Q false H1
noncomputable def LY(t u:TT):TT:=λσ H Q=>t σ H λc H1=>if c=true then Q true H1 else u σ H1 Q
noncomputable def M3(t:TT):TT:=λσ H Q=>t σ H λc H1=>Q (!c) H1
theorem NV(ha:PT X a tA):PW X (.BoolOp .And [a] pos) tA:=by
 intro wh pins s σ H Q I h
 refine isTrue_and (av (ha pins s σ H Q I h) λc s1 e=>?_)
 cases c with
 | true=>exact isTrue_and_nil e
 | false=>exact e
theorem fM(ha:PT X a tA):PW X (.BoolOp .Or [a] pos) tA:=by
 intro wh pins s σ H Q I h
 refine isTrue_or (av (ha pins s σ H Q I h) λc s1 e=>?_)
 cases c with
 | false=>exact isTrue_or_nil e
 | true=>exact e
theorem Hb(ha:PT X a tA)(hb:PW X (.BoolOp .And (b::rest) pos) tB'):PW X (.BoolOp .And (a::b::rest) pos) (Mp tA tB'):=by
 intro wh pins s σ H Q I h
 refine isTrue_and (av (ha pins s σ H _ I h) λc s1 ⟨H1,I1,q1⟩=>?_)
 cases c with
 | true=>exact hb wh pins s1 σ H1 Q I1 q1
 | false=>exact⟨H1,I1,q1⟩
theorem fA(ha:PT X a tA)(hb:PW X (.BoolOp .Or (b::rest) pos) tB'):PW X (.BoolOp .Or (a::b::rest) pos) (LY tA tB'):=by
 intro wh pins s σ H Q I h
 refine isTrue_or (av (ha pins s σ H _ I h) λc s1 ⟨H1,I1,q1⟩=>?_)
 cases c with
 | true=>exact⟨H1,I1,q1⟩
 | false=>exact hb wh pins s1 σ H1 Q I1 q1
theorem dh(ha:PT X a tA):PT X (.UnaryOp .Not a pos) (M3 tA):=by
 intro pins s σ H Q I h
 exact isTrue_not (ha pins s σ H (λc H1=>Q (!c) H1) I h)
noncomputable def Mo(ta tb:TE):TE:=λσ H Q=>ta σ H λx H1=>∃c,x=.bl c/\if c=true then tb σ H1 Q else Q (.bl false) H1
noncomputable def LX(ta tb:TE):TE:=λσ H Q=>ta σ H λx H1=>∃c,x=.bl c/\if c=true then Q (.bl true) H1 else tb σ H1 Q
noncomputable def M0(ta:TE):TE:=λσ H Q=>ta σ H λx H1=>∃c,x=.bl c/\Q (.bl (!c)) H1
theorem kA{op}{t:TE}(h:PE X a t):PE X (.BoolOp op [a] pos) t:=λpins s σ H Q I hw=>BoolOp_one (h pins s σ H Q I hw)
theorem lj(ha:PE X a ta)(hb:PE X (.BoolOp .And (b::rest) pos) tb):PE X (.BoolOp .And (a::b::rest) pos) (Mo ta tb):=by
 intro pins s σ H Q I h
 refine BoolOp_and (av (ha pins s σ H _ I h) λv s1 ⟨x,H1,I1,r1,q1⟩=>?_)
 obtain⟨c,rfl,q1⟩:=q1
 cases r1
 refine wpAny_truthy_bool ?_
 cases c with
 | true=>exact hb pins s1 σ H1 Q I1 q1
 | false=>exact⟨.bl false,H1,I1,rfl,q1⟩
theorem Ow(ha:PE X a ta)(hb:PE X (.BoolOp .Or (b::rest) pos) tb):PE X (.BoolOp .Or (a::b::rest) pos) (LX ta tb):=by
 intro pins s σ H Q I h
 refine BoolOp_or (av (ha pins s σ H _ I h) λv s1 ⟨x,H1,I1,r1,q1⟩=>?_)
 obtain⟨c,rfl,q1⟩:=q1
 cases r1
 refine wpAny_truthy_bool ?_
 cases c with
 | false=>exact hb pins s1 σ H1 Q I1 q1
 | true=>exact⟨.bl true,H1,I1,rfl,q1⟩
theorem Ox(ha:PE X a ta):PE X (.UnaryOp .Not a pos) (M0 ta):=by
 intro pins s σ H Q I h
 refine UnaryOp_ (av (ha pins s σ H _ I h) λv s1 ⟨x,H1,I1,r1,q1⟩=>?_)
 obtain⟨c,rfl,q1⟩:=q1
 cases r1
 exact not_of (wpAny_truthy_bool ⟨.bl (!c),H1,I1,rfl,q1⟩)
end
end L2
namespace L2
open PySem PySem.Spec PyProof.Rows
noncomputable def aD(K:Frag)(H:Hp)(a:Addr)(xs:List V):Prop :=
 Rd H a (.lst xs)\/
  ∃(o:Obj) (its:Array Value) (n:Nat),K.lookup a=some o/\o.cls=.type "list" /\ o.dict=none/\o.data=.seq its n/\its.size<=sizeLine/\aB xs its.toList
noncomputable def aG(K:Frag)(H:Hp)(a:Addr)(xs:List V):Prop :=
 Rd H a (.tup xs)\/
  ∃(o:Obj) (its:Array Value) (n:Nat),K.lookup a=some o/\o.cls=.type "tuple" /\ o.data=.seq its n/\its.size<=sizeLine/\aB xs its.toList
noncomputable def Um:Value->Option V
 | .none=>some .non
 | .bool b=>some (.bl b)
 | .int i _=>some (.int i)
 | .str x _=>some (.str x)
 | .bytes b _=>some (.byt b)
 | .float b _=>some (.flt b)
 | .ref a=>some (.ref a)
 | .type n=>some (.ty n)
 | _=>none
theorem aL.abs{x:V}{u:Value}(r:aL x u):Um u=some x:=by
 cases x with
 | non=>cases r;rfl
 | bl _=>cases r;rfl
 | int _=>obtain⟨t,rfl⟩:=r;rfl
 | str _=>obtain⟨t,rfl⟩:=r;rfl
 | byt _=>obtain⟨t,rfl⟩:=r;rfl
 | flt _=>obtain⟨t,rfl⟩:=r;rfl
 | ref _=>cases r;rfl
 | ty _=>cases r;rfl
theorem aL.inj{x y:V}{u:Value}(r:aL x u)(q:aL y u):x=y:=dS (r.abs.symm.trans q.abs)
theorem aB.inj:∀{xs ys:List V} {us:List Value},aB xs us->aB ys us->xs=ys
 | _,_,_,.nil,.nil=>rfl
 | _,_,_,.cons r t,.cons r' t'=>by rw [r.inj r',aB.inj t t']
section
variable {X:Cx} {pins:List (Addr × Obj)} {σ:St} {H:Hp} {s:Shared} {a:Addr} {xs ys:List V}
theorem aD.of{K:Frag}(h:H a=some (.lst xs)):aD K H a xs:=.inl (.inl h)
theorem aG.of{K:Frag}(h:H a=some (.tup xs)):aG K H a xs:=.inl (.inl h)
theorem ae.list(I:ae X pins σ H s)(h:aD X.K H a xs):∃its:List Value,aB xs its/\PlainL s.heap a its.toArray/\xs.length<=sizeLine:=by
 rcases h with h | ⟨o,its,n,hk,hc,hd,hs,hz,r⟩
 ·obtain⟨z,its,n,r,e⟩:=h.ok I.hok
  exact⟨its,r,⟨_,n,e,rfl,rfl,rfl⟩,z⟩
 ·refine⟨its.toList,r,⟨o,n,I.kIn a o hk,hc,hd,by simpa using hs⟩,?_⟩
  have e:=r.length
  simp only [kT] at e
  omega
theorem ae.tuple(I:ae X pins σ H s)(h:aG X.K H a xs):∃its:List Value,aB xs its/\IsTup s.heap a its.toArray/\xs.length<=sizeLine:=by
 rcases h with h | ⟨o,its,n,hk,hc,hs,hz,r⟩
 ·obtain⟨z,its,r,p⟩:=h.ok I.hok
  exact⟨its,r,p,z⟩
 ·refine⟨its.toList,r,⟨o,I.kIn a o hk,hc,n,by simpa using hs⟩,?_⟩
  have e:=r.length
  simp only [kT] at e
  omega
theorem ae.list_inj(I:ae X pins σ H s)(h:aD X.K H a xs)(h':aD X.K H a ys):xs=ys:=by
 obtain⟨its,r,⟨o,n,e,_,_,d⟩,_⟩:=I.list h
 obtain⟨its',r',⟨o',n',e',_,_,d'⟩,_⟩:=I.list h'
 rw [e] at e';cases e'
 rw [d] at d'
 injection d' with d1 _
 have:its=its':=by simpa using congrArg Array.toList d1
 subst this
 exact r.inj r'
theorem ae.tuple_inj(I:ae X pins σ H s)(h:aG X.K H a xs)(h':aG X.K H a ys):xs=ys:=by
 obtain⟨its,r,⟨o,e,_,n,d⟩,_⟩:=I.tuple h
 obtain⟨its',r',⟨o',e',_,n',d'⟩,_⟩:=I.tuple h'
 rw [e] at e';cases e'
 rw [d] at d'
 injection d' with d1 _
 have:its=its':=by simpa using congrArg Array.toList d1
 subst this
 exact r.inj r'
end
abbrev Cx.wish(X:Cx)(E:Value->Shared->Prop):Cx:={ X with xe:=E }
abbrev Cx.nox(X:Cx):Cx:=X.wish λ_ _=>False
theorem Cx.Ok.wish{X:Cx}(ok:X.Ok)(E:Value->Shared->Prop):(X.wish E).Ok :=
 ⟨ok.mod,ok.kind,ok.glob,ok.blt,ok.above,ok.inj,ok.has,ok.cab,ok.hd,ok.frames,ok.stk,ok.exf,ok.bs,ok.bsz,ok.noex,ok.exfs,ok.funs,ok.frf⟩
theorem Cx.Ok.unwish{X:Cx}{E:Value->Shared->Prop}(ok:(X.wish E).Ok):X.Ok :=
 ⟨ok.mod,ok.kind,ok.glob,ok.blt,ok.above,ok.inj,ok.has,ok.cab,ok.hd,ok.frames,ok.stk,ok.exf,ok.bs,ok.bsz,ok.noex,ok.exfs,ok.funs,ok.frf⟩
section
variable {X:Cx} {pins:List (Addr × Obj)} {σ:St} {H:Hp} {s:Shared} {E:Value->Shared->Prop}
theorem ae.wish(I:ae X pins σ H s)(E:Value->Shared->Prop):ae (X.wish E) pins σ H s:=⟨I.ok.wish E,I.os,I.bare,I.base,I.loc,I.cell,I.free,I.freeC,I.pin,I.hok,I.len⟩
theorem ae.unwish(I:ae (X.wish E) pins σ H s):ae X pins σ H s:=⟨I.ok.unwish,I.os,I.bare,I.base,I.loc,I.cell,I.free,I.freeC,I.pin,I.hok,I.len⟩
theorem SP.unwish{D:ie}{f:Flow}{s':Shared}(h:SP (X.wish E) pins D f s'):SP X pins D f s':=by
 cases f with
 | next=>obtain⟨σ',H',I,q⟩:=h;exact⟨σ',H',I.unwish,q⟩
 | brk=>obtain⟨σ',H',I,q⟩:=h;exact⟨σ',H',I.unwish,q⟩
 | cont=>obtain⟨σ',H',I,q⟩:=h;exact⟨σ',H',I.unwish,q⟩
 | ret u=>obtain⟨v,σ',H',I,r,q⟩:=h;exact⟨v,σ',H',I.unwish,r,q⟩
theorem PE.nox{e:Expr}{t:TE}(h:PE X.nox e t):PE X e t:=λpins s σ H Q I hw =>
 wpAny_mono (h pins s σ H Q (I.wish _) hw) (λ_ _ ⟨v,H',I',r,q⟩=>⟨v,H',I'.unwish,r,q⟩) λ_ _ z=>False.elim z
theorem PT.nox{e:Expr}{t:TT}(h:PT X.nox e t):PT X e t:=λpins s σ H Q I hw =>
 wpAny_mono (h pins s σ H Q (I.wish _) hw) (λ_ _ ⟨H',I',q⟩=>⟨H',I'.unwish,q⟩) λ_ _ z=>False.elim z
theorem eJ.nox{st:List Stmt}{t:TS}(h:eJ X.nox st t):eJ X st t:=λpins s σ H D I hw =>
 wpAny_mono (h pins s σ H D (I.wish _) hw) (λ_ _ q=>q.unwish) λ_ _ z=>False.elim z
end
section
variable {X:Cx} {st:Stmt} {rest:List Stmt} {t u:TS} {e:Expr} {te:TE} {pos:Pos}
noncomputable def M5:TS:=λD σ H=>D.nx σ H
noncomputable def kZ(t u:TS):TS:=λD σ H=>t { D with nx:=u D } σ H
theorem aX:eJ X [] M5:=λ_ _ σ H _ I h=>wpAny_execs_nil ⟨σ,H,I,h⟩
theorem ag(h1:PS X st t)(h2:eJ X rest u):eJ X (st::rest) (kZ t u):=by
 intro pins s σ H D I h
 refine wpAny_execs_cons (av (h1 pins s σ H { D with nx:=u D } I h) λf s1 q=>?_)
 cases f with
 | next =>
   obtain⟨σ',H',I',q⟩:=q
   exact h2 pins s1 σ' H' D I' q
 | ret v=>exact q
 | brk=>exact q
 | cont=>exact q
theorem aj(h1:PS X st t):eJ X [st] t:=by
 intro pins s σ H D I h
 refine wpAny_execs_cons (av (h1 pins s σ H D I h) λf s1 q=>?_)
 cases f with
 | next=>exact wpAny_execs_nil q
 | ret v=>exact q
 | brk=>exact q
 | cont=>exact q
theorem ae.quiet{pins:List (Addr × Obj)}{σ:St}{H:Hp}{s:Shared}(I:ae X pins σ H s):interactive X.env=false:=by simp [interactive,I.ok.kind]
noncomputable def Me(te:TE):TS:=λD σ H=>te σ H λ_ H1=>D.nx σ H1
theorem fg(he:PE X e te)(hs:swapsWith e none pos.line X.env=pure false:=by rfl):PS X (.Expr e pos) (Me te):=by
 intro pins s σ H D I h
 exact wpAny_Expr_any (av (he pins s σ H _ I h) λv s1 ⟨x,H1,I1,r1,q1⟩=>⟨σ,H1,I1,q1⟩) I.quiet hs
noncomputable def DT(te:TE):TS:=λD σ H=>te σ H D.rt
theorem az(he:PE X e te):PS X (.Return (some e) pos) (DT te):=by
 intro pins s σ H D I h
 exact wpAny_Return_some (av (he pins s σ H _ I h) λv s1 ⟨x,H1,I1,r1,q1⟩=>⟨x,σ,H1,I1,r1,q1⟩)
noncomputable def qY(c:TT)(t u:TS):TS:=λD σ H=>c σ H λb H1=>if b=true then t D σ H1 else u D σ H1
theorem aW{c:Expr}{a b:List Stmt}{tc:TT}(hc:PT X c tc)(ha:eJ X a t)(hb:eJ X b u):PS X (.If c a b pos) (qY tc t u):=by
 intro pins s σ H D I h
 refine wpAny_If (av (hc pins s σ H _ I h) λd s1 ⟨H1,I1,q1⟩=>?_)
 cases d with
 | true=>exact ha pins s1 σ H1 D I1 q1
 | false=>exact hb pins s1 σ H1 D I1 q1
noncomputable def M6:TS:=λ_ _ _=>False
theorem dH:PS X st M6:=λ_ _ _ _ _ _ h=>h.elim
end
abbrev TG:=V->St->Hp->(St->Hp->Prop)->Prop
abbrev m5:=List V->St->Hp->(St->Hp->Prop)->Prop
noncomputable def PG(X:Cx)(target:Expr)(t:TG):Prop :=
 ∀(pins:List (Addr × Obj)) (s:Shared) (σ:St) (H:Hp) (v:V) (u:Value) (Q:St->Hp->Prop),ae X pins σ H s->aL v u->t v σ H Q->
   wpAny (model X.prog X.w) X.A (assign target X.env u) (λ_ s'=>∃σ' H',ae X pins σ' H' s'/\Q σ' H') X.xe s
noncomputable def qh(X:Cx)(ts:List Expr)(t:m5):Prop :=
 ∀(pins:List (Addr × Obj)) (s:Shared) (σ:St) (H:Hp) (vs:List V) (us:List Value) (Q:St->Hp->Prop),ae X pins σ H s->aB vs us->t vs σ H Q->
   wpAny (model X.prog X.w) X.A (assignInOrder ((assignEach ts X.env).map (·.2)) us) (λ_ s'=>∃σ' H',ae X pins σ' H' s'/\Q σ' H') X.xe s
abbrev Cb:=V->V->V->Hp->(Hp->Prop)->Prop
noncomputable def Kf(X:Cx)(t:Cb):Prop :=
 ∀(pins:List (Addr × Obj)) (s:Shared) (σ:St) (H:Hp) (o i v:V) (ov iv u:Value) (Q:Hp->Prop),ae X pins σ H s->aL o ov->aL i iv->aL v u->t o i v H Q->
   wpAny (model X.prog X.w) X.A (setItem ov iv u) (λ_ s'=>∃H',ae X pins σ H' s'/\Q H') X.xe s
abbrev qd:=V->V->Hp->VK->Prop
noncomputable def Kg(X:Cx)(op:Operator)(t:qd):Prop :=
 ∀(pins:List (Addr × Obj)) (s:Shared) (σ:St) (H:Hp) (x y:V) (v u:Value) (Q:VK),ae X pins σ H s->aL x v->aL y u->t x y H Q->
   wpAny (model X.prog X.w) X.A (inplaceOp op v u) (EP X pins σ Q) X.xe s
section
variable {X:Cx} {pos:Pos}
noncomputable def f9(i:Nat):TG:=λv σ H Q=>Q (σ.set i (some v)) H
theorem Oo{i:Nat}{x:Str}(hN:X.N.Nodup)(hi:X.N[i]?=some x)(hx:mf X.env.scope x)(hf:X.fn x=true\/X.env.scope.names.lookup x=some .local:=by first | exact .inl rfl | exact .inr rfl | assumption):PG X (.Name x pos) (f9 i):=by
 intro pins s σ H v u Q I r h
 exact wpAny_assign_Name (oC I hN hi hx r (λs' I'=>⟨_,H,I',h⟩) hf)
noncomputable def BK:m5:=λvs σ H Q=>vs=[]/\Q σ H
noncomputable def pH(t:TG)(u:m5):m5:=λvs σ H Q=>∃v r,vs=v::r/\t v σ H λσ' H'=>u r σ' H' Q
theorem mT:qh X [] BK:=by
 intro pins s σ H vs us Q I r h
 obtain⟨e,h⟩:=h
 subst e
 cases r
 exact assignInOrder_nil ⟨σ,H,I,h⟩
theorem ip{e:Expr}{es:List Expr}{t:TG}{u:m5}(h1:PG X e t)(h2:qh X es u)
 (hs:(assignEach (e::es) X.env).map (·.2)=assign e X.env::(assignEach es X.env).map (·.2):=by rfl):qh X (e::es) (pH t u):=by
 intro pins s σ H vs us Q I r h
 obtain⟨v,vr,e1,h⟩:=h
 subst e1
 cases r with
 | cons r rr =>
   rw [hs]
   refine assignInOrder_cons (av (h1 pins s σ H _ _ _ I r h) λ_ s1 ⟨σ1,H1,I1,q1⟩=>?_)
   exact h2 pins s1 σ1 H1 _ _ Q I1 rr q1
noncomputable def BJ(K:Frag)(n:Nat)(t:m5):TG:=λv σ H Q=>∃a xs,v=.ref a/\aG K H a xs/\xs.length=n/\t xs σ H Q
theorem mU{es:List Expr}{k:Nat}{t:m5}{n:Nat}(hc:X.calm=true)(h:qh X es t)
 (hn:(assignEach es X.env).length=n:=by rfl) (hst:(assignEach es X.env).findIdx? (·.1)=none:=by rfl):PG X (.Tuple es k pos) (BJ X.K n t):=by
 intro pins s σ H v u Q I r hw
 obtain⟨a,xs,e1,hq,hl,hw⟩:=hw
 subst e1
 cases r
 obtain⟨its,rv,ht,hz⟩:=I.tuple hq
 refine assign_Tuple_tuple (I.ok.hd hc) ht (by simp [hn,← hl,rv.length]) hst λh' hx=>?_
 have I1:ae X pins σ H { s with heap:=h' }:=I.kept (t':=s.toks) λb o e=>hx b o (cG (bj e)) e
 exact h pins _ σ H xs _ Q I1 (by simpa using rv) hw
noncomputable def yo(te:TE)(g:TG):TS:=λD σ H=>te σ H λx H1=>g x σ H1 D.nx
theorem Oa{tg e:Expr}{te:TE}{g:TG}(he:PE X e te)(hg:PG X tg g)(hs:swapsWithSole [tg] e pos.line X.env=pure false:=by rfl)(hw:swappedStores [tg] e X.env=pure none:=by rfl)
 (h1:(assignEach [tg] X.env).map (·.2)=[assign tg X.env]:=by rfl):PS X (.Assign [tg] e pos) (yo te g):=by
 intro pins s σ H D I h
 refine wpAny_Assign_stores (av (he pins s σ H _ I h) λv s1 ⟨x,H1,I1,r1,q1⟩=>?_) hs hw
 rw [h1]
 exact av (hg pins s1 σ H1 x v _ I1 r1 q1) λ_ s2 q=>q
theorem Hd{i:Nat}{x:Str}{e:Expr}{te:TE}{pos':Pos}(hN:X.N.Nodup)(hi:X.N[i]?=some x)(hx:mf X.env.scope x)(he:PE X e te)(hs:swapsWith e (some (.Name x pos')) pos.line X.env=pure false:=by rfl)(hf:X.fn x=true\/X.env.scope.names.lookup x=some .local:=by first | exact .inl rfl | exact .inr rfl | assumption):
 PS X (.Assign [.Name x pos'] e pos) (yo te (f9 i)):=by
 intro pins s σ H D I h
 refine wpAny_Assign_Name (av (he pins s σ H _ I h) λv s1 ⟨y,H1,I1,r1,q1⟩=>?_) hs
 exact oC I1 hN hi hx r1 (λs2 I2=>⟨_,H1,I2,q1⟩) hf
noncomputable def LW(i j:Nat)(ta:TA):TS:=λD σ H=>ta σ H λvs H1=>∃v w,vs=[v,w]/\D.nx ((σ.set i (some v)).set j (some w)) H1
theorem O0{i j:Nat}{x y:Str}{a b:Expr}{ta:TA}{px py pt:Pos}{kt k2 pt2}(hc:X.calm=true)(hN:X.N.Nodup)(hi:X.N[i]?=some x)(hj:X.N[j]?=some y)(hij:i ≠ j)
 (hx:X.env.scope.names.lookup x=some .local) (hy:X.env.scope.names.lookup y=some .local) (ha:PA X [a,b] ta)
 (hw:swappedStores [.Tuple [.Name x px,.Name y py] kt pt] (.Tuple [a,b] k2 pt2) X.env=pure (some [x,y]))
 (hs:swapsWithSole [.Tuple [.Name x px,.Name y py] kt pt] (.Tuple [a,b] k2 pt2) pos.line X.env=pure false:=by rfl):
 PS X (.Assign [.Tuple [.Name x px,.Name y py] kt pt] (.Tuple [a,b] k2 pt2) pos) (LW i j ta):=by
 intro pins s σ H D I h
 rw [exec_Assign_arm]
 refine wpAny_bind (wpAny_standAt ?_)
 rw [hs]
 refine wpAny_bind (wpAny_pure ?_)
 rw [if_neg (by decide)]
 refine wpAny_bind (Tuple_ (av (ha _ pins s σ H _ I h) λus s1 ⟨vs,H1,I1,r1,q1⟩=>?_))
 obtain⟨v,w,e1,q1⟩:=q1
 subst e1
 obtain⟨u1,u2,rfl,rv,rw'⟩:∃u1 u2,us=[u1,u2]/\aL v u1/\aL w u2:=by
  cases r1 with
  | cons p q =>
    cases q with
    | cons p' q' =>
      cases q'
      exact⟨_,_,rfl,p,p'⟩
 refine wpAny_newObj_type ?_ (by show 2<=sizeLine;decide)
 have I2:ae X pins σ H1 { s1 with heap:=s1.heap.push { cls:=.type "tuple",data:=.seq [u1,u2].toArray } }:=I1.kept (t':=s1.toks) λb o e=>bP _ e
 rw [hw]
 refine wpAny_bind (wpAny_pure ?_)
 show wpAny (model X.prog X.w) X.A (do rule "assign.swapped-stores";let items ← unpackItems (.ref s1.heap.objs.size) 2 none;assignInOrder [λv=>bindName X.env y v,λv=>bindName X.env x v] items.reverse;pure Flow.next) _ _ _
 refine wpAny_bind (wpAny_rule (wpAny_bind (unpackItems_tuple (items:=#[u1,u2]) (I.ok.hd hc) (IsTup.new s1.heap _) λh' hx'=>?_)))
 have I3:=I2.kept (h':=h') (t':=s1.toks) λb o e=>hx' b o (cG (bj e)) e
 show wpAny _ _ (assignInOrder [λv=>bindName X.env y v,λv=>bindName X.env x v] [u2,u1] >>= λ_=>pure Flow.next) _ _ _
 refine wpAny_bind (assignInOrder_cons (wpAny_bindName (oC I3 hN hj (.inl hy) rw' (λs2 I4=>?_) (.inr hy))))
 refine assignInOrder_cons (wpAny_bindName (oC I4 hN hi (.inl hx) rv (λs3 I5=>assignInOrder_nil (wpAny_pure ?_)) (.inr hx)))
 rw [List.set_comm _ _ (dG hij)] at I5
 exact⟨_,H1,I5,q1⟩
noncomputable def Mn(i:Nat)(te:TE)(ti:qd):TS:=λD σ H=>∃x,σ[i]?=some (some x)/\te σ H λy H1=>ti x y H1 λz H2=>D.nx (σ.set i (some z)) H2
theorem iO{i:Nat}{x:Str}{e:Expr}{te:TE}{op:Operator}{ti:qd}{pos':Pos}(hN:X.N.Nodup)(hi:X.N[i]?=some x)(hx:mf X.env.scope x)(he:PE X e te)(ho:Kg X op ti)(hf:X.fn x=true\/X.env.scope.names.lookup x=some .local:=by first | exact .inl rfl | exact .inr rfl | assumption):
 PS X (.AugAssign (.Name x pos') op e pos) (Mn i te ti):=by
 intro pins s σ H D I h
 obtain⟨v,e1,h⟩:=h
 obtain⟨m,hn,hl⟩:=I.loc
 have vis:qc X.env.scope x:=by rcases hx with k | k;exact .inl k;exact .inr (.inl k)
 obtain⟨u,r,l⟩:=hl i x v hi e1 vis
 refine wpAny_AugAssign_Name ?_
 have go:wpAny (model X.prog X.w) X.A (eval e X.env) (λw s₂=>wpAny (model X.prog X.w) X.A (inplaceOp op u w) (λr s₃=>wpAny (model X.prog X.w) X.A (storeName X.env x r) (λ_=>SP X pins D .next) X.xe s₃) X.xe s₂) X.xe s:=by
  refine av (he pins s σ H _ I h) λw s1 ⟨y,H1,I1,r1,q1⟩=>?_
  refine av (ho pins s1 σ H1 v y u w _ I1 r r1 q1) λz s2 ⟨zv,H2,I2,r2,q2⟩=>?_
  exact oC I2 hN hi hx r2 (λs3 I3=>⟨_,H2,I3,q2⟩) hf
 rcases l with⟨hk,hm⟩ | ⟨hk,c,hc,hcell⟩
 ·exact wpAny_loadName_local I.ok.kind hk hn hm go
 ·rcases hk with hk | hk
  ·exact wpAny_loadName_cell I.ok.kind hk hc hcell go
  ·rcases hx with k | k
   ·have:X.env.scope.names.lookup x=some .free:=hk
    rw [k] at this;cases this
   ·have:X.env.scope.names.lookup x=some .free:=hk
    rw [k] at this;cases this
noncomputable def DY(to ti te:TE)(tget:V->V->Hp->VK->Prop)(tip:qd)(tset:Cb):TS:=λD σ H=>to σ H λo H1=>ti σ H1 λi H2=>tget o i H2 λx H3=>te σ H3 λy H4=>tip x y H4 λz H5=>tset o i z H5 λH6=>D.nx σ H6
noncomputable def Kh(X:Cx)(t:V->V->Hp->VK->Prop):Prop :=
 ∀(pins:List (Addr × Obj)) (s:Shared) (σ:St) (H:Hp) (o i:V) (ov iv:Value) (Q:VK),ae X pins σ H s->aL o ov->aL i iv->t o i H Q->
   wpAny (model X.prog X.w) X.A (getItem ov iv) (EP X pins σ Q) X.xe s
theorem He{o i e:Expr}{to ti te:TE}{tget:V->V->Hp->VK->Prop}{tip:qd}{tset:Cb}{op:Operator}{tpos:Pos}(ho:PE X o to)(hi:PE X i ti)(hg:Kh X tget)(he:PE X e te)(hp:Kg X op tip)(hs:Kf X tset)
 (ha:∀ov iv new,augStore i ov iv new=(do holding [new,ov,iv] (setItem ov iv new);release [new,ov,iv] [];pure .next):=by intros;rfl):PS X (.AugAssign (.Subscript o i tpos) op e pos) (DY to ti te tget tip tset):=by
 intro pins s σ H D I h
 refine wpAny_AugAssign_SubscriptAny (av (ho pins s σ H _ I h) λov s1 ⟨x1,H1,I1,r1,q1⟩=>?_) ha
 refine av (hi pins s1 σ H1 _ I1 q1) λiv s2 ⟨x2,H2,I2,r2,q2⟩=>?_
 refine av (hg pins s2 σ H2 x1 x2 ov iv _ I2 r1 r2 q2) λold s3 ⟨x3,H3,I3,r3,q3⟩=>?_
 refine av (he pins s3 σ H3 _ I3 q3) λv s4 ⟨x4,H4,I4,r4,q4⟩=>?_
 refine av (hp pins s4 σ H4 x3 x4 old v _ I4 r3 r4 q4) λnew s5 ⟨x5,H5,I5,r5,q5⟩=>?_
 exact av (hs pins s5 σ H5 x1 x2 x5 ov iv new _ I5 r1 r2 r5 q5) λ_ s6 ⟨H6,I6,q6⟩=>⟨σ,H6,I6,q6⟩
end
section
variable {X:Cx} {pos:Pos}
noncomputable def DR(c:TT)(tb:TS):TS:=λD σ H=>∃W:Nat->St->Hp->Prop,(∃m,W m σ H)/\∀m σ H,W m σ H->
 c σ H λb H1=>if b=true then ∃N:St->Hp->Prop,(∀σ' H',N σ' H'->∃m',m'<m/\W m' σ' H')/\tb { D with nx:=N,ct:=N,bk:=D.nx } σ H1 else D.nx σ H1
theorem AI{c:Expr}{body:List Stmt}{tc:TT}{tb:TS}(hp:PassesOwn (model X.prog X.w) X.A X.env X.xe)(hc:PT X c tc)(hb:eJ X body tb):PS X (.While c body [] pos) (DR tc tb):=by
 intro pins s σ H D I h
 obtain⟨W,⟨m0,w0⟩,turn⟩:=h
 refine wpAny_While (codeAny_whileLoop (λn s'=>∃σ' H',ae X pins σ' H' s'/\W n σ' H') ?_ m0 ⟨σ,H,I,w0⟩)
 rintro n s1 ⟨σ1,H1,I1,w1⟩
 refine wpAny_passesOwn hp (av (hc pins s1 σ1 H1 _ I1 (turn n σ1 H1 w1)) λb s2 ⟨H2,I2,q2⟩=>?_)
 cases b with
 | true =>
   obtain⟨N,hN,q2⟩:=q2
   rw [if_pos rfl]
   refine wpAny_passesOwn hp (av (hb pins s2 σ1 H2 _ I2 q2) λf s3 q3=>?_)
   cases f with
   | next =>
     obtain⟨σ3,H3,I3,n3⟩:=q3
     obtain⟨m',hm,w3⟩:=hN σ3 H3 n3
     exact⟨m',hm,σ3,H3,I3,w3⟩
   | cont =>
     obtain⟨σ3,H3,I3,n3⟩:=q3
     obtain⟨m',hm,w3⟩:=hN σ3 H3 n3
     exact⟨m',hm,σ3,H3,I3,w3⟩
   | brk=>exact q3
   | ret v=>exact q3
 | false =>
   rw [if_neg cz]
   exact wpAny_execs_nil ⟨σ1,H2,I2,q2⟩
end
structure It where
 go:Nat->Hp->Prop
 yld:Nat->Hp->V->Hp->Prop
 stop:Nat->Hp->Prop
noncomputable def gT(X:Cx)(pins:List (Addr × Obj))(H:Hp)(b:Addr):Prop :=
 H b=none/\b ≠ X.env.locals/\b ∉ X.fs/\(b ∈ X.ex\/X.s₀.heap.objs.size<=b)/\(∀x c,X.env.cells.lookup x=some c->c ≠ b)/\∀p ∈ X.pn++pins,p.1 ≠ b
theorem ae.fpOk{X:Cx}{pins:List (Addr × Obj)}{σ:St}{H H':Hp}{s:Shared}{b:Addr}(I:ae X pins σ H s)(hb:s.heap.objs.size<=b)(hn:H' b=none):gT X pins H' b:=by
 refine⟨hn,Nat.ne_of_gt (dZ I.lt hb),I.nofs hb,.inr (c7 I.sz hb),λx c e z=>?_,λp hp z=>?_⟩
 ·obtain⟨v,q⟩:=I.cell x c e
  exact absurd (dZ q.lt (by rw [z];exact hb)) (i4 _)
 ·exact absurd (dZ (bj (I.pin p hp).1) (by rw [z];exact hb)) (i4 _)
structure jQ(P:Program)(w:World)(K:Frag)(tg:Expr)(J:It)(fp:List Addr)(it:Addr)(tn:Nat->Heap->Prop):Prop where
 mem:it ∈ fp
 obj:∀i h,tn i h->∀b ∈ fp,∃o,h.get? b=some o/\∀v,o.data ≠ .cell v
 keep:∀i h h',tn i h->(∀b ∈ fp,∀o,h.get? b=some o->h'.get? b=some o)->tn i h'
 item:∀(X:Cx),X.prog=P->X.w=w->X.K=K->X.calm=true->∀(i:Nat) (pins:List (Addr × Obj)) (s:Shared) (σ:St) (H:Hp) (E:Value->Shared->Prop),ae X pins σ H s->(∀b ∈ fp,gT X pins H b)->tn i s.heap->J.go i H->
  wpAny (model P w) X.A (pyNext (.ref it)) (λr s1=>∃u,r=some u/\
   wpAny (model P w) X.A (letOwnedTupleGo tg (.ref it) u) (λ_ s2=>∃x H',ae X pins σ H' s2/\aL x u/\J.yld i H x H'/\tn (i+1) s2.heap/\∀b ∈ fp,H' b=none) E s1) E s
 done:∀(X:Cx),X.prog=P->X.w=w->X.K=K->X.calm=true->∀(i:Nat) (pins:List (Addr × Obj)) (s:Shared) (σ:St) (H:Hp) (E:Value->Shared->Prop),ae X pins σ H s->(∀b ∈ fp,gT X pins H b)->tn i s.heap->J.stop i H->
  wpAny (model P w) X.A (pyNext (.ref it)) (λr s1=>r=none/\ae X pins σ H s1) E s
 self:∀(A:Around) (i:Nat) (s:Shared) (Q:Value->Shared->Prop) (E:Value->Shared->Prop),tn i s.heap->Q (.ref it) s->wpAny (model P w) A (pyIter (.ref it)) Q E s
abbrev TI:=St->Hp->(It->Hp->Prop)->Prop
noncomputable def xq(X:Cx)(pins:List (Addr × Obj))(σ:St)(tg:Expr)(R:It->Hp->Prop)(itv:Value)(s2:Shared):Prop :=
 ∃(it:Addr) (fp:List Addr) (tn:Nat->Heap->Prop) (J:It) (H':Hp),itv=.ref it/\ae X pins σ H' s2/\jQ X.prog X.w X.K tg J fp it tn/\tn 0 s2.heap/\(∀b ∈ fp,gT X pins H' b)/\R J H'
noncomputable def PI(X:Cx)(tg iter:Expr)(wi:TI):Prop :=
 ∀(pins:List (Addr × Obj)) (s:Shared) (σ:St) (H:Hp) (R:It->Hp->Prop),ae X pins σ H s->wi σ H R->
   wpAny (model X.prog X.w) X.A (eval iter X.env) (λv s1=>wpAny (model X.prog X.w) X.A (pyIter v) (xq X pins σ tg R) X.xe s1) X.xe s
theorem sE{M:Model}{A:Around}{E:Value->Shared->Prop}{s:Shared}{tg:Expr}{it:Addr}{u:Value}{o:Obj}{n:String}{vs:Array Value}{Q:Unit->Shared->Prop}(ho:s.heap.get? it=some o)(hc:o.cls=.type n)(hd:o.data=.fields vs)
 (hn:["enumerate", "zip", "dict_itemiterator", "dict_reverseitemiterator", "odict_iterator", "itertools.zip_longest", "itertools.pairwise"].contains n=false) (hQ:Q () s):wpAny M A (letOwnedTupleGo tg (.ref it) u) Q E s:=by
 unfold letOwnedTupleGo
 cases tg<;>first
  | exact wpAny_pure hQ
  | (cases u<;>first
   | exact wpAny_pure hQ
   | (refine wpAny_bind (wpAny_load ho ?_)
      rw [hc,hd]
      show wpAny M A (if (["enumerate", "zip", "dict_itemiterator", "dict_reverseitemiterator", "odict_iterator", "itertools.zip_longest", "itertools.pairwise"].contains n && vs[0]? == some (rawInt _))=true then _ else _) Q E s
      rw [if_neg (by intro h;rw [hn,yb] at h;cases h)]
      exact wpAny_pure hQ))
noncomputable def xP(K:Frag)(a:Addr):It :=
 ⟨λi H=>∃xs x,aD K H a xs/\xs[i]?=some x,λi H x H'=>H'=H/\∀xs,aD K H a xs->xs[i]?=some x,λi H=>∃xs,aD K H a xs/\xs.length<=i⟩
noncomputable def Cv(K:Frag)(a:Addr):It :=
 ⟨λi H=>∃xs x,aG K H a xs/\xs[i]?=some x,λi H x H'=>H'=H/\∀xs,aG K H a xs->xs[i]?=some x,λi H=>∃xs,aG K H a xs/\xs.length<=i⟩
noncomputable def kQ(lo:Int)(n:Nat):It:=⟨λi _=>i<n,λi H x H'=>H'=H/\x=.int (lo+i),λi _=>n<=i⟩
theorem DM{P:Program}{w:World}{K:Frag}{tg:Expr}(a it:Addr):jQ P w K tg (xP K a) [it] it (λi h=>h.IsListIter it a i) where
 mem:=by simp
 obj:=λi h st b hb=>by
  have e:b=it:=by simpa using hb
  subst e
  obtain⟨o,e,c,d⟩:=st
  exact⟨o,e,λv z=>by rw [d] at z;cases z⟩
 keep:=λi h h' st k=>st.at λo e=>k it (by simp) o e
 item:=by
  intro X hP hw hK hc i pins s σ H E I hf st hg
  subst hP hw hK
  obtain⟨xs,x,hq,hx⟩:=hg
  obtain⟨its,rv,p,hz⟩:=I.list hq
  obtain⟨u,hu,ru⟩:=rv.get hx
  obtain⟨f0,f1,f2,f3,f4,f5⟩:=hf it (by simp)
  refine wpAny_pyNext_list_item st p.isList (x:=u) (by simpa using hu) λh' st' sb=>?_
  have I1:ae X pins σ H { s with heap:=h' }:=I.turned (t':=s.toks) (λb o hb e=>(sb.2 b hb).trans e) f0 f1 f3 f4 f5
  obtain⟨o,e,c,d⟩:=id st'
  exact⟨u,rfl,sE (s:={ s with heap:=h' }) e c d (by decide) ⟨x,H,I1,ru,⟨rfl,λys hy=>by rw [I.list_inj hy hq];exact hx⟩,st',λb hb=>(hf b hb).1⟩⟩
 done:=by
  intro X hP hw hK hc i pins s σ H E I hf st hg
  subst hP hw hK
  obtain⟨xs,hq,hx⟩:=hg
  obtain⟨its,rv,p,hz⟩:=I.list hq
  obtain⟨f0,f1,f2,f3,f4,f5⟩:=hf it (by simp)
  have hl:=rv.length
  exact wpAny_pyNext_list_end (I.ok.hd hc) st p.isList (by simp;omega) λh' eb=>⟨rfl,I.turned (t':=s.toks) (λb o hb e=>eb b o hb e) f0 f1 f3 f4 f5⟩
 self:=λ_ _ _ _ _ st h=>wpAny_pyIter_listiter st h
theorem LK{P:Program}{w:World}{K:Frag}{tg:Expr}(a it:Addr):jQ P w K tg (Cv K a) [it] it (λi h=>h.IsTupleIter it a i) where
 mem:=by simp
 obj:=λi h st b hb=>by
  have e:b=it:=by simpa using hb
  subst e
  obtain⟨o,e,c,d⟩:=st
  exact⟨o,e,λv z=>by rw [d] at z;cases z⟩
 keep:=λi h h' st k=>st.at λo e=>k it (by simp) o e
 item:=by
  intro X hP hw hK hc i pins s σ H E I hf st hg
  subst hP hw hK
  obtain⟨xs,x,hq,hx⟩:=hg
  obtain⟨its,rv,p,hz⟩:=I.tuple hq
  obtain⟨u,hu,ru⟩:=rv.get hx
  obtain⟨f0,f1,f2,f3,f4,f5⟩:=hf it (by simp)
  refine wpAny_pyNext_tuple_item st (show s.heap.IsTuple a its.toArray from p) (x:=u) (by simpa using hu) λh' st' sb=>?_
  have I1:ae X pins σ H { s with heap:=h' }:=I.turned (t':=s.toks) (λb o hb e=>(sb.2 b hb).trans e) f0 f1 f3 f4 f5
  obtain⟨o,e,c,d⟩:=id st'
  exact⟨u,rfl,sE (s:={ s with heap:=h' }) e c d (by decide) ⟨x,H,I1,ru,⟨rfl,λys hy=>by rw [I.tuple_inj hy hq];exact hx⟩,st',λb hb=>(hf b hb).1⟩⟩
 done:=by
  intro X hP hw hK hc i pins s σ H E I hf st hg
  subst hP hw hK
  obtain⟨xs,hq,hx⟩:=hg
  obtain⟨its,rv,p,hz⟩:=I.tuple hq
  obtain⟨f0,f1,f2,f3,f4,f5⟩:=hf it (by simp)
  have hl:=rv.length
  exact wpAny_pyNext_tuple_end (I.ok.hd hc) st (show s.heap.IsTuple a its.toArray from p) (by simp;omega) λh' eb=>⟨rfl,I.turned (t':=s.toks) (λb o hb e=>eb b o hb e) f0 f1 f3 f4 f5⟩
 self:=λ_ _ _ _ _ st h=>wpAny_pyIter_tupleiter st h
theorem LM{P:Program}{w:World}{K:Frag}{tg:Expr}(it:Addr)(lo:Int)(n:Nat):jQ P w K tg (kQ lo n) [it] it (λi h=>IsRangeIter h it (lo+(i:Nat)*1) ((n:Int)-(i:Nat)) 1) where
 mem:=by simp
 obj:=λi h st b hb=>by
  have e:b=it:=by simpa using hb
  subst e
  exact⟨_,st,λv z=>by
   have z':Data.fields _=Data.cell v:=z
   cases z'⟩
 keep:=λi h h' st k=>k it (by simp) _ st
 item:=by
  intro X hP hw hK hc i pins s σ H E I hf st hg
  subst hP hw hK
  obtain⟨f0,f1,f2,f3,f4,f5⟩:=hf it (by simp)
  have W:=Walks.range (prog:=X.prog) (w:=X.w) (I.ok.hd hc) it lo 1 n
  refine W.item i s _ _ hg st λv h' tk hv st' kk=>?_
  obtain⟨t,rfl⟩:=hv
  have I1:ae X pins σ H { s with heap:=h',toks:=tk }:=I.turned (λb o hb e=>kk b o (by simpa using hb) e) f0 f1 f3 f4 f5
  refine⟨_,rfl,sE (s:={ s with heap:=h',toks:=tk }) (n := "range_iterator") st' rfl rfl (by decide) ⟨.int (lo+i),H,I1,⟨t,?_⟩,⟨rfl,rfl⟩,st',λb hb=>(hf b hb).1⟩⟩
  rw [qx]
 done:=by
  intro X hP hw hK hc i pins s σ H E I hf st hg
  subst hP hw hK
  obtain⟨f0,f1,f2,f3,f4,f5⟩:=hf it (by simp)
  exact wpAny_pyNext_range_end (I.ok.hd hc) st (by have:n<=i:=hg;omega) λh' eb=>⟨rfl,I.turned (t':=s.toks) (λb o hb e=>eb b o hb e) f0 f1 f3 f4 f5⟩
 self:=λ_ _ _ _ _ st h=>wpAny_pyIter_rangeiter st h
end L2
namespace L2
open PySem PySem.Spec PyProof.Rows
section
variable {X:Cx} {tg:Expr}
noncomputable def S8(K:Frag)(tl:TE):TI:=λσ H R=>tl σ H λx H1=>∃a,x=.ref a/\(∃xs,aD K H1 a xs)/\R (xP K a) H1
theorem AM{l:Expr}{tl:TE}(hl:PE X l tl):PI X tg l (S8 X.K tl):=by
 intro pins s σ H R I h
 refine av (hl pins s σ H _ I h) λv s1 ⟨x,H1,I1,r1,q1⟩=>?_
 obtain⟨a,e,⟨xs,hq⟩,q⟩:=q1
 subst e
 cases r1
 obtain⟨its,rv,p,hz⟩:=I1.list hq
 refine wpAny_pyIter_list p.isList ?_
 refine⟨s1.heap.objs.size,[s1.heap.objs.size],_,_,H1,rfl,I1.kept (t':=s1.toks) λb o e=>bP _ e,DM a _,⟨_,cM _ rfl,rfl,rfl⟩,λb hb=>?_,q⟩
 have e:b=s1.heap.objs.size:=by simpa using hb
 subst e
 exact I1.fpOk (aI _) (I1.hok.fresh (aI _))
theorem GH{pins:List (Addr × Obj)}{σ:St}{H:Hp}{s:Shared}{R:It->Hp->Prop}{E:Value->Shared->Prop}{lo hi:Int}{t u v:Tok}{tk:Nat}(I:ae X pins σ H s)(h1:-(2^62)<=lo)(h2:lo<2^62)(h3:-(2^62)<=hi)(h4:hi<2^62)
 (q:R (kQ lo (hi-lo).toNat) H):wpAny (model X.prog X.w) X.A (pyIter (.ref s.heap.objs.size)) (xq X pins σ tg R) E { s with heap:=s.heap.push { cls:=.type "range",data:=.fields #[.int lo t,.int hi u,.int 1 v] },toks:=tk }:=by
 refine wpAny_pyIter_range (IsRange.new ..) (small_one h1 h2 h3 h4) ?_
 have I1:ae X pins σ H { s with heap:=s.heap.push { cls:=.type "range",data:=.fields #[.int lo t,.int hi u,.int 1 v] },toks:=tk }:=I.kept λb o e=>bP _ e
 refine⟨(s.heap.push { cls:=.type "range",data:=.fields #[.int lo t,.int hi u,.int 1 v] }).objs.size,[(s.heap.push { cls:=.type "range",data:=.fields #[.int lo t,.int hi u,.int 1 v] }).objs.size],_,_,H,rfl,
  I1.kept (t':=tk) λb o e=>bP _ e,LM _ lo (hi-lo).toNat,?_,λb hb=>?_,q⟩
 ·have e1:lo+((0:Nat):Int)*1=lo:=by simp
  have e2:(((hi-lo).toNat:Nat):Int)-((0:Nat):Int)=Builtin.Range.rangeSize lo hi 1:=by rw [rangeSize_one];split<;>omega
  show IsRangeIter _ _ (lo+((0:Nat):Int)*1) ((((hi-lo).toNat:Nat):Int)-((0:Nat):Int)) 1
  rw [e1,e2]
  exact cM _ rfl
 ·have e:b=(s.heap.push { cls:=.type "range",data:=.fields #[.int lo t,.int hi u,.int 1 v] }).objs.size:=by simpa using hb
  subst e
  exact I1.fpOk (aI _) (I1.hok.fresh (aI _))
noncomputable def S7(ta:TA):TI:=λσ H R=>ta σ H λvs H1=>∃j:Int,vs=[.int j]/\-(2^62)<=j/\j<2^62/\R (kQ 0 j.toNat) H1
noncomputable def S6(ta:TA):TI:=λσ H R=>ta σ H λvs H1=>∃i j:Int,vs=[.int i,.int j]/\(-(2^62)<=i/\i<2^62/\-(2^62)<=j/\j<2^62)/\R (kQ i (j-i).toNat) H1
theorem ky{a:Expr}{ta:TA}{p pos:Pos}(hg:Gl X "range")(hm:X.mg "range" = none)(ha:PA X [a] ta)(hs:starEach [a] X.env=[(false,eval a X.env)]:=by rfl):PI X tg (.Call (.Name "range" p) [a] [] pos) (S7 ta):=by
 intro pins s σ H R I h
 refine Call_ (iR I hg hm boot_range (m8 (av (ha pos pins s σ H _ I h) λus s1 ⟨vs,H1,I1,r1,q1⟩=>?_) hs rfl))
 obtain⟨j,e,q1,q2,q⟩:=q1
 subst e
 cases r1 with
 | cons r rr =>
   cases rr
   obtain⟨t,rfl⟩:=r
   exact call_range_1 (GH I1 (by omega) (by omega) q1 q2 (by simpa using q))
theorem Oj{a b:Expr}{ta:TA}{p pos:Pos}(hg:Gl X "range")(hm:X.mg "range" = none)(ha:PA X [a,b] ta)(hs:starEach [a,b] X.env=[(false,eval a X.env),(false,eval b X.env)]:=by rfl)(hs2:starEach [b] X.env=[(false,eval b X.env)]:=by rfl):
 PI X tg (.Call (.Name "range" p) [a,b] [] pos) (S6 ta):=by
 intro pins s σ H R I h
 refine Call_ (iR I hg hm boot_range (m8 (av (ha pos pins s σ H _ I h) λus s1 ⟨vs,H1,I1,r1,q1⟩=>?_) (by rw [hs,hs2]) (by rw [hs2];rfl)))
 obtain⟨i,j,e,⟨q1,q2,q3,q4⟩,q⟩:=q1
 subst e
 cases r1 with
 | cons r rr =>
   cases rr with
   | cons r' rr =>
     cases rr
     obtain⟨t,rfl⟩:=r
     obtain⟨t',rfl⟩:=r'
     exact call_range_2 (GH I1 q1 q2 q3 q4 q)
noncomputable def Mc(wi:TI)(g:TG)(tb:TS):TS:=λD σ H=>wi σ H λJ H1=>∃W:Nat->Nat->St->Hp->Prop,(∃m,W 0 m σ H1)/\∀i m σ H,W i m σ H->
 (J.stop i H/\D.nx σ H)\/(J.go i H/\∃N:St->Hp->Prop,(∀σ' H',N σ' H'->∃m',m'<m/\W (i+1) m' σ' H')/\∀x H',J.yld i H x H'->g x σ H' λσ2 H2=>tb { D with nx:=N,ct:=N,bk:=D.nx } σ2 H2)
noncomputable def oT(fp:List Addr)(h:Heap):List (Addr × Obj):=fp.filterMap λb=>(h.get? b).map λo=>(b,o)
theorem Bq{fp:List Addr}{h:Heap}{b:Addr}{o:Obj}(hb:b ∈ fp)(e:h.get? b=some o):(b,o) ∈ oT fp h:=List.mem_filterMap.mpr ⟨b,hb,by rw [e];rfl⟩
theorem Qr{fp:List Addr}{h:Heap}{p:Addr × Obj}(hp:p ∈ oT fp h):p.1 ∈ fp/\h.get? p.1=some p.2:=by
 obtain⟨b,hb,e⟩:=List.mem_filterMap.mp hp
 cases q:h.get? b with
 | none=>rw [q] at e;cases e
 | some o =>
   rw [q] at e
   have e':(b,o)=p:=dS e
   subst e'
   exact⟨hb,q⟩
theorem ae.pinned{pins:List (Addr × Obj)}{σ:St}{H:Hp}{s:Shared}{fp:List Addr}(I:ae X pins σ H s)(hf:∀b ∈ fp,gT X pins H b)(ho:∀b ∈ fp,∃o,s.heap.get? b=some o/\∀v,o.data ≠ .cell v):ae X (pins++oT fp s.heap) σ H s :=
 I.pins_of λp hp=>(cD.mp hp).elim (λz=>I.pin p (gs _ z)) λz=>by
  obtain⟨hb,e⟩:=Qr z
  obtain⟨f0,f1,f2,_⟩:=hf p.1 hb
  obtain⟨o,e',d⟩:=ho p.1 hb
  rw [e] at e';cases e'
  exact⟨e,f0,f1,f2,d⟩
theorem ae.unpinned{pins pl:List (Addr × Obj)}{σ:St}{H:Hp}{s:Shared}(I:ae X (pins++pl) σ H s):ae X pins σ H s:=I.pins_of λp hp=>I.pin p (gs _ (i8 _ hp))
theorem cW{iter:Expr}{body:List Stmt}{wi:TI}{g:TG}{tb:TS}{pos:Pos}(hp:PassesOwn (model X.prog X.w) X.A X.env X.xe)(hc:X.calm=true)(hi:PI X tg iter wi)(hg:PG X tg g)(hb:eJ X body tb)
 (hs:∀x,foldedSetIterable iter X.env x=pure x:=by intro _;rfl):PS X (.For tg iter body [] pos) (Mc wi g tb):=by
 intro pins s σ H D I h
 refine wpAny_For (av (hi pins s σ H _ I h) λv s1 h1=>av h1 λitv s2 h2=>?_) hs
 obtain⟨it,fp,tn,J,H2,e,I2,T,st2,f2,W,⟨m0,w0⟩,turn⟩:=h2
 subst e
 have stat:∀{H':Hp},(∀b ∈ fp,H' b=none)->∀b ∈ fp,gT X pins H' b:=λhn b hb=>⟨hn b hb,(f2 b hb).2⟩
 refine codeAny_forLoop_any (λn s'=>∃i σ' H',ae X pins σ' H' s'/\tn i s'.heap/\(∀b ∈ fp,H' b=none)/\W i n σ' H') ?_ m0 ⟨0,σ,H2,I2,st2,λb hb=>(f2 b hb).1,w0⟩
 rintro n s3 ⟨i,σ3,H3,I3,st3,fr3,w3⟩
 rcases turn i n σ3 H3 w3 with⟨stop,qn⟩ | ⟨go,N,hN,step⟩
 ·refine wpAny_passesOwn hp (av (T.done X rfl rfl rfl hc i pins s3 σ3 H3 X.xe I3 (stat fr3) st3 stop) λr s4 ⟨hr,I4⟩=>?_)
  subst hr
  exact wpAny_execs_nil ⟨σ3,H3,I4,qn⟩
 ·refine wpAny_passesOwn hp (av (T.item X rfl rfl rfl hc i pins s3 σ3 H3 X.xe I3 (stat fr3) st3 go) λr s4 ⟨u,hr,h4⟩=>?_)
  subst hr
  refine wpAny_passesOwn hp (av h4 λ_ s5 ⟨x,H5,I5,r5,y5,st5,fr5⟩=>?_)
  have I5':=I5.pinned (stat fr5) (T.obj _ _ st5)
  refine wpAny_passesOwn hp (av (hg _ s5 σ3 H5 x u _ I5' r5 (step x H5 y5)) λ_ s6 ⟨σ6,H6,I6,q6⟩=>?_)
  refine wpAny_passesOwn hp (av (hb _ s6 σ6 H6 _ I6 q6) λf s7 q7=>?_)
  have again:∀{σ7:St} {H7:Hp},ae X (pins++oT fp s5.heap) σ7 H7 s7->N σ7 H7->∃m,m<n/\∃i σ' H',ae X pins σ' H' s7/\tn i s7.heap/\(∀b ∈ fp,H' b=none)/\W i m σ' H':=λ {σ7 H7} I7 n7=>by
   obtain⟨m',hm,w7⟩:=hN σ7 H7 n7
   refine⟨m',hm,i+1,σ7,H7,I7.unpinned,T.keep _ _ _ st5 λb hb o e=>(I7.pin (b,o) (gs _ (gs _ (Bq hb e)))).1,λb hb=>?_,w7⟩
   obtain⟨o,e,d⟩:=T.obj _ _ st5 b hb
   exact(I7.pin (b,o) (gs _ (gs _ (Bq hb e)))).2.1
  cases f with
  | next=>obtain⟨σ7,H7,I7,n7⟩:=q7;exact again I7 n7
  | cont=>obtain⟨σ7,H7,I7,n7⟩:=q7;exact again I7 n7
  | brk=>obtain⟨σ7,H7,I7,q7⟩:=q7;exact⟨σ7,H7,I7.unpinned,q7⟩
  | ret v=>obtain⟨x7,σ7,H7,I7,r7,q7⟩:=q7;exact⟨x7,σ7,H7,I7.unpinned,r7,q7⟩
end
theorem kI{lo:Int}{n:Nat}{g:TG}{tb:TS}{D:ie}{σ:St}{H:Hp}(Pv:Nat->St->Hp->Prop)(h0:Pv 0 σ H)
 (hs:∀i σ H,i<n->Pv i σ H->g (.int (lo+i)) σ H λσ2 H2=>tb { D with nx:=Pv (i+1),ct:=Pv (i+1),bk:=D.nx } σ2 H2) (hd:∀σ H,Pv n σ H->D.nx σ H):
 ∃W:Nat->Nat->St->Hp->Prop,(∃m,W 0 m σ H)/\∀i m σ H,W i m σ H->
   ((kQ lo n).stop i H/\D.nx σ H)\/((kQ lo n).go i H/\∃N:St->Hp->Prop,(∀σ' H',N σ' H'->∃m',m'<m/\W (i+1) m' σ' H')/\∀x H',(kQ lo n).yld i H x H'->g x σ H' λσ2 H2=>tb { D with nx:=N,ct:=N,bk:=D.nx } σ2 H2):=by
 refine⟨λi m σ H=>m=n-i/\i<=n/\Pv i σ H,⟨n,by simp,cU _,h0⟩,?_⟩
 rintro i m σ H ⟨rfl,hi,p⟩
 by_cases hlt:i<n
 ·refine .inr ⟨hlt,Pv (i+1),λσ' H' p'=>⟨n-(i+1),by omega,rfl,hlt,p'⟩,λx H' y=>?_⟩
  obtain⟨e,y⟩:=y
  subst e y
  exact hs i σ _ hlt p
 ·have e:i=n:=by omega
  subst e
  exact .inl ⟨aI _,hd σ H p⟩
theorem yh{c:TT}{tb:TS}{D:ie}{σ:St}{H:Hp}(Pv:St->Hp->Prop)(μ:St->Hp->Nat)(h0:Pv σ H)
 (hs:∀σ H,Pv σ H->c σ H λb H1=>if b=true then tb { D with nx:=λσ' H'=>Pv σ' H'/\μ σ' H'<μ σ H,ct:=λσ' H'=>Pv σ' H'/\μ σ' H'<μ σ H,bk:=D.nx } σ H1 else D.nx σ H1)
 (mono:∀σ H Q Q',(∀b H1,Q b H1->Q' b H1)->c σ H Q->c σ H Q'):DR c tb D σ H:=by
 refine⟨λm σ H=>m=μ σ H/\Pv σ H,⟨_,rfl,h0⟩,?_⟩
 rintro m σ H ⟨rfl,p⟩
 refine mono σ H _ _ (λb H1 q=>?_) (hs σ H p)
 cases b with
 | true=>exact⟨_,λσ' H' ⟨p',l⟩=>⟨_,l,rfl,p'⟩,q⟩
 | false=>exact q
end L2
namespace L2
open PySem PySem.Spec PyProof.Rows
abbrev R2:=V->V->Hp->VK->Prop
noncomputable def bw(X:Cx)(f:Value->Value->Sem Value)(r:R2):Prop :=
 ∀(pins:List (Addr × Obj)) (s:Shared) (σ:St) (H:Hp) (x y:V) (v u:Value) (Q:VK),ae X pins σ H s->aL x v->aL y u->r x y H Q->
   wpAny (model X.prog X.w) X.A (f v u) (EP X pins σ Q) X.xe s
noncomputable def Ca(X:Cx)(f:Value->Sem Value)(r:V->Hp->VK->Prop):Prop :=
 ∀(pins:List (Addr × Obj)) (s:Shared) (σ:St) (H:Hp) (x:V) (v:Value) (Q:VK),ae X pins σ H s->aL x v->r x H Q->
   wpAny (model X.prog X.w) X.A (f v) (EP X pins σ Q) X.xe s
noncomputable def dO(X:Cx)(f:Value)(r:List V->Hp->VK->Prop):Prop :=
 ∀(pins:List (Addr × Obj)) (s:Shared) (σ:St) (H:Hp) (xs:List V) (us:List Value) (Q:VK),ae X pins σ H s->aB xs us->r xs H Q->
   wpAny (model X.prog X.w) X.A (call f us) (EP X pins σ Q) X.xe s
noncomputable def iM(r:R2)(ta tb:TE):TE:=λσ H Q=>ta σ H λx H1=>tb σ H1 λy H2=>r x y H2 Q
noncomputable def LR(r:V->Hp->VK->Prop)(ta:TE):TE:=λσ H Q=>ta σ H λx H1=>r x H1 Q
inductive rI(C:Int->Int->Prop)(g:Int->Int->V)(x y:V)(H:Hp)(Q:VK):Prop where
 | mk (i j:Int) (_:x=.int i) (_:y=.int j) (_:C i j) (_:Q (g i j) H):rI C g x y H Q
inductive iN(g:Int->Int->V)(x y:V)(H:Hp)(Q:VK):Prop where
 | mk (i j:Int) (_:x=.int i) (_:y=.int j) (_:Q (g i j) H):iN g x y H Q
noncomputable def rU(g:Int->V):V->Hp->VK->Prop:=λx H Q=>∃i,x=.int i/\Q (g i) H
section
variable {X:Cx} {a b c:Expr} {ta tb tc:TE} {pos:Pos}
theorem C8(ha:PE X a ta)(hb:PE X b tb){pins:List (Addr × Obj)}{s:Shared}{σ:St}{H:Hp}{R:V->V->Hp->Prop}(I:ae X pins σ H s)
 (h:ta σ H λx H1=>tb σ H1 λy H2=>R x y H2) {Q:Value->Shared->Prop} {f:Value->Value->Sem Value}
 (hf:∀v u s2 x y H2,ae X pins σ H2 s2->aL x v->aL y u->R x y H2->wpAny (model X.prog X.w) X.A (f v u) Q X.xe s2):
 wpAny (model X.prog X.w) X.A (eval a X.env) (λv s₁=>wpAny (model X.prog X.w) X.A (eval b X.env) (λu s₂=>wpAny (model X.prog X.w) X.A (f v u) Q X.xe s₂) X.xe s₁) X.xe s:=by
 refine av (ha pins s σ H _ I h) λv s1 ⟨x,H1,I1,r1,q1⟩=>?_
 refine av (hb pins s1 σ H1 _ I1 q1) λu s2 ⟨y,H2,I2,r2,q2⟩=>?_
 exact hf v u s2 x y H2 I2 r1 r2 q2
theorem ao{op:Operator}{r:R2}(ho:bw X (binaryOp op) r)(ha:PE X a ta)(hb:PE X b tb):PE X (.BinOp a op b pos) (iM r ta tb):=by
 intro pins s σ H Q I h
 exact wpAny_BinOp (C8 ha hb I h λv u s2 x y H2 I2 rx ry q=>ho pins s2 σ H2 x y v u Q I2 rx ry q)
theorem iP{op:UnaryOp}{r:V->Hp->VK->Prop}(ho:Ca X (unaryOp op) r)(ha:PE X a ta):PE X (.UnaryOp op a pos) (LR r ta):=by
 intro pins s σ H Q I h
 exact UnaryOp_ (av (ha pins s σ H _ I h) λv s1 ⟨x,H1,I1,r1,q1⟩=>ho pins s1 σ H1 x v Q I1 r1 q1)
theorem rN{f:Value->Value->Sem Value}{C:Int->Int->Prop}{g:Int->Int->Int}
 (rule:∀(i j:Int) (t u:Tok) (s:Shared) (Q:Value->Shared->Prop) (E:Value->Shared->Prop),C i j->Q (.int (g i j) s.toks) { s with toks:=s.toks+1 }->wpAny (model X.prog X.w) X.A (f (.int i t) (.int j u)) Q E s):
 bw X f (rI C λi j=>.int (g i j)):=by
 intro pins s σ H x y v u Q I rx ry h
 obtain⟨i,j,rfl,rfl,hc,q⟩:=h
 obtain⟨t,rfl⟩:=rx
 obtain⟨t',rfl⟩:=ry
 exact rule i j t t' s _ _ hc ⟨.int (g i j),H,I.tok _,⟨_,rfl⟩,q⟩
theorem AY{f:Value->Value->Sem Value}{g:Int->Int->Int}
 (rule:∀(i j:Int) (t u:Tok) (s:Shared) (Q:Value->Shared->Prop) (E:Value->Shared->Prop),Q (.int (g i j) s.toks) { s with toks:=s.toks+1 }->wpAny (model X.prog X.w) X.A (f (.int i t) (.int j u)) Q E s):
 bw X f (iN λi j=>.int (g i j)):=by
 intro pins s σ H x y v u Q I rx ry h
 obtain⟨i,j,rfl,rfl,q⟩:=h
 obtain⟨t,rfl⟩:=rx
 obtain⟨t',rfl⟩:=ry
 exact rule i j t t' s _ _ ⟨.int (g i j),H,I.tok _,⟨_,rfl⟩,q⟩
theorem AZ{f:Value->Value->Sem Value}{g:Int->Int->Bool}
 (rule:∀(i j:Int) (t u:Tok) (s:Shared) (Q:Value->Shared->Prop) (E:Value->Shared->Prop),Q (.bool (g i j)) s->wpAny (model X.prog X.w) X.A (f (.int i t) (.int j u)) Q E s):
 bw X f (iN λi j=>.bl (g i j)):=by
 intro pins s σ H x y v u Q I rx ry h
 obtain⟨i,j,rfl,rfl,q⟩:=h
 obtain⟨t,rfl⟩:=rx
 obtain⟨t',rfl⟩:=ry
 exact rule i j t t' s _ _ ⟨.bl (g i j),H,I,rfl,q⟩
noncomputable def Dg(i j:Int):Prop:=(-(2^64)<i/\i<2^64)\/(-(2^64)<j/\j<2^64)
theorem Dg.ok{i j:Int}(h:Dg i j):IntMulOk i j:=by
 rcases h with⟨h1,h2⟩ | ⟨h1,h2⟩
 ·exact .of_left (intBits_le_64 h1 h2)
 ·exact .of_right (intBits_le_64 h1 h2)
theorem Pf:bw X (binaryOp .Add) (iN λi j=>.int (i+j)):=AY λ_ _ _ _ _ _ _ q=>add_int q
theorem lq:bw X (binaryOp .Sub) (iN λi j=>.int (i-j)):=AY λ_ _ _ _ _ _ _ q=>sub_int q
theorem dP:bw X (binaryOp .Mod) (rI (λ_ j=>0<j) λi j=>.int (i % j)):=rN λi j _ _ _ _ _ hc q=>by
 have h1:(0:Int)<j:=hc
 exact mod_int' (by omega) (by rw [Int.fmod_eq_emod_of_nonneg i (by omega)];exact q)
theorem LD{f:Value->Sem Value}{g:Int->Int}
 (rule:∀(i:Int) (t:Tok) (s:Shared) (Q:Value->Shared->Prop) (E:Value->Shared->Prop),Q (.int (g i) s.toks) { s with toks:=s.toks+1 }->wpAny (model X.prog X.w) X.A (f (.int i t)) Q E s):
 Ca X f (rU λi=>.int (g i)):=by
 intro pins s σ H x v Q I rx h
 obtain⟨i,rfl,q⟩:=h
 obtain⟨t,rfl⟩:=rx
 exact rule i t s _ _ ⟨.int (g i),H,I.tok _,⟨_,rfl⟩,q⟩
theorem iL:Ca X (unaryOp .USub) (rU λi=>.int (-i)):=LD λ_ _ _ _ _ q=>neg_int q
end
noncomputable def Gj:V->V->Bool
 | .non,.non=>true | .non,.int _=>true | .int _,.non=>true | .non,.bl _=>true | .bl _,.non=>true | .non,.str _=>true | .str _,.non=>true
 | .int _,.int _=>true | .bl _,.bl _=>true | .str _,.str _=>true | .byt _,.byt _=>true
 | .int _,.str _=>true | .str _,.int _=>true | .bl _,.str _=>true | .str _,.bl _=>true
 | _,_=>false
inductive GZ(x y:V)(H:Hp)(Q:VK):Prop where
 | mk (_:Gj x y=true) (_:Q (.bl (decide (x=y))) H):GZ x y H Q
inductive GP(x y:V)(H:Hp)(Q:VK):Prop where
 | mk (_:Gj x y=true) (_:Q (.bl (!decide (x=y))) H):GP x y H Q
theorem Jr{i j:Int}:decide (V.int i=V.int j)=(i == j):=by
 rw [oj]
 simp
theorem Jt{i j:Bool}:decide (V.bl i=V.bl j)=(i == j):=by
 rw [oj]
 simp
theorem Jq{i j:Str}:decide (V.str i=V.str j)=(i == j):=by
 rw [oj]
 simp
theorem Js{i j:Array UInt8}:decide (V.byt i=V.byt j)=(i.toList == j.toList):=by
 rw [oj]
 cases i
 cases j
 simp
section
variable {X:Cx} {a b c:Expr} {ta tb tc:TE} {pos:Pos}
theorem cH{pins:List (Addr × Obj)}{σ:St}{H:Hp}{s:Shared}{Q:VK}{k k':Bool}(I:ae X pins σ H s)(q:Q (.bl k) H)(e:k=k'):EP X pins σ Q (.bool k') s:=by
 subst e
 exact⟨.bl k,H,I,rfl,q⟩
theorem Pa:bw X (compareOp .Eq) GZ:=by
 intro pins s σ H x y v u Q I rx ry h
 obtain⟨hs,q⟩:=h
 cases x with
 | non =>
   cases rx
   cases y with
   | non=>cases ry;exact PySem.EqNone.eq_none_none (cH I q (by simp))
   | bl j=>cases ry;exact PySem.EqNone.eq_none_bool (cH I q (by simp))
   | int j=>obtain⟨t',rfl⟩:=ry;exact PySem.EqNone.eq_none_int (cH I q (by simp))
   | str j=>obtain⟨t',rfl⟩:=ry;exact PySem.EqNone.eq_none_str (cH I q (by simp))
   | _=>exact absurd (show false=true from hs) cz
 | bl i =>
   cases rx
   cases y with
   | non=>cases ry;exact PySem.EqNone.eq_bool_none (cH I q (by simp))
   | bl j=>cases ry;exact eq_bool (cH I q Jt)
   | str j=>obtain⟨t',rfl⟩:=ry;exact PySem.EqMixed.eq_bool_str (cH I q (by simp))
   | _=>exact absurd (show false=true from hs) cz
 | int i =>
   obtain⟨t,rfl⟩:=rx
   cases y with
   | non=>cases ry;exact PySem.EqNone.eq_int_none (cH I q (by simp))
   | int j=>obtain⟨t',rfl⟩:=ry;exact eq_int (cH I q Jr)
   | str j=>obtain⟨t',rfl⟩:=ry;exact PySem.EqMixed.eq_int_str (cH I q (by simp))
   | _=>exact absurd (show false=true from hs) cz
 | str i =>
   obtain⟨t,rfl⟩:=rx
   cases y with
   | non=>cases ry;exact PySem.EqNone.eq_str_none (cH I q (by simp))
   | bl j=>cases ry;exact PySem.EqMixed.eq_str_bool (cH I q (by simp))
   | int j=>obtain⟨t',rfl⟩:=ry;exact PySem.EqMixed.eq_str_int (cH I q (by simp))
   | str j=>obtain⟨t',rfl⟩:=ry;exact eq_str (cH I q Jq)
   | _=>exact absurd (show false=true from hs) cz
 | byt i =>
   obtain⟨t,rfl⟩:=rx
   cases y with
   | byt j=>obtain⟨t',rfl⟩:=ry;exact PySem.W.eq_bytes (cH I q Js)
   | _=>exact absurd (show false=true from hs) cz
 | _=>cases y<;>exact absurd (show false=true from hs) cz
theorem OU:bw X (compareOp .NotEq) GP:=by
 intro pins s σ H x y v u Q I rx ry h
 obtain⟨hs,q⟩:=h
 cases x with
 | non =>
   cases rx
   cases y with
   | non=>cases ry;exact PySem.EqNone.ne_none_none (cH I q (by simp))
   | bl j=>cases ry;exact PySem.EqNone.ne_none_bool (cH I q (by simp))
   | int j=>obtain⟨t',rfl⟩:=ry;exact PySem.EqNone.ne_none_int (cH I q (by simp))
   | str j=>obtain⟨t',rfl⟩:=ry;exact PySem.EqNone.ne_none_str (cH I q (by simp))
   | _=>exact absurd (show false=true from hs) cz
 | bl i =>
   cases rx
   cases y with
   | non=>cases ry;exact PySem.EqNone.ne_bool_none (cH I q (by simp))
   | bl j=>cases ry;exact ne_bool (cH I q (congrArg not Jt))
   | str j=>obtain⟨t',rfl⟩:=ry;exact PySem.EqMixed.ne_bool_str (cH I q (by simp))
   | _=>exact absurd (show false=true from hs) cz
 | int i =>
   obtain⟨t,rfl⟩:=rx
   cases y with
   | non=>cases ry;exact PySem.EqNone.ne_int_none (cH I q (by simp))
   | int j=>obtain⟨t',rfl⟩:=ry;exact ne_int (cH I q (congrArg not Jr))
   | str j=>obtain⟨t',rfl⟩:=ry;exact PySem.EqMixed.ne_int_str (cH I q (by simp))
   | _=>exact absurd (show false=true from hs) cz
 | str i =>
   obtain⟨t,rfl⟩:=rx
   cases y with
   | non=>cases ry;exact PySem.EqNone.ne_str_none (cH I q (by simp))
   | bl j=>cases ry;exact PySem.EqMixed.ne_str_bool (cH I q (by simp))
   | int j=>obtain⟨t',rfl⟩:=ry;exact PySem.EqMixed.ne_str_int (cH I q (by simp))
   | str j=>obtain⟨t',rfl⟩:=ry;exact ne_str (cH I q (congrArg not Jq))
   | _=>exact absurd (show false=true from hs) cz
 | byt i =>
   obtain⟨t,rfl⟩:=rx
   cases y with
   | byt j=>obtain⟨t',rfl⟩:=ry;exact PySem.W.ne_bytes (cH I q (congrArg not Js))
   | _=>exact absurd (show false=true from hs) cz
 | _=>cases y<;>exact absurd (show false=true from hs) cz
theorem OX:bw X (compareOp .Lt) (iN λi j=>.bl (decide (i<j))):=AZ λ_ _ _ _ _ _ _ q=>lt_int q
theorem OZ:bw X (compareOp .LtE) (iN λi j=>.bl (decide (i<=j))):=AZ λ_ _ _ _ _ _ _ q=>le_int q
theorem oU:bw X (compareOp .Gt) (iN λi j=>.bl (decide (j<i))):=AZ λ_ _ _ _ _ _ _ q=>gt_int q
theorem OW:bw X (compareOp .Lt) (λx y H Q=>∃i j,x=.str i/\y=.str j/\Q (.bl (decide (i.cps.toList<j.cps.toList))) H):=by
 intro pins s σ H x y v u Q I rx ry h
 obtain⟨i,j,rfl,rfl,q⟩:=h
 obtain⟨t,rfl⟩:=rx
 obtain⟨t',rfl⟩:=ry
 exact lt_str (cH I q rfl)
theorem P4:bw X (compareOp .In) (λx y H Q=>∃i j,x=.str i/\y=.str j/\Q (.bl (!(Builtin.Str.occurrences j i 0 j.length 1).isEmpty)) H):=by
 intro pins s σ H x y v u Q I rx ry h
 obtain⟨i,j,rfl,rfl,q⟩:=h
 obtain⟨t,rfl⟩:=rx
 obtain⟨t',rfl⟩:=ry
 exact in_str (cH I q rfl)
theorem bw.or{f:Value->Value->Sem Value}{r r':R2}(h:bw X f r)(h':bw X f r'):bw X f (λx y H Q=>r x y H Q\/r' x y H Q):=by
 intro pins s σ H x y v u Q I rx ry q
 rcases q with q | q
 ·exact h pins s σ H x y v u Q I rx ry q
 ·exact h' pins s σ H x y v u Q I rx ry q
theorem Ib(b:Expr){op:CmpOp}(h:op ≠ .In:=by decide)(h2:op ≠ .NotIn:=by decide):behindInMarks op b=false:=by
 have e1:(op == CmpOp.In)=false:=by cases op<;>first | rfl | exact absurd rfl h
 have e2:(op == CmpOp.NotIn)=false:=by cases op<;>first | rfl | exact absurd rfl h2
 cases b<;>simp [behindInMarks,e1,e2]
theorem mV{op:CmpOp}{r:R2}(ho:bw X (compareOp op) r)(ha:PE X a ta)(hb:PE X b tb)(hm:behindInMarks op b=false):PE X (.Compare a [op] [b] pos) (iM r ta tb):=by
 intro pins s σ H Q I h
 exact wpAny_Compare1 (C8 ha hb I h λv u s2 x y H2 I2 rx ry q=>ho pins s2 σ H2 x y v u Q I2 rx ry q) hm
noncomputable def oz(t:TE):TT:=λσ H Q=>t σ H λx H'=>Di x H' Q
theorem AG{op:CmpOp}{r:R2}(ho:bw X (compareOp op) r)(ha:PE X a ta)(hb:PE X b tb)(hm:behindInMarks op b=false):PT X (.Compare a [op] [b] pos) (oz (iM r ta tb)):=by
 intro pins s σ H Q I h
 refine wpAny_isTrue_Compare1 (av (ha pins s σ H _ I h) λv s1 ⟨x,H1,I1,r1,q1⟩=>av (hb pins s1 σ H1 _ I1 q1) λu s2 ⟨y,H2,I2,r2,q2⟩ =>
  av (ho pins s2 σ H2 x y v u _ I2 r1 r2 q2) λc s3 ⟨z,H3,I3,r3,k,e,q3⟩=>?_) hm
 subst e
 cases r3
 exact wpAny_truthy_bool ⟨H3,I3,q3⟩
noncomputable def DW(r r':R2)(ta tb tc:TE):TE:=λσ H Q=>ta σ H λx H1=>tb σ H1 λy H2=>r x y H2 λz H3=>∃k,z=.bl k/\
 (if k=true then tc σ H3 λw' H4=>r' y w' H4 Q else Q (.bl false) H3)
theorem AS{op op':CmpOp}{r r':R2}(ho:bw X (compareOp op) r)(ho':bw X (compareOp op') r')(ha:PE X a ta)(hb:PE X b tb)(hc:PE X c tc)
 (hm:lastMarks [op,op'] [b,c]=false:=by with_unfolding_all rfl):PE X (.Compare a [op,op'] [b,c] pos) (DW r r' ta tb tc):=by
 intro pins s σ H Q I h
 refine Compare_chain (av (ha pins s σ H _ I h) λv s1 ⟨x,H1,I1,r1,q1⟩=>chain_link (av (hb pins s1 σ H1 _ I1 q1) λu s2 ⟨y,H2,I2,r2,q2⟩ =>
  av (ho pins s2 σ H2 x y v u _ I2 r1 r2 q2) λd s3 ⟨z,H3,I3,r3,k,e,q3⟩=>?_)) hm
 subst e
 cases r3
 refine wpAny_truthy_bool ?_
 cases k with
 | false=>exact ite_ff ⟨.bl false,H3,I3,rfl,q3⟩
 | true=>exact ite_tt (chain_last (av (hc pins s3 σ H3 _ I3 q3) λw' s4 ⟨z',H4,I4,r4,q4⟩=>ho' pins s4 σ H4 y z' u w' Q I4 r2 r4 q4))
theorem AH{op op':CmpOp}{r r':R2}(ho:bw X (compareOp op) r)(ho':bw X (compareOp op') r')(ha:PE X a ta)(hb:PE X b tb)(hc:PE X c tc)
 (hm:lastMarks [op,op'] [b,c]=false:=by with_unfolding_all rfl):PT X (.Compare a [op,op'] [b,c] pos) (oz (DW r r' ta tb tc)):=by
 intro pins s σ H Q I h
 refine isTrue_chain (av (ha pins s σ H _ I h) λv s1 ⟨x,H1,I1,r1,q1⟩=>test_link (av (hb pins s1 σ H1 _ I1 q1) λu s2 ⟨y,H2,I2,r2,q2⟩ =>
  av (ho pins s2 σ H2 x y v u _ I2 r1 r2 q2) λd s3 ⟨z,H3,I3,r3,k,e,q3⟩=>?_)) hm
 subst e
 cases r3
 refine wpAny_truthy_bool ?_
 cases k with
 | false =>
   obtain⟨k',e',q'⟩:=q3
   cases e'
   exact ite_ff ⟨H3,I3,q'⟩
 | true =>
   refine ite_tt (test_last (av (hc pins s3 σ H3 _ I3 q3) λw' s4 ⟨z',H4,I4,r4,q4⟩=>av (ho' pins s4 σ H4 y z' u w' _ I4 r2 r4 q4) λd' s5 ⟨z2,H5,I5,r5,k2,e2,q5⟩=>?_))
   subst e2
   cases r5
   exact wpAny_truthy_bool ⟨H5,I5,q5⟩
theorem n9:(sizeLine:Nat)<2^63:=by rw [sizeLine_eq];decide
theorem Pe:bw X (binaryOp .Add) (λx y H Q=>∃i j,x=.str i/\y=.str j/\i.length+j.length<=sizeLine/\Q (.str (i++j)) H):=by
 intro pins s σ H x y v u Q I rx ry h
 obtain⟨i,j,rfl,rfl,hz,q⟩:=h
 obtain⟨t,rfl⟩:=rx
 obtain⟨t',rfl⟩:=ry
 exact add_str (λt' tk=>⟨.str (i++j),H,I.tok _,⟨_,rfl⟩,q⟩) hz
theorem RX:bw X (inplaceOp .Add) (λx y H Q=>∃i j,x=.str i/\y=.str j/\i.length+j.length<=sizeLine/\Q (.str (i++j)) H):=by
 intro pins s σ H x y v u Q I rx ry h
 obtain⟨i,j,rfl,rfl,hz,q⟩:=h
 obtain⟨t,rfl⟩:=rx
 obtain⟨t',rfl⟩:=ry
 exact iadd_str (λt' tk=>⟨.str (i++j),H,I.tok _,⟨_,rfl⟩,q⟩) hz
theorem eX{x:V}{us:List Value}(r:aB [x] us):∃u,us=[u]/\aL x u:=by
 cases r with
 | cons r1 r2=>cases r2;exact⟨_,rfl,r1⟩
theorem qO{x y:V}{us:List Value}(r:aB [x,y] us):∃u w',us=[u,w']/\aL x u/\aL y w':=by
 cases r with
 | cons r1 r2 =>
   cases r2 with
   | cons r3 r4=>cases r4;exact⟨_,_,rfl,r1,r3⟩
theorem JG:dO X (.builtin "abs") (λxs H Q=>∃i,xs=[.int i]/\Q (.int (if i<0 then -i else i)) H):=by
 intro pins s σ H xs us Q I r h
 obtain⟨i,rfl,q⟩:=h
 obtain⟨u,rfl,t,rfl⟩:=eX r
 exact call_abs_int λu tk=>⟨.int (if i<0 then -i else i),H,I.tok _,⟨_,rfl⟩,q⟩
theorem TJ(hc:X.calm=true):dO X (.builtin "max") (λxs H Q=>∃i j,xs=[.int i,.int j]/\Q (.int (if j>i then j else i)) H):=by
 intro pins s σ H xs us Q I r h
 obtain⟨i,j,rfl,q⟩:=h
 obtain⟨u,w',rfl,⟨t,rfl⟩,⟨t',rfl⟩⟩:=qO r
 refine max_two_ints (I.ok.hd hc) λh' tk k=>⟨_,H,I.kept k,?_,q⟩
 by_cases hj:j>i
 ·rw [if_pos hj,if_pos hj];exact⟨_,rfl⟩
 ·rw [if_neg hj,if_neg hj];exact⟨_,rfl⟩
theorem TH(hc:X.calm=true):dO X (.builtin "min") (λxs H Q=>∃i j,xs=[.int i,.int j]/\Q (.int (if j<i then j else i)) H):=by
 intro pins s σ H xs us Q I r h
 obtain⟨i,j,rfl,q⟩:=h
 obtain⟨u,w',rfl,⟨t,rfl⟩,⟨t',rfl⟩⟩:=qO r
 refine min_two_ints (I.ok.hd hc) λh' tk k=>⟨_,H,I.kept k,?_,q⟩
 by_cases hj:j<i
 ·rw [if_pos hj,if_pos hj];exact⟨_,rfl⟩
 ·rw [if_neg hj,if_neg hj];exact⟨_,rfl⟩
theorem TB:dO X (.type "str") (λxs H Q=>∃i,xs=[.int i]/\i.natAbs.log2<1920/\Q (.str (toString i)) H):=by
 intro pins s σ H xs us Q I r h
 obtain⟨i,rfl,hz,q⟩:=h
 obtain⟨u,rfl,t,rfl⟩:=eX r
 exact PySem.P.str_of_int hz ⟨.str _,H,I.tok _,⟨_,rfl⟩,q⟩
theorem JE:dO X (.builtin "ord") (λxs H Q=>∃x,xs=[.str x]/\x.length=1/\Q (.int (x.cps.getD 0 0:Nat)) H):=by
 intro pins s σ H xs us Q I r h
 obtain⟨x,rfl,hz,q⟩:=h
 obtain⟨u,rfl,t,rfl⟩:=eX r
 exact ord_of_one hz ⟨.int _,H,I.tok _,⟨_,rfl⟩,q⟩
noncomputable def Cu(K:Frag)(x:V)(H:Hp)(n:Nat):Prop :=
 match x with
 | .str y=>y.length<=sizeLine/\n=y.length
 | .byt y=>y.size<=sizeLine/\n=y.size
 | .ref p=>(∃xs,aD K H p xs/\n=xs.length)\/∃xs,aG K H p xs/\n=xs.length
 | _=>False
theorem TL:dO X (.builtin "len") (λxs H Q=>∃x n,xs=[x]/\Cu X.K x H n/\Q (.int n) H):=by
 intro pins s σ H xs us Q I r h
 obtain⟨x,n,rfl,e,q⟩:=h
 obtain⟨u,rfl,rx⟩:=eX r
 have hl:=n9
 have hs:sizeLine=16777216:=sizeLine_eq
 cases x with
 | str y =>
   obtain⟨t,rfl⟩:=rx
   obtain⟨hy,e'⟩:y.length<=sizeLine/\n=y.length:=e
   subst e'
   exact len_str (by omega) ⟨.int _,H,I.tok _,⟨_,rfl⟩,q⟩
 | byt y =>
   obtain⟨t,rfl⟩:=rx
   obtain⟨hy,e'⟩:y.size<=sizeLine/\n=y.size:=e
   subst e'
   exact PySem.W.len_bytes (by omega) ⟨.int _,H,I.tok _,⟨_,rfl⟩,q⟩
 | ref p =>
   cases rx
   have e':(∃xs,aD X.K H p xs/\n=xs.length)\/∃xs,aG X.K H p xs/\n=xs.length:=e
   rcases e' with⟨xs,hx,e'⟩ | ⟨xs,hx,e'⟩
   ·subst e'
    obtain⟨its,r',pl,hz⟩:=I.list hx
    have hlen:=r'.length
    exact Calls.call_len_list pl.isList (by simp only [cZ];omega) ⟨.int xs.length,H,I.tok _,⟨_,by simp only [cZ];rw [hlen]⟩,q⟩
   ·subst e'
    obtain⟨its,r',pl,hz⟩:=I.tuple hx
    have hlen:=r'.length
    exact len_tuple pl (by simp only [cZ];omega) ⟨.int xs.length,H,I.tok _,⟨_,by simp only [cZ];rw [hlen]⟩,q⟩
 | _=>exact(show False from e).elim
end
end L2
namespace L2
open PySem PySem.Spec PyProof.Rows
structure m9(h:Heap)(x dx C:Addr)(mA:Str->Option Value):Prop where
 obj:h.get? x=some (instObj C dx)
 ns:h.Ns1 dx mA
 ne:dx ≠ x
theorem Rt{h:Heap}{dx:Addr}{mA:Str->Option Value}(n:h.Ns1 dx mA):∃od,h.get? dx=some od/\∀name,lookIn name od=some (mA name):=by
 obtain⟨o,es,ep,ho,hd,hk,_,hm⟩:=n
 refine⟨o,ho,λname=>?_⟩
 have e:=hm name
 unfold nsFind findBy at e
 rw [← Array.find?_toList] at e
 unfold lookIn
 rw [hd]
 dsimp only
 split
 ·rename_i y q
  rw [q] at e
  exact congrArg some e
 ·rename_i q
  rw [q] at e
  have a:es.toList.any (·.refKey)=false:=by
   rw [List.any_eq_false]
   intro y hy
   obtain⟨z,t,hkey⟩:=hk y (Array.mem_toList_iff.mp hy)
   simp [DictEntry.refKey,hkey]
  have a':¬ es.toList.any (·.refKey)=true:=by rw [a];exact cz
  rw [if_neg a']
  exact congrArg some e
theorem m9.look{h:Heap}{x dx C:Addr}{mA:Str->Option Value}(I:m9 h x dx C mA):∃od,PySem.W.InstAt h x (instObj C dx) C (some od)/\∀name,lookIn name od=some (mA name) :=
 let ⟨od,ho,hl⟩:=Rt I.ns
 ⟨od,⟨I.obj,rfl,rfl,ho⟩,hl⟩
section
variable {prog:Program} {w:World} {A:Around} {E:Value->Shared->Prop} {s:Shared} {K:Frag} {x dx C f:Addr} {mA:Str->Option Value} {name:Str} {v:Value}
theorem So{expr:Bool}{Q:Value->Shared->Prop}(X:K.In s.heap)(I:m9 s.heap x dx C mA)(hg:plainGet K C name=true)(hh:hasDictIn K C=true)
 (ha:PySem.W.findIn K (.ref C) name=some none) (hv:mA name=some v) (hv':PySem.W.handedIn v=true) (h:Q v { s with toks:=s.toks+1 }):
 wpAny (model prog w) A (getAttr (.ref x) name expr) Q E s:=by
 obtain⟨od,J,hl⟩:=I.look
 exact PySem.W.get_value X J (PySem.W.plainGet_of hg).1 (PySem.W.findObj_own hh ha rfl (by rw [hl,hv])) hv' h
theorem Sn{pl:Sem Bool}{Q:Value × List Value->Shared->Prop}(X:K.In s.heap)(I:m9 s.heap x dx C mA)(hg:plainGet K C name=true)
 (hf:PySem.W.findIn K (.ref C) name=some (some (.ref f))) (ht:isFn K (.ref f)=true) (hv:mA name=none) (h:Q (.ref f,[.ref x]) s):
 wpAny (model prog w) A (getMethod (.ref x) name pl) Q E s:=by
 obtain⟨od,J,hl⟩:=I.look
 exact PySem.W.method_fn X J (PySem.W.plainGet_of hg).1 (PySem.W.plainGet_of hg).2 hf (pW.mp ht) (by show (lookIn name od).map (·.isSome)=some false;rw [hl,hv];rfl) h
theorem MI{ns:List Str}{Q:Unit->Shared->Prop}(X:K.In s.heap)(I:m9 s.heap x dx C mA)
 (hs:PySem.W.findIn K (.ref C) "__setattr__" = some (some (.builtin "object.__setattr__"))) (hp:plainOver K C=true) (ht:takerIn K C name=some none) (hh:hasDictIn K C=true)
 (hw:PySem.Within mA ns) (hsz:ns.length<=sizeLine)
 (h:∀h',m9 h' x dx C (λy=>if y=name then some v else mA y)->Heap.SameBut dx s.heap h'->Q () { s with heap:=h',toks:=s.toks+2 }):
 wpAny (model prog w) A (setAttr (.ref x) name v) Q E s:=by
 obtain⟨od,J,hl⟩:=I.look
 refine PySem.W.set_plain X J hs (PySem.W.osa_open (s:={ s with toks:=s.toks+1 }) (r:=none) X J hp ht λb=>?_)
 obtain⟨cd,hc,hd'⟩:=PySem.W.any_some hh
 have hx:s.heap.get? x=some ⟨.ref C,some dx,.plain,#[]⟩:=I.obj
 refine wpAny_bind (wpAny_pure (wpAny_bind (wpAny_bind (wpAny_loadPart hx (wpAny_bind (PySem.W.Looks.here (s:={ s with toks:=s.toks+1 }) (PySem.W.looks_clsIn X hc) ?_))))))
 rw [hd']
 refine wpAny_pure (a:=some dx) (wpAny_bind (wpAny_pure (wpAny_bind ?_)))
 refine wpAny_nsSet1 (s:={ s with toks:=s.toks+1 }) I.ns λh' hn2 hs2=>?_
 obtain⟨oD,esD,epD,hoD,hdD,hcD⟩:=hn2.count (PySem.Within.cons name v hw)
 refine wpAny_bind (wpAny_lookBehind hoD (by rw [hdD];exact pastItsLine_dict (c7 hcD (by rw [d8];omega))) ?_)
 exact wpAny_pure (h _ ⟨(hs2.2 _ (dG I.ne)).trans I.obj,hn2,I.ne⟩ hs2)
theorem R3{R:Result->Shared->Prop}{vs:List Value}{kw:List (Str × Value)}(X:K.In s.heap)(hm:makesIn K C=true)
 (hi:PySem.W.findIn K (.ref C) "__init__" = some (some (.ref f))) (hf:PySem.W.typeIn K (.ref f)=some (.type "function"))
 (h:codeAny (model prog w) (A.under (.builtin "type.__call__" ⟨.ref C::vs,kw⟩)) (.call (.ref f) ⟨.ref (s.heap.objs.size+1)::vs,kw⟩) (PySem.W.InitBack (s.heap.objs.size+1) R)
  { s with heap:=(s.heap.push emptyDict).push (instObj C s.heap.objs.size) }):
 codeAny (model prog w) A (.call (.ref C) ⟨vs,kw⟩) R s:=by
 obtain⟨hh,g,d,t,os⟩:=s
 exact PySem.W.make_core (PySem.W.makes_of X hm) (PySem.W.looks_findIn X hi) (λself=>PySem.W.bind_fn X self hf) (.inl rfl) h
end
noncomputable def dc(f:Str)(v:V):List (Str × V)->List (Str × V)
 | []=>[(f,v)]
 | (g,x)::r=>if g=f then (g,v)::r else (g,x)::dc f v r
theorem IA(f g:Str)(v:V):∀fs:List (Str × V),(dc f v fs).lookup g=if g=f then some v else fs.lookup g
 | []=>by
   show List.lookup g [(f,v)]=_
   by_cases h:g=f
   ·have hb:(g == f)=true:=pW.mpr h
    simp only [List.lookup,hb,if_pos h]
   ·have hb:(g == f)=false:=pX.mpr h
    simp only [List.lookup,hb,if_neg h]
 | (k,x)::r=>by
   have ih:=IA f g v r
   rw [show dc f v ((k,x)::r)=(if k=f then (k,v)::r else (k,x)::dc f v r) from rfl]
   by_cases hk:k=f
   ·rw [if_pos hk]
    by_cases h:g=k
    ·have hb:(g == k)=true:=pW.mpr h
     simp only [List.lookup,hb,if_pos (h.trans hk)]
    ·have hb:(g == k)=false:=pX.mpr h
     simp only [List.lookup,hb,if_neg (λe:g=f=>h (e.trans hk.symm))]
   ·rw [if_neg hk]
    by_cases h:g=k
    ·have hb:(g == k)=true:=pW.mpr h
     simp only [List.lookup,hb,if_neg (λe:g=f=>hk (h.symm.trans e))]
    ·have hb:(g == k)=false:=pX.mpr h
     simp only [List.lookup,hb]
     exact ih
theorem BD(f:Str)(v:V):∀fs:List (Str × V),f ∈ (dc f v fs).map (·.1)/\∀g,g ∈ fs.map (·.1)->g ∈ (dc f v fs).map (·.1)
 | []=>⟨by simp [dc],λg h=>by simp at h⟩
 | (k,x)::r=>by
   obtain⟨i1,i2⟩:=BD f v r
   rw [show dc f v ((k,x)::r)=(if k=f then (k,v)::r else (k,x)::dc f v r) from rfl]
   by_cases hk:k=f
   ·rw [if_pos hk]
    subst hk
    exact⟨by simp,λg h=>by simpa using h⟩
   ·rw [if_neg hk]
    refine⟨?_,λg h=>?_⟩
    ·rw [bR]
     exact df _ i1
    ·rw [bR] at h ⊢
     rcases bE.mp h with e | e
     ·exact bE.mpr (.inl e)
     ·exact df _ (i2 g e)
theorem IB(f:Str)(v:V):∀fs:List (Str × V),(dc f v fs).length<=fs.length+1
 | []=>by simp [dc]
 | (k,x)::r=>by
   have ih:=IB f v r
   rw [show dc f v ((k,x)::r)=(if k=f then (k,v)::r else (k,x)::dc f v r) from rfl]
   by_cases hk:k=f
   ·rw [if_pos hk,d8,d8];omega
   ·rw [if_neg hk,d8,d8];omega
theorem fc.some_of{v:V}{o:Option Value}(r:fc (some v) o):∃u,o=some u/\aL v u:=by
 cases o with
 | none=>exact(show False from r).elim
 | some u=>exact⟨u,rfl,r⟩
theorem fc.none_of{o:Option Value}(r:fc none o):o=none:=by
 cases o with
 | none=>rfl
 | some u=>exact(show False from r).elim
theorem Sf{v:V}{u:Value}(r:aL v u):PySem.W.handedIn u=true:=by
 cases v with
 | non=>cases (show u=Value.none from r);rfl
 | bl b=>cases (show u=Value.bool b from r);rfl
 | int i=>obtain⟨t,e⟩:=(show ∃t,u=Value.int i t from r);cases e;rfl
 | str x=>obtain⟨t,e⟩:=(show ∃t,u=Value.str x t from r);cases e;rfl
 | byt b=>obtain⟨t,e⟩:=(show ∃t,u=Value.bytes b t from r);cases e;rfl
 | flt b=>obtain⟨t,e⟩:=(show ∃t,u=Value.float b t from r);cases e;rfl
 | ref a=>cases (show u=Value.ref a from r);rfl
 | ty n=>cases (show u=Value.type n from r);rfl
section
variable {P:Program} {w:World} {H H':Hp} {h h':Heap} {a C dx:Addr} {fs fs':List (Str × V)}
theorem sC(hok:bZ P w H h)(e:H a=some (.ins C dx fs)):∃mA,m9 h a dx C mA/\(∀f,fc (fs.lookup f) (mA f))/\PySem.Within mA (fs.map (·.1))/\fs.length<=1000/\H dx=some (.own a):=by
 obtain⟨d,z,ne,ob,mA,n,r,q⟩:=(show cc P w H h a (.ins C dx fs) from hok a _ e)
 exact⟨mA,⟨ob,n,ne⟩,r,q,z,d⟩
end
structure fX(K:Frag)(C:Addr):Prop where
 pg:plainGet K C Str.empty=true
 hd:hasDictIn K C=true
 po:plainOver K C=true
 sa:PySem.W.findIn K (.ref C) "__setattr__" = some (some (.builtin "object.__setattr__"))
theorem fX.get{K:Frag}{C:Addr}(c:fX K C)(f:Str):plainGet K C f=true:=c.pg
noncomputable def gM(K:Frag)(C:Addr)(f:Str):Prop:=PySem.W.findIn K (.ref C) f=some none
theorem gM.taker{K:Frag}{C:Addr}{f:Str}(n:gM K C f):takerIn K C f=some none:=by
 unfold takerIn
 rw [show PySem.W.findIn K (.ref C) f=some none from n]
 rfl
structure UB(K:Frag)(C:Addr)(f:Str)(v:V)(u:Value):Prop where
 at_:PySem.W.findIn K (.ref C) f=some (some u)
 rel:aL v u
 get:PySem.W.specialIn K u "__get__" = some none
 cp:PySem.W.copiedNames.contains f=false
structure xE(K:Frag)(C:Addr)(m:Str)(f:Addr):Prop where
 at_:PySem.W.findIn K (.ref C) m=some (some (.ref f))
 fn:isFn K (.ref f)=true
 kp:keepIn K (.ref f)=true
section
variable {X:Cx} {pins:List (Addr × Obj)} {σ:St} {H:Hp} {s:Shared} {a C dx:Addr} {fs:List (Str × V)} {f:Str} {v:V} {A:Around} {E:Value->Shared->Prop}
theorem IZ{b:Bool}{Q:Value->Shared->Prop}(I:ae X pins σ H s)(e:H a=some (.ins C dx fs))(c:fX X.K C)(n:gM X.K C f)(l:fs.lookup f=some v)
 (h:∀u s',ae X pins σ H s'->aL v u->Q u s'):wpAny (model X.prog X.w) A (getAttr (.ref a) f b) Q E s:=by
 obtain⟨mA,O,r,_,_,_⟩:=sC I.hok e
 obtain⟨u,hu,ru⟩:=fc.some_of (v:=v) (o:=mA f) (by rw [← l];exact r f)
 exact So I.kIn O (c.get f) c.hd n hu (Sf ru) (h u _ (I.tok _) ru)
theorem IY{m:Str}{g:Addr}{pl:Sem Bool}{Q:Value × List Value->Shared->Prop}(I:ae X pins σ H s)(e:H a=some (.ins C dx fs))(c:fX X.K C)(k:xE X.K C m g)(l:fs.lookup m=none)
 (h:Q (.ref g,[.ref a]) s):wpAny (model X.prog X.w) A (getMethod (.ref a) m pl) Q E s:=by
 obtain⟨mA,O,r,_,_,_⟩:=sC I.hok e
 have hn:mA m=none:=fc.none_of (by rw [← l];exact r m)
 exact Sn I.kIn O (c.get m) k.at_ k.fn hn h
theorem Gf{y:V}{u:Value}{Q:Unit->Shared->Prop}(I:ae X pins σ H s)(e:H a=some (.ins C dx fs))(c:fX X.K C)(n:gM X.K C f)(hl:fs.length<1000)(ry:aL y u)
 (h:∀s',ae X pins σ (ai H a (.ins C dx (dc f y fs))) s'->Q () s'):wpAny (model X.prog X.w) A (setAttr (.ref a) f u) Q E s:=by
 obtain⟨mA,O,r,wi,_,ho⟩:=sC I.hok e
 have hz:(fs.map (·.1)).length<=sizeLine:=by rw [aT,sizeLine_eq];omega
 refine MI I.kIn O c.sa c.po n.taker c.hd wi hz λh' O' sb=>h _ ?_
 have hd:∃o,h'.get? dx=some o:=let ⟨o,_,_,e',_⟩:=O'.ns;⟨o,e'⟩
 refine I.write (x:=a) (e:=dx) (by rw [e];exact True.intro) (.inr ho) (λb q hb z=>(sb.2 b hb).trans z) hd ?_
 refine⟨by rw [au O.ne];exact ho,?_,O.ne,O'.obj,_,O'.ns,λg=>?_,λg hg=>?_⟩
 ·have:=IB f y fs;omega
 ·show fc ((dc f y fs).lookup g) (if g=f then some u else mA g)
  rw [IA]
  by_cases q:g=f
  ·rw [if_pos q,if_pos q];exact ry
  ·rw [if_neg q,if_neg q];exact r g
 ·by_cases q:g=f
  ·rw [q];exact(BD f y fs).1
  ·refine(BD f y fs).2 g (wi g λz=>hg ?_)
   show (if g=f then some u else mA g)=none
   rw [if_neg q];exact z
theorem ae.made(I:ae X pins σ H s):ae X pins σ (ai (ai H s.heap.objs.size (.own (s.heap.objs.size+1))) (s.heap.objs.size+1) (.ins C s.heap.objs.size []))
 { s with heap:=(s.heap.push emptyDict).push (instObj C s.heap.objs.size) }:=by
 have e1:(s.heap.push emptyDict).get? s.heap.objs.size=some emptyDict:=cM s.heap rfl
 have e2:((s.heap.push emptyDict).push (instObj C s.heap.objs.size)).get? (s.heap.objs.size+1)=some (instObj C s.heap.objs.size):=by
  have:=cM (s.heap.push emptyDict) (o:=instObj C s.heap.objs.size) rfl
  rwa [qy] at this
 have e3:(s.heap.push emptyDict).Ns s.heap.objs.size (λ_=>none):=⟨emptyDict,#[],_,e1,rfl,(λe he=>absurd he (by simp)),λ_=>rfl⟩
 have I1:=I.laid (a:=s.heap.objs.size) (o:=.own (s.heap.objs.size+1)) (h':=s.heap.push emptyDict) (t':=s.toks) (λb u q=>bP _ q) (aI _) ⟨_,e1⟩
 refine I1.laid (a:=s.heap.objs.size+1) (o:=.ins C s.heap.objs.size []) (t':=s.toks) (λb u q=>bP _ q) (Nat.le_of_eq (qy _ _)) ?_
 have ne:s.heap.objs.size ≠ s.heap.objs.size+1:=cG (Cm _)
 refine⟨by rw [au ne,aA],cU _,ne,e2,λ_=>none,(Heap.Ns1.of_empty e3).at λo q=>bP _ q,λ_=>True.intro,λy hy=>absurd rfl hy⟩
theorem Ud{prog:Program}{w:World}{env:Env}{e:Expr}{f:Str}{pos:Pos}{s:Shared}{Q:Value->Shared->Prop}(hb:attributeBase e f env (eval e env)=eval e env)
 (h:wpAny (model prog w) A (eval e env) (λo s₁=>wpAny (model prog w) A (getAttr o f true) Q E s₁) E s):wpAny (model prog w) A (eval (.Attribute e f pos) env) Q E s :=
 Attribute_any_ h (by rw [arm_eval_Attribute,hb])
end
inductive Ks(K:Frag)(f:Str)(x:V)(H1:Hp)(Q:VK):Prop where
 | mk (a C dx:Addr) (fs:List (Str × V)) (v:V) (_:x=.ref a) (_:H1 a=some (.ins C dx fs)) (_:fX K C) (_:gM K C f) (_:fs.lookup f=some v) (_:Q v H1):Ks K f x H1 Q
noncomputable def Md(K:Frag)(ta:TE)(f:Str):TE:=λσ H Q=>ta σ H λx H1=>Ks K f x H1 Q
noncomputable def NA(K:Frag)(ta tv:TE)(f:Str):TS:=λD σ H=>tv σ H λy H1=>ta σ H1 λx H2=>∃a C dx fs,x=.ref a/\H2 a=some (.ins C dx fs)/\fX K C/\gM K C f/\fs.length<1000/\
 D.nx σ (ai H2 a (.ins C dx (dc f y fs)))
noncomputable def Us(X:Cx)(op:Operator)(rd:V->V->Hp->VK->Prop):Prop :=
 ∀(pins:List (Addr × Obj)) (s:Shared) (σ:St) (H:Hp) (x y:V) (u v:Value) (Q:VK),ae X pins σ H s->aL x u->aL y v->rd x y H Q->wpAny (model X.prog X.w) X.A (inplaceOp op u v) (EP X pins σ Q) X.xe s
noncomputable def Nz(K:Frag)(ta tv:TE)(rd:V->V->Hp->VK->Prop)(f:Str):TS:=λD σ H=>ta σ H λx H1=>∃a C dx fs v,x=.ref a/\H1 a=some (.ins C dx fs)/\fX K C/\gM K C f/\fs.lookup f=some v/\
 tv σ H1 λy H2=>rd v y H2 λz H3=>∃dx' fs',H3 a=some (.ins C dx' fs')/\fs'.length<1000/\D.nx σ (ai H3 a (.ins C dx' (dc f z fs')))
section
variable {X:Cx} {o e value:Expr} {f:Str} {pos pos' tpos:Pos} {ta tv:TE}
theorem cB(he:PE X e ta)(hb:attributeBase e f X.env (eval e X.env)=eval e X.env):PE X (.Attribute e f pos) (Md X.K ta f):=by
 intro pins s σ H Q I h
 refine Ud hb (av (he pins s σ H _ I h) λu s1 ⟨x,H1,I1,rx,a,C,dx,fs,v,ex,ea,c,n,l,q⟩=>?_)
 subst ex
 obtain rfl:u=Value.ref a:=rx
 exact IZ I1 ea c n l λu' s2 I2 ru=>⟨v,H1,I2,ru,q⟩
theorem kr(ha:PE X o ta)(hv:PE X value tv)(hs:swapsWith value (some (.Attribute o f pos')) pos.line X.env=pure false):PS X (.Assign [.Attribute o f pos'] value pos) (NA X.K ta tv f):=by
 intro pins s σ H D I h
 refine plainObj_wpAny_Assign_Attribute (av (hv pins s σ H _ I h) λu s1 ⟨y,H1,I1,ry,q⟩=>av (ha pins s1 σ H1 _ I1 q) λov s2 ⟨x,H2,I2,rx,a,C,dx,fs,ex,ea,c,n,l,q2⟩=>?_) hs
 subst ex
 obtain rfl:ov=Value.ref a:=rx
 exact Gf I2 ea c n l ry λs3 I3=>⟨σ,_,I3,q2⟩
theorem O9{op:Operator}{rd:V->V->Hp->VK->Prop}(ha:PE X o ta)(hv:PE X value tv)(hop:Us X op rd):PS X (.AugAssign (.Attribute o f tpos) op value pos) (Nz X.K ta tv rd f):=by
 intro pins s σ H D I h
 refine wpAny_AugAssign_AttributeAny (av (ha pins s σ H _ I h) λov s1 ⟨x,H1,I1,rx,a,C,dx,fs,v,ex,ea,c,n,l,q⟩=>?_)
 subst ex
 obtain rfl:ov=Value.ref a:=rx
 refine IZ I1 ea c n l λu s2 I2 ru=>av (hv pins s2 σ H1 _ I2 q) λw3 s3 ⟨y,H2,I3,ry,q3⟩=>av (hop pins s3 σ H2 v y u w3 _ I3 ru ry q3) λw4 s4 ⟨z,H3,I4,rz,dx',fs',ea',l',q4⟩=>?_
 exact Gf I4 ea' c n l' rz λs5 I5=>⟨σ,_,I5,q4⟩
end
section
variable {X:Cx} {pins:List (Addr × Obj)} {σ:St} {H:Hp} {s:Shared} {A:Around} {E:Value->Shared->Prop} {Q:Value->Shared->Prop} {c:Value} {b:Bool}
inductive gq(K:Frag)(H:Hp):V->Value->Prop where
 | non:gq K H .non (.type "NoneType")
 | bl (x:Bool):gq K H (.bl x) (.type "bool")
 | int (i:Int):gq K H (.int i) (.type "int")
 | str (x:Str):gq K H (.str x) (.type "str")
 | flt (x:UInt64):gq K H (.flt x) (.type "float")
 | lst {a:Addr} {xs:List V} (e:H a=some (.lst xs)):gq K H (.ref a) (.type "list")
 | frz {a:Addr} {o:Obj} {xs:List V} (e:H a=some (.frz o (.lst xs))):gq K H (.ref a) (.type "list")
 | tup {a:Addr} {xs:List V} (e:H a=some (.tup xs)):gq K H (.ref a) (.type "tuple")
 | dK {a:Addr} {kvs:List (aU × V)} (e:H a=some (.dK kvs)):gq K H (.ref a) (.type "dict")
 | dT {a:Addr} {kvs:List (List aU × V)} (e:H a=some (.dT kvs)):gq K H (.ref a) (.type "dict")
 | ins {a C dx:Addr} {fs:List (Str × V)} (e:H a=some (.ins C dx fs)) (cl:fX K C) (ha:PySem.W.findIn K (.ref C) "__class__" = some (some (.builtin "object.__class__")))
  (hn:PySem.W.specialIn K (.builtin "object.__class__") "__get__" = some (some (.builtin "getset_descriptor.__get__"))) (htk:PySem.W.takesIn K (.builtin "object.__class__")=some true)
  (hm:PySem.W.mroIn K C (.type "object")=some true):gq K H (.ref a) (.ref C)
theorem RT{x:V}{u t:Value}(I:ae X pins σ H s)(rx:aL x u)(ty:gq X.K H x t)(e:kitOne X.K t c=some b)(h:∀tk,Q (.bool b) { s with toks:=tk }):
 wpAny (model X.prog X.w) A (call (.builtin "isinstance") [u,c]) Q E s:=by
 cases ty with
 | non=>cases (show u=Value.none from rx);exact iE PySem.W.kitx_none I.kIn True.intro e (λz=>nomatch z) h
 | bl y=>cases (show u=Value.bool y from rx);exact iE PySem.W.kitx_bool I.kIn True.intro e (λz=>nomatch z) h
 | int i=>obtain⟨t,q⟩:=(show ∃t,u=Value.int i t from rx);cases q;exact iE PySem.W.kitx_int I.kIn True.intro e (λz=>nomatch z) h
 | str y=>obtain⟨t,q⟩:=(show ∃t,u=Value.str y t from rx);cases q;exact iE PySem.W.kitx_str I.kIn True.intro e (λz=>nomatch z) h
 | flt y=>obtain⟨t,q⟩:=(show ∃t,u=Value.float y t from rx);cases q;exact iE PySem.W.kitx_float I.kIn True.intro e (λz=>nomatch z) h
 | @lst a xs ea =>
   cases (show u=Value.ref a from rx)
   obtain⟨_,_,n,_,h1⟩:=(show cc X.prog X.w H s.heap a (.lst xs) from I.hok a _ ea)
   exact iE PySem.W.kitx_list I.kIn ⟨_,h1,rfl⟩ e (λz=>nomatch z) h
 | @frz a ob xs ea =>
   cases (show u=Value.ref a from rx)
   obtain⟨_,_,_,n,_,h1⟩:=(show cc X.prog X.w H s.heap a (.frz ob (.lst xs)) from I.hok a _ ea)
   exact iE PySem.W.kitx_list I.kIn ⟨_,h1,rfl⟩ e (λz=>nomatch z) h
 | @tup a xs ea =>
   cases (show u=Value.ref a from rx)
   obtain⟨_,_,_,p⟩:=(show cc X.prog X.w H s.heap a (.tup xs) from I.hok a _ ea)
   obtain⟨o,h1,h2,_⟩:=p
   exact iE PySem.W.kitx_tuple I.kIn ⟨o,h1,h2⟩ e (λz=>nomatch z) h
 | @dK a kvs ea =>
   cases (show u=Value.ref a from rx)
   obtain⟨_,_,vs,_,p⟩:=(show cc X.prog X.w H s.heap a (.dK kvs) from I.hok a _ ea)
   obtain⟨o,es,ep,h1,h2,_⟩:=p
   exact iE PySem.W.kitx_dict I.kIn ⟨o,h1,h2.1⟩ e (λz=>nomatch z) h
 | @dT a kvs ea =>
   cases (show u=Value.ref a from rx)
   obtain⟨_,_,xs,_,o,es,ep,h1,h2,_⟩:=(show cc X.prog X.w H s.heap a (.dT kvs) from I.hok a _ ea)
   exact iE PySem.W.kitx_dict I.kIn ⟨o,h1,h2.1⟩ e (λz=>nomatch z) h
 | @ins a C dx fs ea cl ha hn htk hm =>
   cases (show u=Value.ref a from rx)
   obtain⟨mA,O,_⟩:=sC I.hok ea
   obtain⟨od,J,_⟩:=O.look
   exact iE (PySem.W.kitx_own (cl.get _) cl.hd ha hn htk hm) I.kIn J e (λz=>nomatch z) h
end
end L2
namespace L2
open PySem PySem.Spec PyProof.Rows
structure cb(k:Nat)(A:Around):Prop where
 hd:A.handled=none
 dp:A.depth+3*k+5<recursionLimit
 un:A.units+16*k+200<cLine
theorem cb.mono{j k:Nat}{A:Around}(r:cb k A)(h:j<=k):cb j A:=⟨r.hd,by have:=r.dp;omega,by have:=r.un;omega⟩
theorem cb.deeper{k:Nat}{A:Around}(r:cb (k+1) A)(env:Env):cb k (A.deeper env) :=
 ⟨r.hd,by have:=r.dp;show A.depth+1+3*k+5<_;omega,by have:=r.un;show A.units+3+16*k+200<_;omega⟩
theorem cb.in1{k:Nat}{A:Around}(r:cb (k+1) A):cb k A.in1 :=
 ⟨r.hd,by have:=r.dp;show A.depth+3*k+5<_;omega,by have:=r.un;show A.units+1+16*k+200<_;omega⟩
theorem R4{A:Around}{C:Addr}{us:List Value}{kw:List (Str × Value)}:(A.under (.builtin "type.__call__" ⟨.ref C::us,kw⟩)).depth=A.depth+1:=by
 first | rfl | simp [Around.under,Code.weight,Code.isCreation,Code.isGuard,Code.isCaller,Code.frames,Code.isFrame,guardIds]
theorem R0{A:Around}{C:Addr}{us:List Value}{kw:List (Str × Value)}:(A.under (.builtin "type.__call__" ⟨.ref C::us,kw⟩)).units=A.units+1:=by
 first | rfl | simp [Around.under,Code.cUnits,Code.frames,Code.isFrame]
theorem cb.make{k:Nat}{A:Around}(r:cb (k+1) A)(C:Addr)(us:List Value)(kw:List (Str × Value)):cb k (A.under (.builtin "type.__call__" ⟨.ref C::us,kw⟩)) :=
 ⟨r.hd,by have:=r.dp;rw [R4];omega,by have:=r.un;rw [R0];omega⟩
theorem cb.depth{k:Nat}{A:Around}(r:cb k A):A.depth<recursionLimit:=by have:=r.dp;omega
theorem cb.units{k:Nat}{A:Around}(r:cb k A):A.units+64<cLine:=by have:=r.un;omega
theorem cb.units0{k:Nat}{A:Around}(r:cb k A):A.units<cLine:=by have:=r.un;omega
noncomputable def gX:TA:=λ_ H Q=>Q [] H
noncomputable def ig(ta:TE)(tr:TA):TA:=λσ H Q=>ta σ H λx H1=>tr σ H1 λxs H2=>Q (x::xs) H2
section
variable {X:Cx} {e:Expr} {es:List Expr} {te:TE} {t:TA} {pos:Pos}
theorem lp:PA X [] gX:=λ_ _ _ _ H Q I h=>jx ⟨[],H,I,.nil,h⟩
theorem AW(ha:PE X e te)(hr:PA X es t)(hs:starEach (e::es) X.env=(false,eval e X.env)::starEach es X.env:=by rfl):PA X (e::es) (ig te t):=by
 intro pos pins s σ H Q I h
 rw [hs]
 show wpAny _ _ (spliced ((false,eval e X.env)::backTo pos (starEach es X.env))) _ _ s
 refine j3 (av (ha pins s σ H _ I h) λu s1 ⟨x,H1,I1,r1,q1⟩=>?_)
 exact av (hr pos pins s1 σ H1 _ I1 q1) λus s2 ⟨xs,H2,I2,r2,q2⟩=>⟨x::xs,H2,I2,.cons r1 r2,q2⟩
noncomputable def DS(t:TA):TE:=λσ H Q=>t σ H λxs H1=>xs.length<=sizeLine/\∀p,H1 p=none->Q (.ref p) (ai H1 p (.tup xs))
noncomputable def M7(t:TA):TE:=λσ H Q=>t σ H λxs H1=>xs.length<=sizeLine/\∀p,H1 p=none->Q (.ref p) (ai H1 p (.lst xs))
theorem fB{x1}(h:PA X es t):PE X (.Tuple es x1 pos) (DS t):=by
 intro pins s σ H Q I hq
 refine wpAny_Tuple_spliced (av (h pos pins s σ H _ I hq) λus s1 ⟨xs,H1,I1,r,z,q⟩=>⟨by rw [← r.length];exact z,?_⟩)
 have hf:H1 s1.heap.objs.size=none:=I1.hok.fresh (aI _)
 refine⟨.ref s1.heap.objs.size,ai H1 s1.heap.objs.size (.tup xs),I1.laid (t':=s1.toks) (λb u e=>bP _ e) (aI _) ?_,rfl,q _ hf⟩
 exact⟨z,us,r,⟨_,cM _ rfl,rfl,_,rfl⟩⟩
theorem jC(h:PA X es t):PE X (.List es pos) (M7 t):=by
 intro pins s σ H Q I hq
 refine wpAny_List_spliced (av (h pos pins s σ H _ I hq) λus s1 ⟨xs,H1,I1,r,z,q⟩=>⟨by rw [← r.length];exact z,?_⟩)
 have hf:H1 s1.heap.objs.size=none:=I1.hok.fresh (aI _)
 refine⟨.ref s1.heap.objs.size,ai H1 s1.heap.objs.size (.lst xs),I1.laid (t':=s1.toks) (λb u e=>bP _ e) (aI _) ?_,rfl,q _ hf⟩
 exact⟨z,us,0,r,cM _ rfl⟩
end
abbrev Sp:=List V->Hp->VK->XK->Prop
abbrev fY:=List Env->Hp->Shared->XK->Value->Shared->Prop
structure j2(P:Program)(w:World)(K:Frag)(mg:Str->Option Value)(base:Heap)(A:Around)(outer:List Env)(s:Shared)(H:Hp):Prop where
 frames:A.frames=some outer
 mod:Mod K mg base
 bs:∀b o,base.get? b=some o->s.heap.get? b=some o/\H b=none
 bsz:base.objs.size<=s.heap.objs.size
 funs:s.heap.FunFrames base outer
 frf:∀b ∈ gJ outer,H b=none
 hok:bZ P w H s.heap
 bare:AllBare s.gens
noncomputable def CE(outer:List Env)(P:Program)(w:World)(H:Hp)(s:Shared)(Q:VK)(u:Value)(s':Shared):Prop :=
 ∃v H',s'.os=s.os/\AllBare s'.gens/\Un (gJ outer) [] H H' s.heap s'.heap/\bZ P w H' s'.heap/\aL v u/\Q v H'
noncomputable def CR(CX:fY)(outer:List Env)(P:Program)(w:World)(H:Hp)(s:Shared)(Q:VK)(E:XK)(r:Result)(s':Shared):Prop :=
 match r with
 | .ok (.ret u)=>CE outer P w H s Q u s'
 | .ok _=>False
 | .error e=>CX outer H s E e s'
structure ar(P:Program)(w:World)(K:Frag)(mg:Str->Option Value)(base:Heap)(CX:fY)(k:Nat)(f:Addr)(fd:FuncData)(ps:List Str)(sp:Sp):Prop where
 len:∀vs H Q E,sp vs H Q E->vs.length=ps.length
 run:∀(A:Around) (outer:List Env) (s:Shared) (H:Hp) (args:Args) (us:List Value) (vs:List V) (Q:VK) (E:XK),cb k A->j2 P w K mg base A outer s H->BindsTo s fd args (ps.zip us)->aB vs us->sp vs H Q E->
  codeAny (model P w) A (.call (.ref f) args) (CR CX outer P w H s Q E) s
theorem ar.mono{P:Program}{w:World}{K:Frag}{mg:Str->Option Value}{base:Heap}{CX:fY}{j k:Nat}{f:Addr}{fd:FuncData}{ps:List Str}{sp:Sp}(F:ar P w K mg base CX j f fd ps sp)(h:j<=k):
 ar P w K mg base CX k f fd ps sp:=⟨F.len,λA outer s H args us vs Q E hr=>F.run A outer s H args us vs Q E (hr.mono h)⟩
theorem ar.imp{P:Program}{w:World}{K:Frag}{mg:Str->Option Value}{base:Heap}{CX:fY}{k:Nat}{f:Addr}{fd:FuncData}{ps:List Str}{sp sp':Sp}(F:ar P w K mg base CX k f fd ps sp)
 (h:∀vs H Q E,sp' vs H Q E->sp vs H Q E):ar P w K mg base CX k f fd ps sp' :=
 ⟨λvs H Q E q=>F.len vs H Q E (h _ _ _ _ q),λA outer s H args us vs Q E hr he hb hv hs=>F.run A outer s H args us vs Q E hr he hb hv (h _ _ _ _ hs)⟩
theorem j2.make{P:Program}{w:World}{K:Frag}{mg:Str->Option Value}{base:Heap}{A:Around}{outer:List Env}{s:Shared}{H:Hp}(e:j2 P w K mg base A outer s H)(C:Addr)(us:List Value)(kw:List (Str × Value)):
 j2 P w K mg base (A.under (.builtin "type.__call__" ⟨.ref C::us,kw⟩)) outer s H:=⟨by first | exact e.frames | (simpa [Around.under,Code.envs,Code.isFrame,pushEnvs] using e.frames),e.mod,e.bs,e.bsz,e.funs,e.frf,e.hok,e.bare⟩
theorem j2.in1{P:Program}{w:World}{K:Frag}{mg:Str->Option Value}{base:Heap}{A:Around}{outer:List Env}{s:Shared}{H:Hp}(e:j2 P w K mg base A outer s H):
 j2 P w K mg base A.in1 outer s H:=⟨e.frames,e.mod,e.bs,e.bsz,e.funs,e.frf,e.hok,e.bare⟩
section
variable {X:Cx} {pins:List (Addr × Obj)} {σ:St} {H:Hp} {s s':Shared}
theorem ae.env0(I:ae X pins σ H s):j2 X.prog X.w X.K X.mg X.base X.A X.stack s H :=
 ⟨I.ok.frames,I.ok.mod,I.bs,c7 I.ok.bsz I.sz,I.stack,I.stkFree,I.hok,I.bare⟩
theorem ae.after{Q:VK}{u:Value}(I:ae X pins σ H s)(h:CE X.stack X.prog X.w H s Q u s'):EP X pins σ Q u s':=by
 obtain⟨v,H',os,bare,un,hok,r,q⟩:=h
 obtain⟨hh,g,d,t,os'⟩:=s'
 obtain rfl:os'=s.os:=os
 exact⟨v,H',I.call (h':=hh) (g':=g) (d':=d) (t':=t) (ch:=[]) un hok bare (λb z=>absurd z (by simp)),r,q⟩
end
noncomputable def yn(sp:Sp)(dvs:List V)(E:XK)(t:TA):TE:=λσ H Q=>t σ H λvs H1=>sp (vs++dvs) H1 Q E
inductive Kk(C:Addr)(m:Str)(x:V)(H1:Hp)(R:Addr->Prop):Prop where
 | mk (a dx:Addr) (fs:List (Str × V)) (_:x=.ref a) (_:H1 a=some (.ins C dx fs)) (_:fs.lookup m=none) (_:R a):Kk C m x H1 R
noncomputable def qW(C:Addr)(m:Str)(sp:Sp)(dvs:List V)(E:XK)(ta:TE)(t:TA):TE:=λσ H Q=>ta σ H λx H1=>Kk C m x H1 λa=>t σ H1 λvs H2=>sp (x::(vs++dvs)) H2 Q E
noncomputable def DU(C:Addr)(sp:Sp)(dvs:List V)(E:XK)(t:TA):TE:=λσ H Q=>t σ H λvs H1=>∀x dx,H1 x=none->H1 dx=none->dx ≠ x->
 sp (.ref x::(vs++dvs)) (ai (ai H1 dx (.own x)) x (.ins C dx [])) (λv H2=>v=.non/\Q (.ref x) H2) E
noncomputable def d9(K:Frag)(fd:FuncData)(ps:List Str)(ds:List Value):Prop :=
 ∀(s:Shared) (us:List Value),K.In s.heap->(us++ds).length=ps.length->BindsTo s fd ⟨us,[]⟩ (ps.zip (us++ds))
theorem d9.all{K:Frag}{fd:FuncData}{ps:List Str}(h:∀us:List Value,us.length=ps.length->bindArgs fd ⟨us,[]⟩=pure (ps.zip us)):d9 K fd ps []:=λs us _ hl=>by
 rw [gw] at hl ⊢
 exact .of_eq (h us hl)
noncomputable def kN(CX:fY)(X:Cx)(E:XK):Prop:=∀(pins:List (Addr × Obj)) (σ:St) (H:Hp) (s:Shared) (e:Value) (s':Shared),ae X pins σ H s->CX X.stack H s E e s'->X.xe e s'
section
variable {X:Cx} {CX:fY} {k:Nat} {f C:Addr} {fd:FuncData} {ps:List Str} {sp:Sp} {dvs:List V} {ds:List Value} {E:XK} {x m:Str} {p pos apos:Pos} {e o:Expr} {es:List Expr} {ta:TE} {t:TA}
theorem AA{pins:List (Addr × Obj)}{σ:St}{H:Hp}{s:Shared}{Q:VK}{us:List Value}{vs:List V}(F:ar X.prog X.w X.K X.mg X.base CX k f fd ps sp)(hr:cb k X.A)(hb:d9 X.K fd ps ds)(hd:aB dvs ds)(hx:kN CX X E)
 (I:ae X pins σ H s) (r:aB vs us) (h:sp (vs++dvs) H Q E):wpAny (model X.prog X.w) X.A (call (.ref f) us) (EP X pins σ Q) X.xe s:=by
 have r2:aB (vs++dvs) (us++ds):=r.append hd
 have hl:(us++ds).length=ps.length:=by rw [← r2.length];exact F.len _ _ _ _ h
 refine wpAny_call (codeAny_mono (F.run X.A X.stack s H ⟨us,[]⟩ (us++ds) (vs++dvs) Q E hr I.env0 (hb s us I.kIn hl) r2 h) λr s' hq=>?_)
 cases r with
 | error e=>exact hx pins σ H s e s' I hq
 | ok fl =>
   cases fl with
   | ret u=>exact I.after hq
   | next=>exact False.elim hq
   | brk=>exact False.elim hq
   | cont=>exact False.elim hq
theorem jD(F:ar X.prog X.w X.K X.mg X.base CX k f fd ps sp)(hr:cb k X.A)(hg:Gl X x)(hm:X.mg x=some (.ref f))(hk:keepIn X.K (.ref f)=true)(hb:d9 X.K fd ps ds)(hd:aB dvs ds)(hx:kN CX X E)
 (ha:PA X (e::es) t) (hdb:(x == ("__debug__" : Str))=false:=by decide) (he:starEach (e::es) X.env=(false,eval e X.env)::starEach es X.env:=by rfl) (hpl:(backTo pos (starEach es X.env)).any (·.1)=false:=by rfl):
 PE X (.Call (.Name x p) (e::es) [] pos) (yn sp dvs E t):=by
 intro pins s σ H Q I h
 refine wpAny_Call_Name_kw (sk I hg hm ?_ hdb)
 refine PySem.W.callWith_K (h₀:=X.base) I.ok.mod.kin hk (av (ha pos pins s σ H _ I h) λus s1 ⟨vs,H1,I1,r,q⟩=>⟨I1.kIn,?_⟩) he hpl
 exact AA F hr hb hd hx I1 r q
theorem Oz{pl:Sem Bool}(he:PE X o ta)(c:fX X.K C)(hm:xE X.K C m f)(F:ar X.prog X.w X.K X.mg X.base CX k f fd ps sp)(hr:cb k X.A)(hb:d9 X.K fd ps ds)(hd:aB dvs ds)(hx:kN CX X E)(ha:PA X (e::es) t)
 (hst:starEach (e::es) X.env=(false,eval e X.env)::starEach es X.env:=by rfl) (hpl:(backTo pos (starEach es X.env)).any (·.1)=false:=by rfl)
 (ht:eval (.Call (.Attribute o m apos) (e::es) [] pos) X.env=(do
  let ov ← eval o X.env
  standAt apos.atName
  let (f,first) ← holding [ov] (getMethod ov m pl)
  callWith pos f first (backTo pos (starEach (e::es) X.env)) (backToKw pos (keywordEach [] X.env))):=by rfl):
 PE X (.Call (.Attribute o m apos) (e::es) [] pos) (qW C m sp dvs E ta t):=by
 intro pins s σ H Q I h
 refine PySem.W.methodCall_KW (pl:=pl) (av (he pins s σ H _ I h) λu s1 ⟨x,H1,I1,rx,a,dx,fs,ex,ea,l,q⟩=>?_) ht
 subst ex
 obtain rfl:u=Value.ref a:=rx
 refine IY I1 ea c hm l ?_
 refine PySem.W.callWith_K (first:=[.ref a]) (h₀:=X.base) I.ok.mod.kin hm.kp (av (ha pos pins s1 σ H1 _ I1 q) λus s2 ⟨vs,H2,I2,r,q2⟩=>⟨I2.kIn,?_⟩) hst hpl
 exact AA (us:=.ref a::us) (vs:=.ref a::vs) F hr hb hd hx I2 (.cons rfl r) q2
theorem Oy{pl:Sem Bool}(he:PE X o ta)(c:fX X.K C)(hm:xE X.K C m f)(F:ar X.prog X.w X.K X.mg X.base CX k f fd ps sp)(hr:cb k X.A)(hb:d9 X.K fd ps ds)(hd:aB dvs ds)(hx:kN CX X E)
 (ht:eval (.Call (.Attribute o m apos) [] [] pos) X.env=(do
  let ov ← eval o X.env
  standAt apos.atName
  let (f,first) ← holding [ov] (getMethod ov m pl)
  callWith pos f first (backTo pos (starEach [] X.env)) (backToKw pos (keywordEach [] X.env))):=by rfl):
 PE X (.Call (.Attribute o m apos) [] [] pos) (qW C m sp dvs E ta gX):=by
 intro pins s σ H Q I h
 refine PySem.W.methodCall_KW (pl:=pl) (av (he pins s σ H _ I h) λu s1 ⟨x,H1,I1,rx,a,dx,fs,ex,ea,l,q⟩=>?_) ht
 subst ex
 obtain rfl:u=Value.ref a:=rx
 refine IY I1 ea c hm l ?_
 exact PySem.W.callWith_K0 (first:=[.ref a]) I1.kIn hm.kp (AA (us:=[.ref a]) (vs:=[.ref a]) F hr hb hd hx I1 (.cons rfl .nil) q)
structure Mk(K:Frag)(C f:Addr):Prop where
 makes:makesIn K C=true
 init:PySem.W.findIn K (.ref C) "__init__" = some (some (.ref f))
 fn:isFn K (.ref f)=true
 kp:keepIn K (.ref C)=true
theorem Gz{pins:List (Addr × Obj)}{σ:St}{H:Hp}{s:Shared}{Q:VK}{us:List Value}{vs:List V}(M:Mk X.K C f)(F:ar X.prog X.w X.K X.mg X.base CX k f fd ps sp)(hr:cb (k+1) X.A)(hb:d9 X.K fd ps ds)(hd:aB dvs ds)
 (hx:kN CX X E) (I:ae X pins σ H s) (r:aB vs us)
 (h:∀x dx,H x=none->H dx=none->dx ≠ x->sp (.ref x::(vs++dvs)) (ai (ai H dx (.own x)) x (.ins C dx [])) (λv H2=>v=.non/\Q (.ref x) H2) E):
 wpAny (model X.prog X.w) X.A (call (.ref C) us) (EP X pins σ Q) X.xe s:=by
 have hq:=h (s.heap.objs.size+1) s.heap.objs.size (I.hok.fresh (nP _)) (I.hok.fresh (aI _)) (cG (Cm _))
 have I2:=ae.made (C:=C) I
 have r2:aB (V.ref (s.heap.objs.size+1)::(vs++dvs)) (Value.ref (s.heap.objs.size+1)::(us++ds)):=.cons rfl (r.append hd)
 have hl:(Value.ref (s.heap.objs.size+1)::us++ds).length=ps.length:=by
  have e:=r2.length
  rw [F.len _ _ _ _ hq] at e
  exact e.symm
 refine wpAny_call (R3 (f:=f) I.kIn M.makes M.init (pW.mp M.fn) (codeAny_mono (F.run _ X.stack _ _ ⟨Value.ref (s.heap.objs.size+1)::us,[]⟩ (Value.ref (s.heap.objs.size+1)::(us++ds)) _ _ E (hr.make C us [])
  (I2.env0.make C us []) (hb _ (Value.ref (s.heap.objs.size+1)::us) I2.kIn hl) r2 hq) λr s' hq'=>?_))
 cases r with
 | error e=>exact hx pins σ _ _ e s' I2 hq'
 | ok fl =>
   cases fl with
   | ret u =>
     obtain⟨v,H',I3,rv,ev,q3⟩:=I2.after hq'
     subst ev
     exact⟨rv,⟨V.ref (s.heap.objs.size+1),H',I3,rfl,q3⟩⟩
   | next=>exact False.elim hq'
   | brk=>exact False.elim hq'
   | cont=>exact False.elim hq'
theorem AO(M:Mk X.K C f)(F:ar X.prog X.w X.K X.mg X.base CX k f fd ps sp)(hr:cb (k+1) X.A)(hg:Gl X x)(hm:X.mg x=some (.ref C))(hb:d9 X.K fd ps ds)(hd:aB dvs ds)(hx:kN CX X E)
 (ha:PA X (e::es) t) (hdb:(x == ("__debug__" : Str))=false:=by decide) (he:starEach (e::es) X.env=(false,eval e X.env)::starEach es X.env:=by rfl) (hpl:(backTo pos (starEach es X.env)).any (·.1)=false:=by rfl):
 PE X (.Call (.Name x p) (e::es) [] pos) (DU C sp dvs E t):=by
 intro pins s σ H Q I h
 refine wpAny_Call_Name_kw (sk I hg hm ?_ hdb)
 refine PySem.W.callWith_K (h₀:=X.base) I.ok.mod.kin M.kp (av (ha pos pins s σ H _ I h) λus s1 ⟨vs,H1,I1,r,q⟩=>⟨I1.kIn,?_⟩) he hpl
 exact Gz M F hr hb hd hx I1 r q
theorem OA(M:Mk X.K C f)(F:ar X.prog X.w X.K X.mg X.base CX k f fd ps sp)(hr:cb (k+1) X.A)(hg:Gl X x)(hm:X.mg x=some (.ref C))(hb:d9 X.K fd ps ds)(hd:aB dvs ds)(hx:kN CX X E)
 (hdb:(x == ("__debug__" : Str))=false:=by decide):PE X (.Call (.Name x p) [] [] pos) (DU C sp dvs E gX):=by
 intro pins s σ H Q I h
 refine wpAny_Call_Name_kw (sk I hg hm ?_ hdb)
 exact PySem.W.callWith_K0 I.kIn M.kp (Gz (us:=[]) M F hr hb hd hx I .nil h)
end
section
variable {X:Cx} {CX:fY} {k:Nat} {f C:Addr} {fd:FuncData} {ps ks:List Str} {sp:Sp} {E:XK} {x m:Str} {p pos apos kpos:Pos} {e o:Expr} {es:List Expr} {kws:List Keyword} {te ta:TE} {t tk:TA} {nm:Option Str}
structure UA(K:Frag)(fd:FuncData)(ps ks:List Str)(g:List Value->List Value->List Value)(gV:List V->List V->List V):Prop where
 to:∀(s:Shared) (us ws:List Value),K.In s.heap->(g us ws).length=ps.length->BindsTo s fd ⟨us,ks.zip ws⟩ (ps.zip (g us ws))
 rel:∀{vs:List V} {us:List Value} {zs:List V} {ws:List Value},aB vs us->aB zs ws->aB (gV vs zs) (g us ws)
variable {g:List Value->List Value->List Value} {gV:List V->List V->List V}
end
structure aF(N P:List Str)(sc:Scope):Prop where
 kind:sc.kind=.function
 co:sc.isCoroutine=false
 gen:sc.isGenerator=false
 nd:N.Nodup
 pre:N.take P.length=P
 par:∀x ∈ P,sc.names.lookup x=some .local\/sc.names.lookup x=some .cell
 nofree:∀y ∈ sc.names,y.2 ≠ .free
theorem JT{kindOf:Str->Option NameKind}{x:Str}:∀{binds:List (Str × Value)} {m:Str->Option Value},(∀v,(x,v) ∉ binds)->bindL kindOf binds m x=m x
 | [],_,_=>rfl
 | (n,v)::r,m,h=>by
   unfold bindL
   rw [JT λw hw=>h w (df _ hw)]
   split
   ·have:x ≠ n:=by rintro rfl;exact h v bO
    simp [this]
   ·rfl
theorem JV{kindOf:Str->Option NameKind}{x:Str}:∀{binds:List (Str × Value)} {m:Str->Option Value},(∀v,(x,v) ∉ binds)->bindC kindOf binds m x=m x
 | [],_,_=>rfl
 | (n,v)::r,m,h=>by
   unfold bindC
   rw [JV λw hw=>h w (df _ hw)]
   split
   ·rfl
   ·have:x ≠ n:=by rintro rfl;exact h v bO
    simp [this]
theorem JU{kindOf:Str->Option NameKind}{x:Str}{v:Value}:∀{P:List Str} {vs:List Value} {i:Nat} {m:Str->Option Value},P.Nodup->P[i]?=some x->vs[i]?=some v->kindOf x=some .local->
 bindL kindOf (P.zip vs) m x=some v
 | [],_,_,_,_,h,_,_=>by simp at h
 | _::_,[],_,_,_,_,h,_=>by simp at h
 | p::P,w::vs,0,m,nd,h1,h2,hk=>by
   simp at h1 h2;subst h1;subst h2
   show bindL kindOf ((p,w)::P.zip vs) m p=_
   unfold bindL
   rw [JT λv hv=>(jU.mp nd).1 (List.of_mem_zip hv).1,if_pos hk]
   simp
 | p::P,w::vs,i+1,m,nd,h1,h2,hk=>by
   show bindL kindOf ((p,w)::P.zip vs) m x=_
   unfold bindL
   exact JU (i:=i) (jU.mp nd).2 (by simpa using h1) (by simpa using h2) hk
theorem JW{kindOf:Str->Option NameKind}{x:Str}{v:Value}:∀{P:List Str} {vs:List Value} {i:Nat} {m:Str->Option Value},P.Nodup->P[i]?=some x->vs[i]?=some v->kindOf x ≠ some .local->
 bindC kindOf (P.zip vs) m x=some v
 | [],_,_,_,_,h,_,_=>by simp at h
 | _::_,[],_,_,_,_,h,_=>by simp at h
 | p::P,w::vs,0,m,nd,h1,h2,hk=>by
   simp at h1 h2;subst h1;subst h2
   show bindC kindOf ((p,w)::P.zip vs) m p=_
   unfold bindC
   rw [JV λv hv=>(jU.mp nd).1 (List.of_mem_zip hv).1,if_neg hk]
   simp
 | p::P,w::vs,i+1,m,nd,h1,h2,hk=>by
   show bindC kindOf ((p,w)::P.zip vs) m x=_
   unfold bindC
   exact JW (i:=i) (jU.mp nd).2 (by simpa using h1) (by simpa using h2) hk
noncomputable def start(N:List Str)(vs:List V):St:=vs.map some++List.replicate (N.length-vs.length) none
noncomputable def iD(CX:fY)(P:Program)(w:World)(K:Frag)(mg:Str->Option Value)(base:Heap)(N:List Str)(qual:Str)(scope:Scope)(f:Addr)(cd:Value)(A:Around)(outer:List Env)(s:Shared)(H:Hp)(E:XK):Cx where
 prog:=P
 w:=w
 K:=K
 mg:=mg
 base:=base
 A:=A.deeper (envOfC qual scope s.heap.objs.size f cd)
 N:=N
 s₀:=s
 H₀:=H
 env:=envOfC qual scope s.heap.objs.size f cd
 outer:=outer
 stack:=envOfC qual scope s.heap.objs.size f cd::outer
 ex:=[]
 calm:=true
 fn:=λ_=>true
 pn:=[]
 xe:=λe s'=>wpAny (model P w) (A.deeper (envOfC qual scope s.heap.objs.size f cd)) (leaving (envOfC qual scope s.heap.objs.size f cd) e) (λ_ s''=>CX outer H s E e s'') (λe' s''=>CX outer H s E e' s'') s'
theorem JC{sc:Scope}{n:Nat}{x:Str}(h:sc.names.lookup x=some .cell):∃c,(cellsFrom n sc.names []).lookup x=some c:=by
 have q:=PySem.W.cellsFrom_some sc.names n [] (.inl h)
 exact Option.isSome_iff_exists.mp q
theorem RY{CX:fY}{P:Program}{w:World}{K:Frag}{mg:Str->Option Value}{base:Heap}{N ps:List Str}{qual:Str}{scope:Scope}{f:Addr}{cd:Value}{A:Around}{outer:List Env}{s s1:Shared}{H:Hp}{E:XK}{us:List Value}{vs:List V}
 (S:aF N ps scope) (hd:A.handled=none) (e0:j2 P w K mg base A outer s H) (hl:vs.length=ps.length) (r:aB vs us)
 (x:InCallC s s.heap.objs.size (bindL (envOfC qual scope s.heap.objs.size f cd).kindOf (ps.zip us) λ_=>none) (cellsFrom (s.heap.objs.size+1) scope.names []) (bindC (envOfC qual scope s.heap.objs.size f cd).kindOf (ps.zip us) λ_=>none) s1):
 ae (iD CX P w K mg base N qual scope f cd A outer s H E) [] (start N vs) H s1:=by
 have hpl:ps.length<=N.length:=by have:=congrArg List.length S.pre;rw [dM] at this;omega
 obtain⟨h1,tk,rfl,hk⟩:=x.done
 have noA:∀b:Addr,b ∉ (iD CX P w K mg base N qual scope f cd A outer s H E).ex:=λb z=>absurd (show b ∈ ([]:List Addr) from z) (by simp)
 refine⟨⟨e0.mod,S.kind,rfl,rfl,aI _,λy z c h1 h2=>?_,λy hy=>?_,λy c _ h=>?_,λ_=>hd,Around.frames_deeper e0.frames,.inr ⟨rfl,rfl⟩,λb z=>absurd z (noA b),e0.bs,e0.bsz,λb _ _=>noA b,λb z=>absurd z (noA b),e0.funs,e0.frf⟩,
  rfl,e0.bare,Un.kept hk,⟨_,x.toInCall.ns,λi y v h1 h2 h3=>?_⟩,λy c h=>⟨_,x.cell y c h⟩,e0.hok.fresh (aI _),λy c h=>?_,λp hp=>absurd (show p ∈ ([]:List (Addr × Obj)) from hp) (by simp),e0.hok.kept hk,?_⟩
 ·exact name_of_addr x.apart (xl h1) (xl h2)
 ·have hy:scope.names.lookup y=some .cell\/scope.names.lookup y=some .free:=hy
  rcases hy with hy | hy
  ·exact JC hy
  ·exact absurd rfl (S.nofree _ (xl hy))
 ·exact nQ (x.above y c (xl h))
 ·have hi:i<vs.length:=by
   unfold start at h2
   by_cases hi:i<vs.length
   ·exact hi
   ·rw [iG (by simpa using hi)] at h2
    rw [Ko] at h2
    split at h2<;>cases h2
  have ha:vs[i]?=some v:=by
   unfold start at h2
   rw [iH (by simpa using hi),bS] at h2
   cases e:vs[i]? with
   | none=>rw [e] at h2;cases h2
   | some a=>rw [e] at h2;cases h2;rfl
  obtain⟨u,hu,rv⟩:=r.get ha
  have hp:ps[i]?=some y:=by
   rw [← S.pre,Kn (by omega)];exact h1
  have ndP:ps.Nodup:=by rw [← S.pre];exact S.nd.sublist (List.take_sublist _ _)
  refine⟨u,rv,?_⟩
  rcases S.par y (eU hp) with k | k
  ·exact .inl ⟨k,JU ndP hp hu k⟩
  ·obtain⟨c,e⟩:=JC (n:=s.heap.objs.size+1) k
   refine .inr ⟨.inl k,c,e,?_⟩
   have q:=x.cell y c e
   rw [JW ndP hp hu (by show scope.names.lookup y ≠ _;rw [k];decide)] at q
   exact q
 ·exact e0.hok.fresh (nQ (x.above y c (xl h)))
 ·unfold start
  show _=N.length
  rw [aq,aT,qm]
  omega
theorem sI{CX:fY}{P:Program}{w:World}{K:Frag}{mg:Str->Option Value}{base:Heap}{k:Nat}{f:Addr}{name qual:Str}{params:Arguments}{body:List Stmt}{scope:Scope}{dV kV doc pm cdv ct oc:Value}{an od:Option Addr}
 {osl:Array (Option Value)} {N ps:List Str} {sp:Sp} (lk:K.lookup f=some ⟨oc,od,.func (fnOf name qual params body scope dV kV doc pm an cdv ct),osl⟩) (hcd:codeIn K cdv qual=true) (S:aF N ps scope)
 (len:∀vs H Q E,sp vs H Q E->vs.length=ps.length)
 (hbody:∀(A:Around) (outer:List Env) (s:Shared) (H:Hp) (vs:List V) (Q:VK) (E:XK),cb k (A.deeper (envOfC qual scope s.heap.objs.size f cdv))->sp vs H Q E->
  ∃t,eJ (iD CX P w K mg base N qual scope f cdv A outer s H E) body t/\t { nx:=λ_ H'=>Q .non H',rt:=Q } (start N vs) H):
 ar P w K mg base CX (k+1) f (fnOf name qual params body scope dV kV doc pm an cdv ct) ps sp:=by
 refine⟨len,λA outer s H args us vs Q E hr e0 hb r hsp=>?_⟩
 have hl:=len _ _ _ _ hsp
 have KX:K.In s.heap:=e0.mod.kin.keeps λb o e=>(e0.bs b o e).1
 have lim:s.heap.NoLimit:=e0.mod.nolimit.keeps λb o e=>(e0.bs b o e).1
 have hkind:∀y ∈ ps.zip us,scope.names.lookup y.1=some .local\/(scope.names.lookup y.1=some .cell/\((cellsFrom (s.heap.objs.size+1) scope.names []).lookup y.1).isSome=true):=λ⟨n,v⟩ hy=>by
  rcases S.par n (List.of_mem_zip hy).1 with q | q
  ·exact .inl q
  ·exact .inr ⟨q,PySem.W.cellsFrom_some _ _ _ (.inl q)⟩
 refine codeAny_call_function hr.depth (KX _ _ lk) rfl S.co S.gen rfl (PySem.W.codeRec_of KX hcd) (hb _ _ _ _ ?_)
 refine wpAny_newFunctionEnv_cells S.kind hkind λenv he s1 x=>?_
 subst he
 refine⟨lim.keeps x.toInCall.keep,codeAny_func ?_⟩
 obtain⟨t,ht,hq⟩:=hbody A outer s H vs Q E (hr.deeper _) hsp
 have I:ae (iD CX P w K mg base N qual scope f cdv A outer s H E) [] (start N vs) H s1:=RY S hr.hd e0 hl r x
 refine wpAny_mono (ht [] s1 (start N vs) H _ I hq) (λfl s' hs=>?_) λe s' hs=>hs
 have fin:∀{σ':St} {H':Hp} {v:V} {u:Value},ae (iD CX P w K mg base N qual scope f cdv A outer s H E) [] σ' H' s'->aL v u->Q v H'->CE outer P w H s Q u s' :=
  λ {σ' H' v u} J rv q=>⟨v,H',J.os,J.bare,J.base,J.hok,rv,q⟩
 cases fl with
 | ret u =>
   obtain⟨v,σ',H',J,rv,q⟩:=hs
   exact fin J rv q
 | next =>
   obtain⟨σ',H',J,q⟩:=hs
   exact fin (v:=V.non) (u:=Value.none) J rfl q
 | brk =>
   obtain⟨_,_,_,q⟩:=hs
   exact False.elim q
 | cont =>
   obtain⟨_,_,_,q⟩:=hs
   exact False.elim q
end L2
namespace L2
open PySem PySem.Spec PyProof.Rows
section
variable {X:Cx} {x:Str} {p pos:Pos} {e:Expr} {es:List Expr} {t:TA} {id T:String} {r:List V->Hp->VK->Prop}
noncomputable def qZ(r:List V->Hp->VK->Prop)(t:TA):TE:=λσ H Q=>t σ H λvs H1=>r vs H1 Q
theorem dB(hc:dO X (.builtin id) r)(hg:Gl X x)(hm:X.mg x=none)(hv:bootBuiltins x=some (.builtin id))(ha:PA X (e::es) t)(hn:x ≠ "__name__":=by decide)(hdb:(x == ("__debug__" : Str))=false:=by decide)
 (he:starEach (e::es) X.env=(false,eval e X.env)::starEach es X.env:=by rfl) (hpl:(backTo pos (starEach es X.env)).any (·.1)=false:=by rfl):PE X (.Call (.Name x p) (e::es) [] pos) (qZ r t):=by
 intro pins s σ H Q I h
 refine wpAny_Call_Name_kw (iR I hg hm hv ?_ hn hdb)
 exact PyProof.Rows.callWith_builtin1 (av (ha pos pins s σ H _ I h) λus s1 ⟨vs,H1,I1,r1,q1⟩=>hc pins s1 σ H1 vs us Q I1 r1 q1) he hpl
theorem mW(hc:dO X (.type T) r)(hg:Gl X x)(hm:X.mg x=none)(hv:bootBuiltins x=some (.type T))(ha:PA X (e::es) t)(hn:x ≠ "__name__":=by decide)(hdb:(x == ("__debug__" : Str))=false:=by decide)
 (he:starEach (e::es) X.env=(false,eval e X.env)::starEach es X.env:=by rfl) (hpl:(backTo pos (starEach es X.env)).any (·.1)=false:=by rfl):PE X (.Call (.Name x p) (e::es) [] pos) (qZ r t):=by
 intro pins s σ H Q I h
 refine wpAny_Call_Name_kw (iR I hg hm hv ?_ hn hdb)
 exact m8 (av (ha pos pins s σ H _ I h) λus s1 ⟨vs,H1,I1,r1,q1⟩=>hc pins s1 σ H1 vs us Q I1 r1 q1) he hpl
end
end L2
namespace HT
open PySem PyProof.Rows
section
open PySem.SeqAt
open PySem.AutoSeq1 (wpAny_loadPart')
open PySem.MeetsSeq PySem.MeetsSeq2 PySem.MeetsSeq3
end
section
variable {prog:Program} {w:World} {A:Around} {E:Value->Shared->Prop} {s:Shared}
theorem cat_tup{t b:Addr}{vs ws:List Value}{Q:Value->Shared->Prop}(ht:IsTup s.heap t vs.toArray)(hb:IsTup s.heap b ws.toArray)(hv:vs ≠ [])
 (h1:ws=[]->Q (.ref t) s) (h2:ws ≠ []->Q (.ref s.heap.objs.size) { s with heap:=s.heap.push { cls:=.type "tuple",data:=.seq (vs++ws).toArray } })
 (hsz:vs.length+ws.length<=sizeLine):wpAny (model prog w) A (binaryOp .Add (.ref t) (.ref b)) Q E s:=by
 obtain⟨⟨cls,dd,data,sl⟩,ho,hc,n,hd⟩:=id ht
 obtain⟨⟨cls2,dd2,data2,sl2⟩,ho2,hc2,n2,hd2⟩:=id hb
 simp only at hc hd hc2 hd2
 subst hc hd hc2 hd2
 have e:vs.toArray++ws.toArray=(vs++ws).toArray:=by simp
 by_cases hw:ws=[]
 ·exact concat_meets ⟨_,ho,rfl⟩ ⟨_,ho2,rfl⟩ noFill_tuple_add seq_tuple_add PySem.F.slot_tuple_add PySem.F.entry_tuple_add (PySem.F.args_tuple_add_2 _ _)
   (tuple_addW1 t b vs.toArray ws.toArray n n2 dd dd2 sl sl2 (by simpa using hv) (by simp [hw])) ⟨ho,ho2,h1 hw⟩
 ·refine concat_meets ⟨_,ho,rfl⟩ ⟨_,ho2,rfl⟩ noFill_tuple_add seq_tuple_add PySem.F.slot_tuple_add PySem.F.entry_tuple_add (PySem.F.args_tuple_add_2 _ _)
   (tuple_addW2 t b vs.toArray ws.toArray n n2 dd dd2 sl sl2 (by simpa using hv) (by simpa using hw) (by rw [cZ,cZ];exact hsz)) ⟨ho,ho2,?_⟩
  rw [e]
  exact h2 hw
noncomputable def sIx(n d:Nat):Option Int->Nat
 | none=>d
 | some v=>if v<0 then (v+(n:Int)).toNat else min v.toNat n
theorem sIx_none(n d:Nat):sIx n d none=d:=rfl
theorem sIx_nat(n d k:Nat):sIx n d (some (k:Int))=min k n:=by
 show (if (k:Int)<0 then ((k:Int)+(n:Int)).toNat else min (k:Int).toNat n)=min k n
 rw [if_neg (by omega),eK]
theorem sIx_le(n d:Nat)(hd:d<=n)(o:Option Int):sIx n d o<=n:=by
 cases o with
 | none=>exact hd
 | some v =>
   show (if v<0 then (v+(n:Int)).toNat else min v.toNat n)<=n
   by_cases hv:v<0
   ·rw [if_pos hv];omega
   ·rw [if_neg hv];exact Nat.min_le_right _ _
end
end HT
namespace L2
open PySem PySem.Spec PyProof.Rows
abbrev TO:=St->Hp->(Option Int->Hp->Prop)->Prop
noncomputable def PO(X:Cx)(e:Option Expr)(t:TO):Prop :=
 ∀(pins:List (Addr × Obj)) (s:Shared) (σ:St) (H:Hp) (Q:Option Int->Hp->Prop),ae X pins σ H s->t σ H Q->
   wpAny (model X.prog X.w) X.A (evalPart e X.env) (λu s'=>∃o H',ae X pins σ H' s'/\IsPart u o/\Q o H') X.xe s
noncomputable def M4:TO:=λ_ H Q=>Q none H
noncomputable def LV(t:TE):TO:=λσ H Q=>t σ H λx H1=>∃i,x=.int i/\Q (some i) H1
section
variable {X:Cx} {e:Expr} {te:TE} {lo hi:Option Expr} {tl th:TO} {pos p2:Pos}
theorem fO:PO X none M4:=by
 intro pins s σ H Q I h
 rw [evalPart_none]
 exact wpAny_pure ⟨none,H,I,.none,h⟩
theorem dv(h:PE X e te):PO X (some e) (LV te):=by
 intro pins s σ H Q I hw
 rw [evalPart_some]
 refine av (h pins s σ H _ I hw) λu s1 ⟨x,H1,I1,r1,q1⟩=>?_
 obtain⟨i,rfl,q⟩:=q1
 obtain⟨t,rfl⟩:=r1
 exact⟨some i,H1,I1,.int i t,q⟩
noncomputable def m6(X:Cx)(r:V->Option Int->Option Int->Hp->VK->Prop):Prop :=
 ∀(pins:List (Addr × Obj)) (s:Shared) (σ:St) (H:Hp) (x:V) (v vl vu:Value) (lo hi:Option Int) (sl:Addr) (Q:VK),ae X pins σ H s->aL x v->s.heap.IsSliceOf sl vl vu .none->IsPart vl lo->IsPart vu hi->r x lo hi H Q->
   ∃T id,typeLookup (.type T) "__getitem__" = pure (some (.builtin id))/\s.TypeIs v T/\wpAny (model X.prog X.w) X.A (getItem v (.ref sl)) (EP X pins σ Q) X.xe s
theorem m6.or{r r':V->Option Int->Option Int->Hp->VK->Prop}(h:m6 X r)(h':m6 X r'):m6 X (λx lo hi H Q=>r x lo hi H Q\/r' x lo hi H Q):=by
 intro pins s σ H x v vl vu lo hi sl Q I rx hs pl pu q
 rcases q with q | q
 ·exact h pins s σ H x v vl vu lo hi sl Q I rx hs pl pu q
 ·exact h' pins s σ H x v vl vu lo hi sl Q I rx hs pl pu q
noncomputable def LS(r:V->Option Int->Option Int->Hp->VK->Prop)(te:TE)(tl th:TO):TE:=λσ H Q=>te σ H λx H1=>tl σ H1 λl H2=>th σ H2 λu H3=>r x l u H3 Q
theorem ez{r:V->Option Int->Option Int->Hp->VK->Prop}(hr:m6 X r)(he:PE X e te)(hl:PO X lo tl)(hu:PO X hi th):PE X (.Subscript e (.Slice lo hi none p2) pos) (LS r te tl th):=by
 intro pins s σ H Q I h
 refine Subscript_ (av (he pins s σ H _ I h) λv s1 ⟨x,H1,I1,r1,q1⟩=>?_)
 refine wpAny_Slice (av (hl pins s1 σ H1 _ I1 q1) λvl s2 ⟨l,H2,I2,pl,q2⟩=>av (hu pins s2 σ H2 _ I2 q2) λvu s3 ⟨u,H3,I3,pu,q3⟩=>?_)
 rw [evalPart_none]
 refine wpAny_pure ?_
 have I4:ae X pins σ H3 { s3 with heap:=s3.heap.push { cls:=.type "slice",data:=.fields #[vl,vu,.none] } }:=I3.kept (t':=s3.toks) λb ob q=>bP _ q
 obtain⟨T,id,hT,ht,hg⟩:=hr pins { s3 with heap:=s3.heap.push { cls:=.type "slice",data:=.fields #[vl,vu,.none] } } σ H3 x v vl vu l u s3.heap.objs.size Q I4 r1 (Heap.IsSliceOf.new ..) pl pu q3
 show wpAny (model X.prog X.w) X.A (subscriptTail e (.Slice lo hi none p2) v (.ref s3.heap.objs.size)) (EP X pins σ Q) X.xe { s3 with heap:=s3.heap.push { cls:=.type "slice",data:=.fields #[vl,vu,.none] } }
 exact tail_any (ops:=[.ref s3.heap.objs.size,v]) ht hT hg (by with_unfolding_all rfl)
noncomputable def uV(xs:List V)(lo hi:Option Int):List V:=(xs.drop (HT.sIx xs.length 0 lo)).take (HT.sIx xs.length xs.length hi-HT.sIx xs.length 0 lo)
theorem Ta(xs:List V)(lo hi:Option Int):(uV xs lo hi).length<=xs.length:=by
 unfold uV
 rw [dM,gR]
 omega
noncomputable def AD(K:Frag):R2:=λx y H Q=>∃a b xs ys,x=.ref a/\y=.ref b/\aG K H a xs/\aG K H b ys/\xs ≠ []/\xs.length+ys.length<=sizeLine/\
 (ys=[]->Q (.ref a) H)/\(ys ≠ []->∀p,H p=none->Q (.ref p) (ai H p (.tup (xs++ys))))
theorem aB.nil_iff{xs:List V}{us:List Value}(r:aB xs us):us=[] ↔ xs=[]:=by
 cases r with
 | nil=>simp
 | cons _ _=>simp
theorem Pc:bw X (binaryOp .Add) (AD X.K):=by
 intro pins s σ H x y v u Q I rx ry h
 obtain⟨a,b,xs,ys,rfl,rfl,ha,hb,hx,hz,q1,q2⟩:=h
 cases rx
 cases ry
 obtain⟨its,r1,p1,_⟩:=I.tuple ha
 obtain⟨its2,r2,p2,_⟩:=I.tuple hb
 refine HT.cat_tup p1 p2 (λz=>hx (r1.nil_iff.mp z)) (λz=>⟨.ref a,H,I,rfl,q1 (r2.nil_iff.mp z)⟩) (λz=>?_) (by rw [← r1.length,← r2.length];exact hz)
 refine⟨.ref s.heap.objs.size,_,I.laid (t':=s.toks) (o:=.tup (xs++ys)) (λb ob q=>bP _ q) (aI _) ?_,rfl,q2 (λw=>z (r2.nil_iff.mpr w)) _ (I.hok.fresh (aI _))⟩
 exact⟨by rw [aq];exact hz,_,r1.append r2,IsTup.new _ _⟩
end
end L2
namespace L2
open PySem PySem.Spec PyProof.Rows
noncomputable def iS(n:Nat)(i:Int):Option Nat:=if 0<=i then (if i<n then some i.toNat else none) else if -(n:Int)<=i then some (i+n).toNat else none
noncomputable def dz{α:Type}(xs:List α)(i:Int):Option α:=(iS xs.length i).bind λj=>xs[j]?
theorem IF{n:Nat}{i:Int}{j:Nat}(h:iS n i=some j):seqIndex? i n=some j/\j<n/\-(n:Int)<=i/\i<n:=by
 unfold iS at h
 by_cases h0:0<=i
 ·rw [if_pos h0] at h
  by_cases h1:i<n
  ·rw [if_pos h1] at h
   have e:i.toNat=j:=dS h
   exact⟨by rw [seqIndex_of h0 h1,e],by omega,by omega,h1⟩
  ·rw [if_neg h1] at h;cases h
 ·rw [if_neg h0] at h
  by_cases h1:-(n:Int)<=i
  ·rw [if_pos h1] at h
   have e:(i+n).toNat=j:=dS h
   exact⟨by rw [seqIndex_neg (by omega) h1,e],by omega,h1,by omega⟩
  ·rw [if_neg h1] at h;cases h
theorem va{α:Type}{xs:List α}{i:Int}{v:α}(h:dz xs i=some v):∃j,seqIndex? i xs.length=some j/\xs[j]?=some v/\j<xs.length/\-(xs.length:Int)<=i/\i<xs.length:=by
 unfold dz at h
 cases e:iS xs.length i with
 | none=>rw [e] at h;cases h
 | some j =>
   rw [e] at h
   obtain⟨h1,h2,h3,h4⟩:=IF e
   exact⟨j,h1,h,h2,h3,h4⟩
theorem fR{α:Type}{xs:List α}{j:Nat}{v:α}(h:xs[j]?=some v):dz xs (j:Int)=some v:=by
 have hj:j<xs.length:=(bh.mp h).1
 have e:iS xs.length (j:Int)=some j:=by
  unfold iS
  rw [if_pos (by omega),if_pos (by omega)];simp
 unfold dz;rw [e];exact h
noncomputable def Ke(b:Expr):Prop:=∀o i,subscripted b false o i=operate [o,i] (getItem o i)
noncomputable def jZ(X:Cx)(r:R2):Prop :=
 ∀(value slice:Expr) (pins:List (Addr × Obj)) (s:Shared) (σ:St) (H:Hp) (x y:V) (v u:Value) (Q:VK),ae X pins σ H s->aL x v->aL y u->r x y H Q->
   subscripted slice false v u=operate [v,u] (getItem v u)->wpAny (model X.prog X.w) X.A (subscriptTail value slice v u) (EP X pins σ Q) X.xe s
noncomputable def gP(X:Cx)(id:String)(r:V->List V->Hp->VK->Prop):Prop :=
 ∀(pins:List (Addr × Obj)) (s:Shared) (σ:St) (H:Hp) (x:V) (xs:List V) (v:Value) (us:List Value) (Q:VK),ae X pins σ H s->aL x v->aB xs us->r x xs H Q->
   wpAny (model X.prog X.w) X.A (call (.builtin id) (v::us)) (EP X pins σ Q) X.xe s
section
variable {X:Cx} {a b:Expr} {ta tb:TE} {pos:Pos}
theorem jZ.or{r r':R2}(h:jZ X r)(h':jZ X r'):jZ X (λx y H Q=>r x y H Q\/r' x y H Q):=by
 intro value slice pins s σ H x y v u Q I rx ry q hs
 rcases q with q | q
 ·exact h value slice pins s σ H x y v u Q I rx ry q hs
 ·exact h' value slice pins s σ H x y v u Q I rx ry q hs
theorem gP.or{id:String}{r r':V->List V->Hp->VK->Prop}(h:gP X id r)(h':gP X id r'):gP X id (λx xs H Q=>r x xs H Q\/r' x xs H Q):=by
 intro pins s σ H x xs v us Q I rx rs q
 rcases q with q | q
 ·exact h pins s σ H x xs v us Q I rx rs q
 ·exact h' pins s σ H x xs v us Q I rx rs q
theorem Hs{r:R2}(hr:jZ X r)(ha:PE X a ta)(hb:PE X b tb)(hs:Ke b):PE X (.Subscript a b pos) (iM r ta tb):=by
 intro pins s σ H Q I h
 exact Subscript_ (C8 ha hb I h λv u s2 x y H2 I2 rx ry q=>hr a b pins s2 σ H2 x y v u Q I2 rx ry q (hs _ _))
noncomputable def GS(K:Frag):R2:=λx y H Q=>∃p xs i v,x=.ref p/\y=.int i/\aD K H p xs/\dz xs i=some v/\Q v H
noncomputable def GQ(K:Frag):R2:=λx y H Q=>∃p xs i v,x=.ref p/\y=.int i/\aG K H p xs/\dz xs i=some v/\Q v H
noncomputable def GR:R2:=λx y H Q=>∃z i c,x=.str z/\y=.int i/\z.length<=sizeLine/\dz z.cps.toList i=some c/\Q (.str ⟨#[c]⟩) H
theorem RO:jZ X (GS X.K):=by
 intro value slice pins s σ H x y v u Q I rx ry h hs
 obtain⟨p,xs,i,z,rfl,rfl,hq,he,q⟩:=h
 cases rx
 obtain⟨t,rfl⟩:=ry
 obtain⟨its,r,pl,hz⟩:=I.list hq
 obtain⟨j,h1,h2,h3,h4,h5⟩:=va he
 obtain⟨w,ew,rw'⟩:=r.get h2
 have hl:=r.length
 have hn:=n9
 have fin:EP X pins σ Q w s:=⟨z,H,I,rw',q⟩
 by_cases h0:0<=i
 ·have hj:i.toNat=j:=by
   rw [seqIndex_of h0 h5] at h1
   exact dS h1
  exact item_listR pl.isList h0 (by omega) (by rw [hj];simpa using ew) fin hs
 ·have hj:(i+(its.toArray.size:Int)).toNat=j:=by
   rw [seqIndex_neg (by omega) h4] at h1
   rw [cZ,← hl]
   exact dS h1
  exact subscriptTail_builtinR (x:=w) pl.isList.typeIs slot_list_getitem.lookup
   (wpAny_getItem_list_neg (Q:=λr s'=>r=w/\EP X pins σ Q r s') pl.isList (by omega) (by rw [cZ]<;>omega) (by omega) (by rw [hj];simpa using ew) ⟨rfl,fin⟩) hs
theorem RK:jZ X (GQ X.K):=by
 intro value slice pins s σ H x y v u Q I rx ry h hs
 obtain⟨p,xs,i,z,rfl,rfl,hq,he,q⟩:=h
 cases rx
 obtain⟨t,rfl⟩:=ry
 obtain⟨its,r,pl,hz⟩:=I.tuple hq
 obtain⟨j,h1,h2,h3,h4,h5⟩:=va he
 obtain⟨w,ew,rw'⟩:=r.get h2
 have hl:=r.length
 have hn:=n9
 have fin:EP X pins σ Q w s:=⟨z,H,I,rw',q⟩
 exact subscriptTail_builtinR (x:=w) pl.typeIs slot_tuple_getitem.lookup
  (getItem_tuple (j:=j) (Q:=λr s'=>r=w/\EP X pins σ Q r s') pl (by omega) (by omega) (by rw [cZ,← hl];exact h1) (by simpa using ew) ⟨rfl,fin⟩) hs
theorem RM:jZ X GR:=by
 intro value slice pins s σ H x y v u Q I rx ry h hs
 obtain⟨z,i,c,rfl,rfl,hz,he,q⟩:=h
 obtain⟨t,rfl⟩:=rx
 obtain⟨t',rfl⟩:=ry
 obtain⟨j,h1,h2,h3,h4,h5⟩:=va he
 have hl:z.cps.toList.length=z.length:=by simp [Str.length]
 rw [hl] at h1 h4 h5
 have hn:=n9
 exact tail_any (typeIs_str s z t) slot_str_getitem.lookup (getItem_str (c:=c) (by
  have e1:decide (i< -(2^63:Int))=false:=decide_eq_false (by omega)
  have e2:decide (i>=2^63)=false:=decide_eq_false (by omega)
  rw [e1,e2,Bool.or_false]) (by rw [h1];simpa using h2) ⟨.str ⟨#[c]⟩,H,I.tok _,⟨_,rfl⟩,q⟩) hs
noncomputable def lg(K:Frag):R2:=λx y H Q=>GS K x y H Q\/GQ K x y H Q\/GR x y H Q
theorem RN:jZ X (lg X.K):=RO.or (RK.or RM)
theorem QZ(its:List Value)(n j:Nat)(u:Value):Obj.mapSeq (·.setIfInBounds j u) { cls:=.type "list",data:=.seq its.toArray n }={ cls:=.type "list",data:=.seq (its.set j u).toArray n }:=by
 simp [Obj.mapSeq]
theorem ae.lst{pins:List (Addr × Obj)}{σ:St}{H:Hp}{s:Shared}{p:Addr}{xs:List V}(I:ae X pins σ H s)(h:H p=some (.lst xs)):
 ∃(its:List Value) (n:Nat),aB xs its/\s.heap.get? p=some { cls:=.type "list",data:=.seq its.toArray n }/\xs.length<=sizeLine:=by
 obtain⟨z,its,n,r,e⟩:=I.hok p _ h
 exact⟨its,n,r,e,z⟩
theorem ae.lstUpd{pins:List (Addr × Obj)}{σ:St}{H:Hp}{s:Shared}{p:Addr}{xs ys:List V}{its its':List Value}{n n':Nat}{f:Obj->Obj}(I:ae X pins σ H s)(h:H p=some (.lst xs))
 (ho:s.heap.get? p=some { cls:=.type "list",data:=.seq its.toArray n }) (hf:f { cls:=.type "list",data:=.seq its.toArray n }={ cls:=.type "list",data:=.seq its'.toArray n' }) (r:aB ys its') (hz:ys.length<=sizeLine) (t:Nat):
 ae X pins σ (ai H p (.lst ys)) { s with heap:=s.heap.update p f,toks:=t }:=by
 have e:(s.heap.update p f).get? p=some { cls:=.type "list",data:=.seq its'.toArray n' }:=by
  rw [xU f ho (by rw [hf]<;>rfl),hf]
 refine I.write (x:=p) (e:=p) (by rw [h];trivial) (.inl rfl) (λb u hb q=>(qz _ _ (dG hb)).trans q) ⟨_,e⟩ ?_
 exact⟨hz,its',n',r,e⟩
noncomputable def GJ:V->V->V->Hp->(Hp->Prop)->Prop:=λo i v H Q=>∃p xs k j,o=.ref p/\i=.int k/\H p=some (.lst xs)/\iS xs.length k=some j/\Q (ai H p (.lst (xs.set j v)))
theorem Gg:Kf X GJ:=by
 intro pins s σ H o i v ov iv u Q I ro ri rv h
 obtain⟨p,xs,k,j,rfl,rfl,hp,hj,q⟩:=h
 cases ro
 obtain⟨t,rfl⟩:=ri
 obtain⟨its,n,r,ho,hz⟩:=I.lst hp
 obtain⟨h1,h2,h3,h4⟩:=IF hj
 have hl:=r.length
 have hn:=n9
 have I':ae X pins σ (ai H p (.lst (xs.set j v))) { s with heap:=s.heap.update p (Obj.mapSeq (·.setIfInBounds j u)) } :=
  I.lstUpd hp ho (QZ its n j u) (r.set rv j) (by rw [List.length_set];exact hz) s.toks
 by_cases h0:0<=k
 ·have hk:k.toNat=j:=by
   rw [seqIndex_of h0 h4] at h1
   exact dS h1
  exact PySem.W.ki_setAt ho h0 (by omega) (by rw [cZ,← hl];exact h4) (by rw [hk];exact⟨_,I',q⟩)
 ·have hk:(k+(its.toArray.size:Int)).toNat=j:=by
   rw [seqIndex_neg (by omega) h3] at h1
   rw [cZ,← hl]
   exact dS h1
  exact PySem.W.ki_setBack ho (by omega) (by rw [cZ,← hl];exact h3) (by omega) (by rw [hk];exact⟨_,I',q⟩)
theorem G8(lo hi:Option Int)(n:Nat):(sliceBounds lo hi none n).1=((HT.sIx n 0 lo:Nat):Int)/\(sliceBounds lo hi none n).2.1=((HT.sIx n n hi:Nat):Int)/\(sliceBounds lo hi none n).2.2=1:=by
 refine⟨?_,?_,rfl⟩
 ·cases lo with
  | none=>simp [sliceBounds,HT.sIx]
  | some i =>
    simp only [sliceBounds,HT.sIx,Option.getD_none,show (1:Int)>0 by decide,if_true]
    by_cases h:i<0
    ·simp only [h,if_true]<;>omega
    ·simp only [h,if_false]<;>omega
 ·cases hi with
  | none=>simp [sliceBounds,HT.sIx]
  | some i =>
    simp only [sliceBounds,HT.sIx,Option.getD_none,show (1:Int)>0 by decide,if_true]
    by_cases h:i<0
    ·simp only [h,if_true]<;>omega
    ·simp only [h,if_false]<;>omega
theorem MB(its:List Value)(lo hi:Option Int):slicePick its.toArray lo hi none=((its.drop (HT.sIx its.length 0 lo)).take (HT.sIx its.length its.length hi-HT.sIx its.length 0 lo)).toArray:=by
 obtain⟨h1,h2,h3⟩:=G8 lo hi its.toArray.size
 unfold slicePick
 rw [h1,h2,h3]
 simp only [sliceRange_one,pick_run,cZ]<;>rfl
noncomputable def NM(K:Frag):V->Option Int->Option Int->Hp->VK->Prop:=λx lo hi H Q=>∃a xs,x=.ref a/\aD K H a xs/\∀p,H p=none->Q (.ref p) (ai H p (.lst (uV xs lo hi)))
theorem MD:m6 X (NM X.K):=by
 intro pins s σ H x v vl vu lo hi sl Q I rx hs pl pu h
 obtain⟨a,xs,rfl,hx,q⟩:=h
 cases rx
 obtain⟨its,r,ht,hz⟩:=I.list hx
 have hlen:=r.length
 refine⟨"list",_,slot_list_getitem.lookup,ht.isList.typeIs,?_⟩
 refine wpAny_getItem_list_slice ht.isList hs pl pu .none (by simp) ?_ (by rw [cZ]<;>omega)
 rw [MB,← hlen]
 refine⟨.ref s.heap.objs.size,_,I.laid (t':=s.toks) (o:=.lst (uV xs lo hi)) (λb ob q=>bP _ q) (aI _) ?_,rfl,q _ (I.hok.fresh (aI _))⟩
 exact⟨c7 (Ta xs lo hi) hz,_,0,(r.drop (HT.sIx xs.length 0 lo)).take (HT.sIx xs.length xs.length hi-HT.sIx xs.length 0 lo),cM _ rfl⟩
noncomputable def fo:V->Bool
 | .non=>true
 | .bl _=>true
 | .int _=>true
 | .str _=>true
 | _=>false
noncomputable def eS:V->V->Bool
 | .non,.non=>true
 | .bl a,.bl b=>a == b
 | .bl a,.int b=>(if a then 1 else 0) == b
 | .int a,.bl b=>a == (if b then 1 else 0)
 | .int a,.int b=>a == b
 | .str a,.str b=>a == b
 | _,_=>false
theorem BQ{A:Around}{s:Shared}{y x:V}{u v:Value}(ry:aL y u)(rx:aL x v)(fy:fo y=true)(fx:fo x=true):SeqAt.EqAt A s u v (eS y x):=by
 cases y with
 | non =>
   cases ry
   cases x with
   | non=>cases rx;exact SeqAt.EqAt.same _
   | bl b=>cases rx;exact SeqAt.EqAt.none_bool b
   | int b=>obtain⟨t,rfl⟩:=rx;exact SeqAt.EqAt.none_int b t
   | str b=>obtain⟨t,rfl⟩:=rx;exact SeqAt.EqAt.none_str b t
   | _=>exact absurd (show false=true from fx) cz
 | bl a =>
   cases ry
   cases x with
   | non=>cases rx;exact SeqAt.EqAt.bool_none a
   | bl b=>cases rx;exact SeqAt.EqAt.bool_bool a b
   | int b=>obtain⟨t,rfl⟩:=rx;exact SeqAt.EqAt.bool_int a b t
   | str b=>obtain⟨t,rfl⟩:=rx;exact SeqAt.EqAt.bool_str a b t
   | _=>exact absurd (show false=true from fx) cz
 | int a =>
   obtain⟨t',rfl⟩:=ry
   cases x with
   | non=>cases rx;exact SeqAt.EqAt.int_none a t'
   | bl b=>cases rx;exact SeqAt.EqAt.int_bool a t' b
   | int b=>obtain⟨t,rfl⟩:=rx;exact SeqAt.EqAt.int_int a t' b t
   | str b=>obtain⟨t,rfl⟩:=rx;exact SeqAt.EqAt.int_str a t' b t
   | _=>exact absurd (show false=true from fx) cz
 | str a =>
   obtain⟨t',rfl⟩:=ry
   cases x with
   | non=>cases rx;exact SeqAt.EqAt.str_none a t'
   | bl b=>cases rx;exact SeqAt.EqAt.str_bool a t' b
   | int b=>obtain⟨t,rfl⟩:=rx;exact SeqAt.EqAt.str_int a t' b t
   | str b=>obtain⟨t,rfl⟩:=rx;exact SeqAt.EqAt.str_str a t' b t
   | _=>exact absurd (show false=true from fx) cz
 | _=>exact absurd (show false=true from fy) cz
noncomputable def gi(x:V)(u:Value):Bool:=match u with
 | .none=>eS .non x
 | .bool b=>eS (.bl b) x
 | .int i _=>eS (.int i) x
 | .str z _=>eS (.str z) x
 | _=>false
theorem Jg{x y:V}{u:Value}(r:aL y u)(f:fo y=true):gi x u=eS y x:=by
 cases y with
 | non=>cases r;rfl
 | bl b=>cases r;rfl
 | int i=>obtain⟨t,rfl⟩:=r;rfl
 | str z=>obtain⟨t,rfl⟩:=r;rfl
 | _=>exact absurd (show false=true from f) cz
theorem pY{x:V}:∀{xs:List V} {us:List Value},aB xs us->xs.all fo=true->us.any (gi x)=xs.any λy=>eS y x
 | _,_,.nil,_=>rfl
 | y::xs,u::us,.cons r t,f=>by
   rw [nZ,fZ] at f
   rw [nY,nY,Jg r f.1,pY t f.2]
theorem pj{A:Around}{s:Shared}{x:V}{v:Value}(rx:aL x v)(fx:fo x=true):∀{xs:List V} {us:List Value},aB xs us->xs.all fo=true->∀u ∈ us,SeqAt.EqAt A s u v (gi x u)
 | _,_,.nil,_=>λu hu=>by cases hu
 | y::xs,u::us,.cons r t,f=>λu' hu=>by
   rw [nZ,fZ] at f
   rcases bE.mp hu with rfl | hu
   ·rw [Jg r f.1];exact BQ r rx f.1 fx
   ·exact pj rx fx t f.2 u' hu
noncomputable def IL(x:V)(xs:List V):Bool:=xs.any λy=>eS y x
noncomputable def GW(K:Frag)(neg:Bool):R2:=λx y H Q=>∃p xs,y=.ref p/\(aD K H p xs\/aG K H p xs)/\fo x=true/\xs.all fo=true/\Q (.bl (if neg then !IL x xs else IL x xs)) H
theorem P5:bw X (compareOp .In) (GW X.K false):=by
 intro pins s σ H x y v u Q I rx ry h
 obtain⟨p,xs,rfl,hq,fx,fs,q⟩:=h
 cases ry
 rcases hq with hq | hq
 ·obtain⟨its,r,pl,hz⟩:=I.list hq
  refine SeqAt.in_listAt (gi x) pl.isList (λw hw=>pj rx fx r fs w (by simpa using hw)) ⟨.bl _,H,I,rfl,?_⟩
  rw [show its.toArray.any (gi x)=its.any (gi x) by simp,pY r fs]
  exact q
 ·obtain⟨its,r,pl,hz⟩:=I.tuple hq
  refine SeqAt.in_tupleAt (gi x) pl (λw hw=>pj rx fx r fs w (by simpa using hw)) ⟨.bl _,H,I,rfl,?_⟩
  rw [show its.toArray.any (gi x)=its.any (gi x) by simp,pY r fs]
  exact q
theorem OO:bw X (compareOp .NotIn) (GW X.K true):=by
 intro pins s σ H x y v u Q I rx ry h
 obtain⟨p,xs,rfl,hq,fx,fs,q⟩:=h
 cases ry
 rcases hq with hq | hq
 ·obtain⟨its,r,pl,hz⟩:=I.list hq
  refine SeqAt.notIn_listAt (gi x) pl.isList (λw hw=>pj rx fx r fs w (by simpa using hw)) ⟨.bl _,H,I,rfl,?_⟩
  rw [show its.toArray.any (gi x)=its.any (gi x) by simp,pY r fs]
  exact q
 ·obtain⟨its,r,pl,hz⟩:=I.tuple hq
  refine SeqAt.notIn_tupleAt (gi x) pl (λw hw=>pj rx fx r fs w (by simpa using hw)) ⟨.bl _,H,I,rfl,?_⟩
  rw [show its.toArray.any (gi x)=its.any (gi x) by simp,pY r fs]
  exact q
theorem ON:bw X (compareOp .NotIn) (λx y H Q=>∃i j,x=.str i/\y=.str j/\Q (.bl (!(!(Builtin.Str.occurrences j i 0 j.length 1).isEmpty))) H):=by
 intro pins s σ H x y v u Q I rx ry h
 obtain⟨i,j,rfl,rfl,q⟩:=h
 obtain⟨t,rfl⟩:=rx
 obtain⟨t',rfl⟩:=ry
 exact notIn_str ⟨.bl _,H,I,rfl,q⟩
theorem dO.or{f:Value}{r r':List V->Hp->VK->Prop}(h:dO X f r)(h':dO X f r'):dO X f (λxs H Q=>r xs H Q\/r' xs H Q):=by
 intro pins s σ H xs us Q I rs q
 rcases q with q | q
 ·exact h pins s σ H xs us Q I rs q
 ·exact h' pins s σ H xs us Q I rs q
theorem TK:dO X (.type "list") (λxs H Q=>∃p ys,xs=[.ref p]/\(aD X.K H p ys\/aG X.K H p ys)/\∀l,H l=none->Q (.ref l) (ai H l (.lst ys))):=by
 intro pins s σ H xs us Q I r h
 obtain⟨p,ys,rfl,hq,q⟩:=h
 obtain⟨u,rfl,rx⟩:=eX r
 cases rx
 have fin:∀(its:List Value),aB ys its->ys.length<=sizeLine->∀(h':Heap) (c':Nat),(∀b o',s.heap.get? b=some o'->h'.get? b=some o')->
  h'.get? s.heap.objs.size=some { cls:=.type "list",dict:=none,data:=.seq its.toArray c',slots:=#[] }->EP X pins σ Q (.ref s.heap.objs.size) { s with heap:=h' }:=λits r' hz h' c' kp e =>
  ⟨.ref s.heap.objs.size,_,I.laid (t':=s.toks) kp (aI _) (show cc X.prog X.w _ h' _ (.lst ys) from ⟨hz,its,c',r',e⟩),rfl,q _ (I.hok.fresh (aI _))⟩
 rcases hq with hq | hq
 ·obtain⟨its,r',pl,hz⟩:=I.list hq
  have hlen:=r'.length
  obtain⟨o,ho,hc,n,hd⟩:=pl.isList
  exact call_list_seq p (.inl rfl) ho hc hd (λh' c' kp e=>fin its r' hz h' c' kp e) (by simp only [cZ]<;>omega)
 ·obtain⟨its,r',pl,hz⟩:=I.tuple hq
  have hlen:=r'.length
  obtain⟨o,ho,hc,n,hd⟩:=pl
  exact call_list_seq p (.inr rfl) ho hc hd (λh' c' kp e=>fin its r' hz h' c' kp e) (by simp only [cZ]<;>omega)
theorem Tz:dO X (.type "tuple") (λxs H Q=>∃p ys,xs=[.ref p]/\((aD X.K H p ys/\∀l,H l=none->Q (.ref l) (ai H l (.tup ys)))\/(aG X.K H p ys/\Q (.ref p) H))):=by
 intro pins s σ H xs us Q I r h
 obtain⟨p,ys,rfl,h⟩:=h
 obtain⟨u,rfl,rx⟩:=eX r
 cases rx
 rcases h with⟨hq,q⟩ | ⟨hq,q⟩
 ·obtain⟨its,r',pl,hz⟩:=I.list hq
  have hlen:=r'.length
  refine call_tuple_list pl.isList (λh' kp=>?_) (by simp only [cZ]<;>omega)
  have I1:ae X pins σ H { s with heap:=h' }:=I.kept (t':=s.toks) kp
  have I2:ae X pins σ (ai H h'.objs.size (.tup ys)) { s with heap:=h'.push { cls:=.type "tuple",data:=.seq its.toArray } } :=
   I1.laid (t':=s.toks) (λb o e=>bP _ e) (aI _) (show cc X.prog X.w _ _ _ (.tup ys) from ⟨hz,its,r',IsTup.new _ _⟩)
  exact⟨.ref h'.objs.size,_,I2,rfl,q _ (I1.hok.fresh (aI _))⟩
 ·obtain⟨its,r',pl,hz⟩:=I.tuple hq
  exact call_tuple_same pl ⟨.ref p,H,I,rfl,q⟩
noncomputable def qR(K:Frag)(T:String)(x:V)(H:Hp):Prop:=match x with
 | .str _=>T = "str"
 | .int _=>T = "int"
 | .ref p=>(T = "list" /\ ∃xs,aD K H p xs)\/(T = "tuple" /\ ∃o,K.lookup p=some o/\o.cls=.type "tuple" /\ o.dict=none)\/
  (T = "dict" /\ ((∃kvs,H p=some (.dK kvs))\/∃kvs,H p=some (.dT kvs)))\/(T = "set" /\ ∃S n,H p=some (.set S n))
 | _=>False
theorem qQ{pins:List (Addr × Obj)}{σ:St}{H:Hp}{s:Shared}{T:String}{x:V}{v:Value}(I:ae X pins σ H s)(r:aL x v)(ty:qR X.K T x H):
 s.TypeIs v T/\∀a,v=.ref a->∃ob,s.heap.get? a=some ob/\ob.dict=none:=by
 cases x with
 | str z =>
   obtain⟨t,rfl⟩:=r
   cases (show T = "str" from ty)
   exact⟨typeIs_str s z t,λ_ e=>nomatch e⟩
 | int i =>
   obtain⟨t,rfl⟩:=r
   cases (show T = "int" from ty)
   exact⟨typeIs_int s i t,λ_ e=>nomatch e⟩
 | ref p =>
   cases r
   rcases ty with⟨rfl,xs,hq⟩ | ⟨rfl,o,hk,hc,hd⟩ | ⟨rfl,hk⟩ | ⟨rfl,S,n,hk⟩
   ·obtain⟨its,_,pl,_⟩:=I.list hq
    refine⟨pl.isList.typeIs,λa e=>?_⟩
    cases e
    obtain⟨o,n,e,c,hd,_⟩:=pl
    exact⟨o,e,hd⟩
   ·refine⟨⟨o,I.kIn p o hk,hc⟩,λa e=>?_⟩
    cases e
    exact⟨o,I.kIn _ o hk,hd⟩
   ·have z:∃o,s.heap.get? p=some o/\o.ExactDict:=by
     rcases hk with⟨kvs,hk⟩ | ⟨kvs,hk⟩
     ·obtain⟨_,_,_,_,o,_,_,e,ex,_⟩:=I.hok p _ hk
      exact⟨o,e,ex⟩
     ·obtain⟨_,_,_,_,o,_,_,e,ex,_⟩:=I.hok p _ hk
      exact⟨o,e,ex⟩
    obtain⟨o,e,ex⟩:=z
    refine⟨⟨o,e,ex.1⟩,λa e2=>?_⟩
    cases e2
    exact⟨o,e,ex.2.1⟩
   ·obtain⟨o,_,_,_,e,ex,_⟩:=I.hok p _ hk
    refine⟨⟨o,e,ex.1⟩,λa e2=>?_⟩
    cases e2
    exact⟨o,e,ex.2.1⟩
 | _=>exact False.elim ty
noncomputable def Mm(K:Frag)(T:String)(r:V->List V->Hp->VK->Prop)(to:TE):TE:=λσ H Q=>to σ H λx H1=>qR K T x H1/\r x [] H1 Q
noncomputable def DX(K:Frag)(T:String)(r:V->List V->Hp->VK->Prop)(to:TE)(t:TA):TE:=λσ H Q=>to σ H λx H1=>qR K T x H1/\t σ H1 λxs H2=>r x xs H2 Q
variable {o e:Expr} {es:List Expr} {to:TE} {t:TA} {name:Str} {apos cpos:Pos} {T id:String} {r:V->List V->Hp->VK->Prop}
theorem OJ(pa:PlainAttrs T)(slot:Slot T name id)(hty:typeOf (.builtin id)=pure (.type "method_descriptor"))(hm:gP X id r)(ho:PE X o to)
 (hbase:attributeBase o name X.env (eval o X.env)=eval o X.env:=by rfl) (hline:(apos.endLine == cpos.line)=true:=by rfl):PE X (.Call (.Attribute o name apos) [] [] cpos) (Mm X.K T r to):=by
 intro pins s σ H Q I h
 refine wpAny_Call_method0_late hbase hline (av (ho pins s σ H _ I h) λv s1 ⟨x,H1,I1,r1,ty,q1⟩=>?_)
 obtain⟨h1,h2⟩:=qQ I1 r1 ty
 exact⟨T,id,pa,slot,hty,h1,h2,my rfl (PySem.evalArgs_none (hm pins s1 σ H1 x [] v [] Q I1 r1 .nil q1))⟩
theorem fh(pa:PlainAttrs T)(slot:Slot T name id)(hty:typeOf (.builtin id)=pure (.type "method_descriptor"))(hm:gP X id r)(ho:PE X o to)(ha:PA X (e::es) t)
 (hbase:attributeBase o name X.env (eval o X.env)=eval o X.env:=by rfl)
 (hfew:((backTo cpos (starEach (e::es) X.env)).all (λx=>!x.1) && (backToKw cpos (keywordEach [] X.env)).all (λx=>x.1.isSome)
  && decide ((e::es).length+([]:List Keyword).length+(if ([]:List Keyword).isEmpty then 0 else 1)<30))=true:=by rfl)
 (hline:(apos.endLine == cpos.line)=true:=by rfl) (hs:starEach (e::es) X.env=(false,eval e X.env)::starEach es X.env:=by rfl) (hplain:(backTo cpos (starEach es X.env)).any (·.1)=false:=by rfl):
 PE X (.Call (.Attribute o name apos) (e::es) [] cpos) (DX X.K T r to t):=by
 intro pins s σ H Q I h
 refine wpAny_Call_method_late hbase hfew hline rfl (av (ho pins s σ H _ I h) λv s1 ⟨x,H1,I1,r1,ty,q1⟩=>?_)
 obtain⟨h1,h2⟩:=qQ I1 r1 ty
 refine⟨T,id,pa,slot,hty,h1,h2,?_⟩
 have hA:=ha cpos pins s1 σ H1 _ I1 q1
 rw [hs] at hA ⊢
 refine my (by show (false || (backTo cpos (starEach es X.env)).any (·.1))=false;rw [hplain]<;>rfl) (oh ?_)
 exact av hA λus s2 ⟨vs,H2,I2,r2,q2⟩=>hm pins s2 σ H2 x vs v us Q I2 r1 r2 q2
end
end L2
namespace L2
open PySem PySem.Spec PyProof.Rows
noncomputable def Kj(X:Cx)(id:String)(r:V->List V->Hp->VK->Prop):Prop :=
 ∀(pins:List (Addr × Obj)) (s:Shared) (σ:St) (H:Hp) (x:V) (xs:List V) (v:Value) (us:List Value) (Q:VK),ae X pins σ H s->aL x v->aB xs us->r x xs H Q->
   wpAny (model X.prog X.w) X.A (call (.builtin id) (v::us)) (EP X pins σ Q) X.xe s
theorem aB.one:∀{x:V} {us:List Value},aB [x] us->∃u,us=[u]/\aL x u
 | _,_,.cons r .nil=>⟨_,rfl,r⟩
theorem aB.two:∀{x y:V} {us:List Value},aB [x,y] us->∃u v,us=[u,v]/\aL x u/\aL y v
 | _,_,_,.cons r (.cons q .nil)=>⟨_,_,rfl,r,q⟩
theorem aB.zero:∀{us:List Value},aB [] us->us=[]
 | _,.nil=>rfl
theorem aB.dropLast{xs:List V}{us:List Value}(h:aB xs us):aB xs.dropLast us.dropLast:=by
 induction h with
 | nil=>exact .nil
 | cons r t ih =>
   cases t with
   | nil=>exact .nil
   | cons q t'=>exact .cons r ih
theorem aB.eraseIdx:∀{xs:List V} {us:List Value} (i:Nat),aB xs us->aB (xs.eraseIdx i) (us.eraseIdx i)
 | _,_,_,.nil=>.nil
 | _,_,0,.cons _ t=>t
 | _,_,i+1,.cons r t=>.cons r (aB.eraseIdx i t)
theorem aB.reverse{xs:List V}{us:List Value}(h:aB xs us):aB xs.reverse us.reverse:=by
 induction h with
 | nil=>exact .nil
 | cons r t ih=>rw [List.reverse_cons,List.reverse_cons];exact aB.append ih (.cons r .nil)
theorem aB.rep{xs:List V}{us:List Value}(h:aB xs us):∀k:Nat,aB (List.replicate k xs).flatten (List.replicate k us).flatten
 | 0=>.nil
 | k+1=>by
   rw [js,js,jY,jY]
   exact aB.append h (aB.rep h k)
theorem SK{α:Type}(l:List α):l.eraseIdx (l.length-1)=l.dropLast:=by
 induction l with
 | nil=>rfl
 | cons a r ih =>
   cases r with
   | nil=>rfl
   | cons b r =>
     have e:(a::b::r).length-1=((b::r).length-1)+1:=by
      have h1:(a::b::r).length=r.length+2:=rfl
      have h2:(b::r).length=r.length+1:=rfl
      omega
     rw [e,List.eraseIdx_cons_succ,ih]
     all_goals rfl
theorem J6(its:List Value):∀(k:Nat) (acc:List Value),
 List.foldl (λx1 x2=>x1++x2) acc.toArray (List.replicate k its.toArray)=(acc++(List.replicate k its).flatten).toArray
 | 0,acc=>by simp
 | k+1,acc=>by
   have e:acc.toArray++its.toArray=(acc++its).toArray:=by simp
   have e2:(acc++its)++(List.replicate k its).flatten=acc++(List.replicate (k+1) its).flatten:=by
    rw [js,jY,gA]
   rw [← e2,← J6 its k (acc++its),← e,js,nV]
section
variable {X:Cx} {pins:List (Addr × Obj)} {σ:St} {H:Hp} {s:Shared} {l b:Addr} {xs ys zs:List V}
theorem ae.lset{its its':List Value}{n:Nat}{f:Array Value->Array Value}{t':Nat}(I:ae X pins σ H s)(hH:H l=some (.lst xs))
 (e:s.heap.get? l=some { cls:=.type "list",data:=.seq its.toArray n }) (hf:f its.toArray=its'.toArray) (hv:aB ys its') (hz:ys.length<=sizeLine):
 ae X pins σ (ai H l (.lst ys)) { s with heap:=s.heap.update l (Obj.mapSeq f),toks:=t' }:=by
 have q:=PySem.IsL.update e f
 rw [hf] at q
 refine I.write (x:=l) (e:=l) (by rw [hH];exact trivial) (.inl rfl) (λb' u hb hu=>(qz s.heap (Obj.mapSeq f) (dG hb)).trans hu) ⟨_,q⟩ ?_
 exact⟨hz,its',_,hv,q⟩
theorem ae.lnew{its:List Value}{t':Nat}(I:ae X pins σ H s)(hv:aB ys its)(hz:ys.length<=sizeLine):
 ae X pins σ (ai H s.heap.objs.size (.lst ys)) { s with heap:=s.heap.push { cls:=.type "list",data:=.seq its.toArray },toks:=t' } :=
 I.laid (λ_ _ q=>bP _ q) (aI _) ⟨hz,its,0,hv,cM _ rfl⟩
theorem ae.fresh(I:ae X pins σ H s):H s.heap.objs.size=none:=I.hok.fresh (aI _)
theorem ae.lstM(I:ae X pins σ H s)(hH:H l=some (.lst xs)):xs.length<=sizeLine/\∃(its:List Value) (n:Nat),aB xs its/\xs.length=its.length/\s.heap.get? l=some { cls:=.type "list",data:=.seq its.toArray n }:=by
 obtain⟨z,its,n,r,e⟩:=I.hok l _ hH
 exact⟨z,its,n,r,r.length,e⟩
theorem Qu{n:Nat}(h:n<=sizeLine):Builtin.List.listTooLong n=false:=by
 unfold Builtin.List.listTooLong
 exact decide_eq_false (by omega)
end
section
variable {X:Cx}
noncomputable def AF:V->List V->Hp->VK->Prop:=λx vs H Q=>∃l xs y,x=.ref l/\vs=[y]/\H l=some (.lst xs)/\xs.length<sizeLine/\Q .non (ai H l (.lst (xs++[y])))
theorem Ii:Kj X "list.append" AF:=by
 intro pins s σ H x vs v us Q I rx rv h
 obtain⟨l,xs,y,rfl,rfl,hH,hz,q⟩:=h
 cases rx
 obtain⟨u,rfl,ru⟩:=rv.one
 obtain⟨z,its,n,r,hl,e⟩:=I.lstM hH
 refine call_meets F.slot_list_append ⟨_,e,rfl⟩ F.entry_list_append (F.args_list_append_2 _ _) (PySem.list_append l its.toArray n u (by rw [cZ];omega)) ⟨e,?_⟩
 refine⟨.non,_,I.lset (its':=its++[u]) hH e (by simp) (r.append (.cons ru .nil)) ?_,rfl,q⟩
 rw [aq,List.length_singleton]
 omega
noncomputable def GN:V->List V->Hp->VK->Prop:=λx vs H Q=>∃l xs y,x=.ref l/\vs=[]/\H l=some (.lst xs)/\xs[xs.length-1]?=some y/\Q y (ai H l (.lst xs.dropLast))
theorem QK:Kj X "list.pop" GN:=by
 intro pins s σ H x vs v us Q I rx rv h
 obtain⟨l,xs,y,rfl,rfl,hH,hy,q⟩:=h
 cases rx
 have hus:=rv.zero
 subst hus
 obtain⟨z,its,n,r,hl,e⟩:=I.lstM hH
 obtain⟨u,hu,ru⟩:=r.get hy
 have hy':its.toArray[its.toArray.size-1]?=some u:=by
  show its.toArray[its.length-1]?=some u
  rw [← mz,← hl]
  exact hu
 refine call_meets F.slot_list_pop ⟨_,e,rfl⟩ F.entry_list_pop (F.args_list_pop_1 _) (MeetsSeq.list_pop_last l its.toArray n u hy' (by rw [cZ];omega)) ⟨e,?_⟩
 refine⟨y,_,I.lset (its':=its.dropLast) hH e ?_ r.dropLast ?_,ru,q⟩
 ·show its.toArray.eraseIdxIfInBounds (its.toArray.size-1)=its.dropLast.toArray
  rw [cZ,List.eraseIdxIfInBounds_toArray,SK]
 ·rw [List.length_dropLast]
  omega
noncomputable def AE:R2:=λx y H Q=>∃l b xs zs,x=.ref l/\y=.ref b/\H l=some (.lst xs)/\H b=some (.lst zs)/\xs.length+zs.length<=sizeLine/\∀p,H p=none->Q (.ref p) (ai H p (.lst (xs++zs)))
theorem Pd:bw X (binaryOp .Add) AE:=by
 intro pins s σ H x y v u Q I rx ry h
 obtain⟨l,b,xs,zs,rfl,rfl,hH,hB,hz,q⟩:=h
 cases rx
 cases ry
 obtain⟨z,its,n,r,hl,e⟩:=I.lstM hH
 obtain⟨z2,its2,n2,r2,hl2,e2⟩:=I.lstM hB
 refine PySem.P.add_list e e2 ?_ (by rw [cZ,cZ];omega)
 have ea:its.toArray++its2.toArray=(its++its2).toArray:=by simp
 rw [ea]
 exact⟨.ref _,_,I.lnew (t':=s.toks) (r.append r2) (by rw [aq];omega),rfl,q _ I.fresh⟩
noncomputable def GL:R2:=λx y H Q=>∃l k xs,x=.ref l/\y=.int k/\H l=some (.lst xs)/\-(2^63)<=k/\k<2^63/\xs.length*k.toNat<=sizeLine/\
 ∀p,H p=none->Q (.ref p) (ai H p (.lst (List.replicate k.toNat xs).flatten))
theorem Rw{α:Type}(xs:List α)(k:Nat):(List.replicate k xs).flatten.length=k*xs.length:=by
 induction k with
 | zero=>simp
 | succ k ih=>rw [js,jY,aq,ih,Nat.succ_mul,Nat.add_comm]
theorem OM:bw X (binaryOp .Mult) GL:=by
 intro pins s σ H x y v u Q I rx ry h
 obtain⟨l,k,xs,rfl,rfl,hH,h1,h2,hz,q⟩:=h
 cases rx
 obtain⟨t,rfl⟩:=ry
 obtain⟨z,its,n,r,hl,e⟩:=I.lstM hH
 have hlen:its.toArray.size*k.toNat<=sizeLine:=by rw [cZ,← hl];exact hz
 have hcap:¬ its.toArray.size*k.toNat>(2^63-1) / 8:=by
  have:(sizeLine:Nat)<=(2^63-1) / 8:=by decide
  omega
 have hfit:¬ (!Builtin.List.listFitsIndex k)=true:=by
  rw [fitsIndex_both h1 h2]
  exact cz
 have hlong:¬ Builtin.List.listTooLong (its.toArray.size*k.toNat)=true:=by
  rw [Qu hlen]
  exact cz
 have hnew:List.foldl (λx1 x2=>x1++x2) #[] (List.replicate (if its.toArray.isEmpty=true then 0 else k.toNat) its.toArray)=(List.replicate k.toNat its).flatten.toArray:=by
  have f0:∀m:Nat,List.foldl (λx1 x2=>x1++x2) #[] (List.replicate m its.toArray)=(List.replicate m its).flatten.toArray:=λm=>by
   have:=J6 its m []
   rw [List.nil_append] at this
   exact this
  rw [f0]
  cases its with
  | nil=>simp
  | cons a r'=>rw [if_neg (by simp)]
 refine wpAny_binaryOp_repeat_ref (T := "list") (U := "int") (by decide) ⟨_,e,rfl⟩ (λs'=>typeIs_int s' k t) noFill_list_mul F.fills_int_mul F.slot_int_rmul repeat_list F.slot_int_index.lookup
  (call_meets F.slot_int_rmul (typeIs_int s k t) F.entry_int_rmul (F.args_int_rmul_2 _ _) (int___rmul___int_list k t l its.toArray n)
   ⟨e,rfl,⟨_,e,rfl⟩,call_meets F.slot_list_mul ⟨_,e,rfl⟩ F.entry_list_mul (F.args_list_mul_2 _ _) (AutoListH.list___mul___list_int_3 l its.toArray n k t hfit hcap hlong) ⟨e,?_⟩⟩)
 rw [hnew]
 exact⟨.ref _,_,I.lnew (t':=s.toks) (r.rep k.toNat) (by rw [Rw,xA];exact hz),rfl,q _ I.fresh⟩
end
section
variable {prog:Program} {w:World} {A:Around} {E:Value->Shared->Prop} {s:Shared}
end
section
variable {X:Cx}
end
end L2
namespace Att
open PySem PySem.W PySem.Calls PyProof.Rows
theorem RZ{P:Params}{h:Heap}:∀(ns:List Int) (vs:List Value),WellAll P h vs (ns.map WData.int)->IntsAre vs ns:=by
 intro ns
 induction ns with
 | nil =>
   intro vs w
   rw [List.map_nil] at w
   cases w
   exact .nil
 | cons n ns ih =>
   intro vs w
   rw [bR] at w
   cases w with
   | cons a b =>
     cases a
     exact .cons _ _ (ih _ b)
theorem script_of{l:OpenLaw}{n:Nat}(hn:l.most=some n){P:Params}{h:Heap}{args:List WData}{vals:List Value}
 (hpre:l.row.toRowW.claim.pre args=true) (hwl:WellAll P h vals args):
 ∃a vs ns,vals=[Value.ref a]/\args=[WData.list (ns.map WData.int)]/\h.get? a=some { cls:=.type "list",data:=.seq vs.toArray }/\IntsAre vs ns/\ns.length<=n:=by
 have hsh:WShape.hasAll [] args [.list .int]=true:=(pre_splitW hpre).1
 have hc:l.pre.holds [] { args:=args }=true:=(pre_splitW hpre).2
 obtain⟨d,r,rfl,h1,h2⟩:=hasAllW_cons hsh
 obtain rfl:=hasAllW_nil h2
 obtain⟨xs,rfl,h3⟩:=hasW_list h1
 obtain⟨ns,rfl⟩:=items_int h3
 have hlen:ns.length<=n:=by
  unfold OpenLaw.pre at hc
  have h4:(WTm.not (.lt (.lit (.int (n:Int))) (.len (.arg 0)))).holds [] { args:=[.list (ns.map .int)] }=true:=by
   have h4:=(holds_andW hc).1
   rw [hn] at h4
   exact h4
  have h5:=condW_of h4 (w_not (w_lt w_lit (w_len_list (w_arg rfl))))
  rw [aT] at h5
  refine Nat.le_of_not_lt λq=>?_
  have q':(n:Int)<((ns.length:Nat):Int):=by omega
  first
   | (rw [decide_eq_true q'] at h5;exact absurd h5 (by decide))
   | (simp at h5;omega)
 cases hwl with
 | cons w1 w2 =>
   cases w2
   cases w1 with
   | list ho hall=>exact⟨_,_,ns,rfl,rfl,ho,RZ ns _ hall,hlen⟩
theorem post_true(l:OpenLaw)(args:List WData):l.row.toRowW.claim.post args (.bool true) args=true :=
 postW_of (r:=l.row.toRowW) (X:=(true == true))
  (show WShape.has [] (.bool true) .bool=true by first | rfl | decide | simp [WShape.has,WShape.arms,WShape.armsAll])
  (show (WTm.eq .res (.lit (.bool true))).value [] { args:=args,res:=some (.bool true),after:=args }=some (.bool (true == true)) from w_eq_bool (w_res rfl) w_lit) rfl
theorem attach_call{l:OpenLaw}{n:Nat}{q:Program}{loose:List Str}{XP:(Str->Option Value)->Heap->Prop}{YP:World->Heap->Prop}{d:DefRec}
 (hn:l.most=some n) (hdf:d.params.defaults=[])
 (call:∀(w:World) (s₀ s₁:Shared) (mg mb:Str->Option Value) (fa:Addr) (o:Obj) (pm cd doc:Value) (a:Addr) (vs:List Value) (ns:List Int),
  Ground q loose [] XP w s₀ mg mb s₁.heap->YP w s₁.heap->
  s₁.heap.get? fa=some o->o.data=.func (docDef d.name d.params d.body d.scope pm cd doc)->s₁.heap.CodeRec cd d.name->mg d.name=some (.ref fa)->
  s₁.heap.get? a=some { cls:=.type "list",data:=.seq vs.toArray }->IntsAre vs ns->ns.length<=n->s₁.gens=#[]->
  codeAny (model l.prog w) callerA (.call (.ref fa) ⟨[.ref a],[]⟩) (λr s'=>r=.ok (.ret (.bool true))/\OldK s₁.heap s'.heap/\s'.os=s₁.os/\AllBare s'.gens) s₁):
 WalkO q loose XP YP l.row.toRowW d [] (λf vs=>PySem.call f vs):=by
 intro w s₀ s₁ mg mb G Y fa o pm cd doc dV kV ho hd hcd hD hmg hg args vals as hpre hlay hrd hwl hlo
 obtain rfl:dV=.none:=Dflts.none hD hdf
 obtain rfl:kV=.none:=Dflts.noKw hD
 obtain⟨a,vs,ns,rfl,rfl,hobj,hints,hlen⟩:=script_of hn hpre hwl
 refine enter_call (codeAny_mono (call w s₀ s₁ mg mb fa o pm cd doc a vs ns G Y ho (fd_plain hd) hcd hmg hobj hints hlen hg) λr s' hq=>?_)
 obtain⟨rfl,h2,h3,h4⟩:=hq
 exact⟨.inl ⟨.bool true,.bool true,[],rfl,λ_=>rfl,.bool true,post_true l _,λ_=>⟨List.Pairwise.nil,λ_ hm=>(nomatch hm)⟩⟩,h2,h3,h4⟩
section
variable {prog:Program} {w:World} {A:Around} {E:Value->Shared->Prop} {s:Shared} {K:Frag}
noncomputable def Ux(h:Heap)(L d:Addr):List (Addr × Obj):=(List.range h.objs.size).filterMap λa=>if a=L\/a=d then none else (h.get? a).map λo=>(a,o)
end
end Att
namespace L2
open PySem PySem.Spec PyProof.Rows
theorem DC:∀{vs:List Value} {ns:List Int},IntsAre vs ns->aB (ns.map V.int) vs
 | _,_,.nil=>.nil
 | _,_,.cons n t h=>.cons ⟨t,rfl⟩ (DC h)
noncomputable def xt(H:Hp):Prop:=∀b,H b=none\/∃o xs,H b=some (.frz o (.lst xs))
theorem IC{P:Program}{w:World}{K:Frag}{mg mb:Str->Option Value}{CX:fY}{k:Nat}{fa a:Addr}{fd:FuncData}{x:Str}{sp:Sp}{s₁:Shared}{vs:List Value}{ns:List Int}
 (KX:K.In s₁.heap) (hns:s₁.heap.Ns mainGlobals mg) (hb:s₁.heap.Ns builtinsNs mb) (hbb:∀x:Str,x ≠ "__name__" -> mb x=bootBuiltins x) (hlim:s₁.heap.NoLimit) (hg:s₁.gens=#[])
 (ha:s₁.heap.get? a=some { cls:=.type "list",data:=.seq vs.toArray }) (hi:IntsAre vs ns) (hl:ns.length<=sizeLine) (hr:cb k callerA)
 (F:∀base:Heap,K.In base->base.Ns mainGlobals mg->ar P w K mg base CX k fa fd [x] sp) (hbind:∀(s:Shared) (u:Value),BindsTo s fd ⟨[u],[]⟩ [(x,u)])
 (hsp:∀H:Hp,xt H->aD K H a (ns.map V.int)->sp [.ref a] H (λv _=>v=.bl true) λ_ _ _=>False)
 (hCX:∀H e s',CX [] H s₁ (λ_ _ _=>False) e s'->False):
 codeAny (model P w) callerA (.call (.ref fa) ⟨[.ref a],[]⟩) (λr s'=>r=.ok (.ret (.bool true))/\OldK s₁.heap s'.heap/\s'.os=s₁.os/\AllBare s'.gens) s₁:=by
 have rv:=DC hi
 have lenV:=hi.length
 have core:∀H:Hp,xt H->aD K H a (ns.map V.int)->bZ P w H s₁.heap->(∀b,H b ≠ none->b=a)->(H a ≠ none->K.lookup a=none)->
  codeAny (model P w) callerA (.call (.ref fa) ⟨[.ref a],[]⟩) (λr s'=>r=.ok (.ret (.bool true))/\OldK s₁.heap s'.heap/\s'.os=s₁.os/\AllBare s'.gens) s₁:=by
  intro H hO hS hok hA hK
  have base_of:∀{b:Addr} {o:Obj},s₁.heap.get? b=some o->H b=none->(jN s₁.heap H).get? b=some o:=λe n=>Se e n
  have noA:∀{b:Addr} {o:Obj} {es:Array DictEntry} {ep:Nat},s₁.heap.get? b=some o->o.data=.dict es ep->H b=none:=λ {b o es ep} e d=>by
   cases q:H b with
   | none=>rfl
   | some u =>
     have e':b=a:=hA b (by rw [q];simp)
     subst e'
     rw [ha] at e;cases e
     have d':Data.seq vs.toArray _=Data.dict es ep:=d
     cases d'
  have nsK:∀{b:Addr} {m:Str->Option Value},s₁.heap.Ns b m->(jN s₁.heap H).Ns b m:=λ {b m} ⟨o,es,ep,e,d,r⟩=>⟨o,es,ep,base_of e (noA e d),d,r⟩
  have hKb:K.In (jN s₁.heap H):=λb o e=>base_of (KX b o e) (by
   cases q:H b with
   | none=>rfl
   | some u =>
     have e':b=a:=hA b (by rw [q];simp)
     subst e'
     rw [hK (by rw [q];simp)] at e;cases e)
  have hM:Mod K mg (jN s₁.heap H):=⟨hKb,nsK hns,⟨mb,nsK hb,hbb⟩,let ⟨mc,h1,h2⟩:=hlim;⟨mc,nsK h1,h2⟩⟩
  have e0:j2 P w K mg (jN s₁.heap H) callerA [] s₁ H:=⟨rfl,hM,λb o e=>Qs e,Nat.le_of_eq (Sd _ _),trivial,λb hb=>absurd (show b ∈ ([]:List Addr) from hb) (by simp),hok,.of_eq hg⟩
  refine codeAny_mono ((F _ hKb (nsK hns)).run callerA [] s₁ H ⟨[.ref a],[]⟩ [.ref a] [.ref a] _ _ hr e0 (hbind s₁ (.ref a)) (.cons rfl .nil) (hsp H hO hS)) λr s' h=>?_
  cases r with
  | error e=>exact(hCX H e s' h).elim
  | ok fl =>
    cases fl with
    | next=>exact False.elim h
    | brk=>exact False.elim h
    | cont=>exact False.elim h
    | ret u =>
      obtain⟨v,H',os,bare,un,hok',r',q⟩:=h
      have q':v=.bl true:=q
      subst q'
      obtain rfl:u=Value.bool true:=r'
      refine⟨rfl,OldK.of_keep λb o e=>?_,os,bare⟩
      cases q:H b with
      | none=>exact un.keep b o e q (by intro z;exact absurd (show b ∈ ([]:List Addr) from z) (by simp)) (by simp)
      | some u =>
        rcases hO b with z | ⟨ob,xs,z⟩
        ·rw [q] at z;cases z
        ·have z2:=un.frzs b ob _ z
         obtain⟨e1,_⟩:=hok b _ z
         obtain⟨e2,_⟩:=hok' b _ z2
         rw [e] at e1;cases e1
         exact e2
 cases hk:K.lookup a with
 | some o =>
   have e:=KX a o hk
   rw [ha] at e
   cases e
   refine core (λ_=>none) (λ_=>.inl rfl) (.inr ⟨_,vs.toArray,_,hk,rfl,rfl,rfl,by rw [cZ,lenV];exact hl,by simpa using rv⟩) (λb u z=>by have z':(none:Option HO)=some u:=z;cases z') (λb z=>absurd rfl z) λz=>absurd rfl z
 | none =>
   refine core (λb=>if b=a then some (.frz { cls:=.type "list",data:=.seq vs.toArray } (.lst (ns.map V.int))) else none) (λb=>?_) (.inl (.inr ⟨{ cls:=.type "list",data:=.seq vs.toArray },if_pos rfl⟩)) (λb u z=>?_) (λb z=>?_) λ_=>hk
   ·by_cases hb:b=a
    ·exact .inr ⟨_,_,if_pos hb⟩
    ·exact .inl (if_neg hb)
   ·by_cases hb:b=a
    ·have z':=(if_pos hb).symm.trans z
     cases z'
     subst hb
     exact⟨ha,by rw [aT];exact hl,vs,_,rv,ha⟩
    ·have z':=(if_neg hb).symm.trans z
     cases z'
   ·by_cases hb:b=a
    ·exact hb
    ·exact absurd (if_neg hb) z
end L2
namespace L2
open PySem PySem.Spec PyProof.Rows
abbrev Uz{K:Frag}{h:Heap}(_:K.In h):Frag:=K
theorem Uw{l:PySem.W.OpenLaw}{n k:Nat}{q:Program}{loose:List Str}{XP:(Str->Option Value)->Heap->Prop}{YP:World->Heap->Prop}{d:DefRec}{K:Params->Frag}{CX:World->fY}{sp:World->Sp}{x:Str}
 (hn:l.most=some n) (hn2:n<=sizeLine) (hdf:d.params.defaults=[]) (hr:cb k callerA)
 (hY:∀(w:World) (h:Heap),YP w h->(K w.params).In h)
 (F:∀(w:World) (mg:Str->Option Value) (fa:Addr) (h:Heap),(K w.params).In h->h.Ns mainGlobals mg->mg d.name=some (.ref fa)->
  ∃fd:FuncData,(∀(s:Shared) (u:Value),BindsTo s fd ⟨[u],[]⟩ [(x,u)])/\
    ∀base:Heap,(K w.params).In base->base.Ns mainGlobals mg->ar l.prog w (K w.params) mg base (CX w) k fa fd [x] (sp w))
 (hsp:∀(w:World) (H:Hp) (a:Addr) (ns:List Int),ns.length<=n->xt H->aD (K w.params) H a (ns.map V.int)->sp w [.ref a] H (λv _=>v=.bl true) λ_ _ _=>False)
 (hCX:∀(w:World) (H:Hp) (s:Shared) (e:Value) (s':Shared),CX w [] H s (λ_ _ _=>False) e s'->False):
 PySem.W.WalkO q loose XP YP l.row.toRowW d [] (λf vs=>PySem.call f vs):=by
 refine Att.attach_call hn hdf λw s₀ s₁ mg mb fa o pm cd doc a vs ns G Y ho hd hcd hmg hobj hints hlen hg=>?_
 have KX:=hY w _ Y
 obtain⟨fd,hb,hF⟩:=F w mg fa _ KX G.T.g hmg
 exact IC KX G.T.g G.T.b G.T.builtins G.T.nolimit hg hobj hints (c7 hlen hn2) hr hF hb (λH hO hS=>hsp w H a ns hlen hO hS) λH e s'=>hCX w H s₁ e s'
end L2
namespace L2
open PySem PySem.Spec PyProof.Rows
noncomputable def fC(s:Stmt)(j:Nat):Stmt:=match s with
 | .ClassDef _ _ _ body _ _ _ _ _ _ _=>body.getD j (.Pass ⟨0,0,0,0⟩)
 | _=>.Pass ⟨0,0,0,0⟩
noncomputable def fu(s:Stmt):Arguments:=match s with
 | .FunctionDef _ a _ _ _ _ _ _ _ _=>a
 | _=>{ posonlyargs:=[],args:=[],vararg:=none,kwonlyargs:=[],kw_defaults:=[],kwarg:=none,defaults:=[] }
noncomputable def dJ(s:Stmt):List Stmt:=match s with
 | .FunctionDef _ _ b _ _ _ _ _ _ _=>b
 | _=>[]
noncomputable def ax(s:Stmt):Scope:=match s with
 | .FunctionDef _ _ _ _ _ _ sc _ _ _=>sc
 | _=>{ kind:=.function,names:=[],isGenerator:=false,isCoroutine:=false }
abbrev Ll:fY:=λ_ _ _ _ _ _=>False
abbrev E0:XK:=λ_ _ _=>False
structure dN(K:Frag)(x qual:Str)(st:Stmt)(f:Addr)(fd:FuncData):Prop where
 ex:∃(oc:Value) (od:Option Addr) (kV doc pm:Value) (an:Option Addr) (cdv ct:Value) (osl:Array (Option Value)),
  fd=fnOf x qual (fu st) (dJ st) (ax st) .none kV doc pm an cdv ct/\K.lookup f=some ⟨oc,od,.func fd,osl⟩/\codeIn K cdv qual=true
 kp:keepIn K (.ref f)=true
section
variable {P:Program} {w:World} {K:Frag} {mg:Str->Option Value} {base:Heap}
theorem dN.ok{x qual:Str}{st:Stmt}{f:Addr}{fd:FuncData}{N ps:List Str}{k:Nat}{sp:Sp}(F:dN K x qual st f fd)(S:aF N ps (ax st))(len:∀vs H Q E,sp vs H Q E->vs.length=ps.length)
 (hbody:∀(cdv:Value) (A:Around) (outer:List Env) (s:Shared) (H:Hp) (vs:List V) (Q:VK) (E:XK),cb k (A.deeper (envOfC qual (ax st) s.heap.objs.size f cdv))->sp vs H Q E->
  ∃t,eJ (iD Ll P w K mg base N qual (ax st) f cdv A outer s H E).nox (dJ st) t/\t { nx:=λ_ H'=>Q .non H',rt:=Q } (start N vs) H):ar P w K mg base Ll (k+1) f fd ps sp:=by
 obtain⟨oc,od,kV,doc,pm,an,cdv,ct,osl,rfl,lk,hcd⟩:=F.ex
 refine sI lk hcd S len λA outer s H vs Q E hr hsp=>?_
 obtain⟨t,h,q⟩:=hbody cdv A outer s H vs Q E hr hsp
 exact⟨t,h.nox,q⟩
theorem dN.binds{x qual:Str}{st:Stmt}{f:Addr}{fd:FuncData}{ps:List Str}(F:dN K x qual st f fd)
 (h:∀(kV doc pm:Value) (an:Option Addr) (cdv ct:Value) (us:List Value),us.length=ps.length->bindArgs (fnOf x qual (fu st) (dJ st) (ax st) .none kV doc pm an cdv ct) ⟨us,[]⟩=pure (ps.zip us)):d9 K fd ps []:=by
 obtain⟨oc,od,kV,doc,pm,an,cdv,ct,osl,rfl,lk,hcd⟩:=F.ex
 exact .all (h kV doc pm an cdv ct)
theorem J4{x qual:Str}{st:Stmt}{f:Addr}{oc:Value}{od an:Option Addr}{osl:Array (Option Value)}{kV doc pm cdv ct:Value}(l:K.lookup f=some ⟨oc,od,.func (fnOf x qual (fu st) (dJ st) (ax st) .none kV doc pm an cdv ct),osl⟩)
 (c:codeIn K cdv qual=true) (k:keepIn K (.ref f)=true):dN K x qual st f (fnOf x qual (fu st) (dJ st) (ax st) .none kV doc pm an cdv ct):=⟨⟨oc,od,kV,doc,pm,an,cdv,ct,osl,rfl,l,c⟩,k⟩
end
theorem hG{A:Around}{k:Nat}(hr:cb k A):A.units+1<cLine:=xD (Nat.add_le_add_left (by decide:1<=64) _) hr.units
section
variable {X:Cx}
theorem pv(i:Nat){x:Str}{pos:Pos}(hN:X.N[i]?=some x:=by rfl)(hv:qc X.env.scope x:=by first | exact Or.inl rfl | exact Or.inr (Or.inl rfl) | exact Or.inr (Or.inr rfl))(hd:(x == ("__debug__" : Str))=false:=by decide)
 (hcd:(x == ("__classdict__" : Str))=false:=by decide):PE X (.Name x pos) (gW i):=Ou hN hv hd hcd
end
theorem bK{A B:Prop}(h:B):if false=true then A else B:=by
 rw [if_neg cz]
 exact h
theorem gb{A B:Prop}(h:A):if true=true then A else B:=by
 rw [if_pos rfl]
 exact h
theorem IJ{c A B:Prop}[Decidable c](h1:c->A)(h2:¬ c->B):if c then A else B:=by
 by_cases h:c
 ·rw [if_pos h]
  exact h1 h
 ·rw [if_neg h]
  exact h2 h
theorem RS{c A B:Prop}[Decidable c](hc:c)(h:B):if (!decide c)=true then A else B:=by
 rw [decide_eq_true hc]
 exact bK h
noncomputable def ak(H H':Hp):Prop:=∀b o,H b=some o->H' b=some o
theorem ak.refl(H:Hp):ak H H:=λ_ _ h=>h
theorem ak.trans{H H1 H2:Hp}(a:ak H H1)(b:ak H1 H2):ak H H2:=λc o h=>b c o (a c o h)
theorem ak.free{H H':Hp}(e:ak H H'){l:Addr}(h:H' l=Option.none):H l=Option.none:=by
 cases q:H l with
 | none=>rfl
 | some o =>
   rw [e l o q] at h
   cases h
theorem ak.seq{K:Frag}{H H':Hp}{a:Addr}{xs:List V}(e:ak H H')(h:aD K H a xs):aD K H' a xs:=by
 rcases h with(h | ⟨o,h⟩) | h
 ·exact .inl (.inl (e _ _ h))
 ·exact .inl (.inr ⟨o,e _ _ h⟩)
 ·exact .inr h
end L2
namespace XT
open PySem PySem.W PyProof.Rows PySem.Calls
section
variable {prog:Program} {w:World} {A:Around} {E:Value->Shared->Prop} {h:Heap} {g:Array GenState} {d:Drawn} {t:Nat} {os:OsState} {a:Addr} {o:Obj} {K:Frag} {C:Addr}
theorem Bz{M:Model}{n:Str}{y:Option Value}{Q:Option Value->Shared->Prop}(X:K.In h)(e:findIn K (.ref C) n=some y)(hq:Q y ⟨h,g,d,t,os⟩):wpAny M A (typeLookup (.ref C) n) Q E ⟨h,g,d,t,os⟩ :=
 (looks_findIn (M:=M) X e).here hq
theorem E7{M:Model}{b:Value}{y:Bool}{Q:Bool->Shared->Prop}(X:K.In h)(e:mroIn K C b=some y)(hq:Q y ⟨h,g,d,t,os⟩):wpAny M A (isSubtype (.ref C) b) Q E ⟨h,g,d,t,os⟩ :=
 (looks_mroIn (M:=M) X e).here hq
structure ExcK(K:Frag)(C:Addr):Prop where
 ga:findIn K (.ref C) "__getattribute__" = some (some (.builtin "BaseException.__getattribute__"))
 gt:findIn K (.ref C) "__getattr__" = some none
 cl:findIn K (.ref C) "__class__" = some (some (.builtin "object.__class__"))
 ob:mroIn K C (.type "object")=some true
 be:mroIn K C (.type "BaseException")=some true
 cs:(clsIn K C).isSome=true
theorem Th(X:K.In h)(Z:ExcK K C)(hx:h.get? a=some o)(hc:o.cls=.ref C){R:Result->Shared->Prop}(hq:R (.ok (.ret (.ref C))) ⟨h,g,d,t,os⟩):
 codeAny (model prog w) A (.call (.builtin "getset_descriptor.__get__") ⟨[.builtin "object.__class__",.ref a,.ref C],[]⟩) R ⟨h,g,d,t,os⟩:=by
 have hT5:(⟨h,g,d,t,os⟩:Shared).TypeIs (.builtin "object.__class__") "getset_descriptor":=F.typeOf_object_class
 refine codeAny_call_builtin F.slot_gs_get.plain F.entry_gs_get (F.slot_gs_get.check _ _ _ _ _ _ _ _ hT5 (F.args_gs_get _ _ _) ?_)
 have hob:mroIn K C (.type (".".intercalate ("object.__class__".cutAt '.').dropLast))=some true:=by rw [F.owner_object_class];exact Z.ob
 repeat (any_goals (first | assumption | (with_reducible refine wpAny_loadPart_at hx ?_;rw [hc]) | with_reducible refine E7 X hob ?_ | wp_step))
 refine⟨Code.quiet_builtin _ (by decide +kernel),codeAny_builtin F.entry_object_class ?_⟩
 unfold Builtin.«object.__class__» shownTypeOf
 repeat (any_goals (first | assumption | (with_reducible refine wpAny_loadPart_at hx ?_;rw [hc]) | wp_step))
theorem Ti{tk:Tok}{Q:Fin->Shared->Prop}(X:K.In h)(Z:ExcK K C)(hx:h.get? a=some o)(hc:o.cls=.ref C)(hq:Q (.done (.ret (.ref C))) ⟨h,g,d,t,os⟩):
 wpAny (model prog w) A (Builtin.«object.__getattribute__» ⟨[.ref a,.str "__class__" tk],[]⟩) Q E ⟨h,g,d,t,os⟩:=by
 have hT5:(⟨h,g,d,t,os⟩:Shared).TypeIs (.builtin "object.__class__") "getset_descriptor":=F.typeOf_object_class
 have f5:=F.typeOf_object_class
 have f6:=F.slot_gs_get.lookup
 have f7:=F.slot_gs_set.lookup
 repeat (any_goals (first | assumption | (with_reducible refine wpAny_loadPart_at hx ?_;rw [hc]) | with_reducible refine Bz X Z.cl ?_ | wp_step))
 refine Th X Z hx hc ?_
 repeat (any_goals (first | assumption | wp_step))
theorem Tj{M:Model}{nameV:Value}{Q:Unit->Shared->Prop}(X:K.In h)(Z:ExcK K C)(hx:h.get? a=some o)(hc:o.cls=.ref C)(hq:Q () ⟨h,g,d,t,os⟩):
 wpAny M A (checkBuiltinCall "BaseException.__getattribute__" ⟨[.ref a,nameV],[]⟩) Q E ⟨h,g,d,t,os⟩:=by
 have hk:builtinKind "BaseException.__getattribute__" = some .slot:=by decide +kernel
 have hsplit:splitId "BaseException.__getattribute__" = some ("BaseException", "__getattribute__"):=by decide +kernel
 have ha:=F.args_bexc_ga (.ref a) nameV
 have hbe:=Z.be
 simp only [checkBuiltinCall,hk,hsplit]
 refine wpAny_bind ?_
 ·unfold isInstance
  repeat (first | (with_reducible refine wpAny_loadPart_at hx ?_;rw [hc]) | with_reducible refine E7 X hbe ?_ | wp_step)
  exact hq
theorem Tn{tk:Tok}{R:Result->Shared->Prop}(X:K.In h)(Z:ExcK K C)(hx:h.get? a=some o)(hc:o.cls=.ref C)(hq:R (.ok (.ret (.ref C))) ⟨h,g,d,t,os⟩):
 codeAny (model prog w) A (.call (.builtin "BaseException.__getattribute__") ⟨[.ref a,.str "__class__" tk],[]⟩) R ⟨h,g,d,t,os⟩ :=
 codeAny_call_builtin PySem.F.attr_ValueError.ga.plain F.entry_bexc_ga (Tj X Z hx hc (Ti X Z hx hc hq))
theorem To{tk:Tok}{fill expr:Bool}{Q:Value->Shared->Prop}(X:K.In h)(Z:ExcK K C)(hx:h.get? a=some o)(hc:o.cls=.ref C)(hq:Q (.ref C) ⟨h,g,d,t,os⟩):
 wpAny (model prog w) A (getAttrBy (.ref a) (.str "__class__" tk) fill expr) Q E ⟨h,g,d,t,os⟩:=by
 have f3:=PySem.F.attr_ValueError.ga.bind (.ref a)
 have hx0:(expr && onTheHeap (Value.builtin "BaseException.__getattribute__"))=false:=by cases expr<;>rfl
 have hx2:(Value.builtin "BaseException.__getattribute__" == Value.builtin "object.__getattribute__")=false:=by decide +kernel
 have hx1:(onTheHeap (Value.ref C) && Value.builtin "BaseException.__getattribute__" == Value.builtin "object.__getattribute__")=false:=by rw [hx2];rfl
 repeat (any_goals (first | assumption | (with_reducible refine wpAny_loadPart_at hx ?_;rw [hc]) | with_reducible refine Bz X Z.ga ?_ | with_reducible refine Bz X Z.gt ?_ | wp_step))
 refine Tn X Z hx hc ?_
 repeat (any_goals (first | assumption | wp_step))
theorem Tp{Q:Option Value->Shared->Prop}(X:K.In h)(Z:ExcK K C)(hx:h.get? a=some o)(hc:o.cls=.ref C)(hq:Q (some (.ref C)) ⟨h,g,d,t+1,os⟩):wpAny (model prog w) A (getAttr? (.ref a) "__class__") Q E ⟨h,g,d,t,os⟩:=by
 unfold getAttr? getAttrBy?
 repeat (any_goals (first | assumption | with_reducible apply To X Z hx hc | wp_step))
end
noncomputable def ExcAt(a C:Addr)(h:Heap):Prop:=∃o,h.get? a=some o/\o.cls=.ref C
theorem kitx_exc{K:Frag}{a C:Addr}(Z:ExcK K C):KitX K (.ref a) (.ref C) (ExcAt a C) where
 ty:=λ_ _ _ ⟨o,h1,h2⟩=>h2 ▸ (Looks.ld h1).andThen .now
 it:=λ_ _ X _=>by
  have z0:=Z.cs
  unfold clsIn at z0
  split at z0
  ·rename_i c' d' cd' sl' ho
   intro A' Q' E' s' k q
   unfold isType loadHead
   exact wpAny_bind (wpAny_loadPart (k _ _ (X _ _ ho)) (wpAny_pure q))
  ·cases z0
 ne:=λh tp dd its n sl X htp=>by
  refine Bool.eq_false_iff.mpr λq=>?_
  have e:C=tp:=Value.ref.inj (pW.mp q)
  subst e
  have z0:=Z.cs
  unfold clsIn at z0
  split at z0
  ·rename_i c' d' cd' sl' ho
   have z:=(X _ _ ho).symm.trans htp
   cases z
  ·cases z0
 ca:=λ {_ _ _ _ _ s} X ⟨o,h1,h2⟩ k=>by
  obtain⟨hh,g,d,t,os⟩:=s
  exact Tp X Z h1 h2 k
end XT
set_option maxHeartbeats 4000000
namespace L2
open PySem PySem.Spec PyProof.Rows
theorem cc.there{P:Program}{w:World}{H:Hp}{h:Heap}{a:Addr}{o:HO}(x:cc P w H h a o):∃u,h.get? a=some u:=by
 cases o with
 | lst xs=>obtain⟨_,_,_,_,e⟩:=x;exact⟨_,e⟩
 | tup xs=>obtain⟨_,_,_,p⟩:=x;obtain⟨u,e,_⟩:=p;exact⟨u,e⟩
 | dK kvs=>obtain⟨_,_,_,_,o,_,_,e,_⟩:=x;exact⟨_,e⟩
 | dT kvs=>obtain⟨_,_,_,_,o,_,_,e,_⟩:=x;exact⟨_,e⟩
 | set S n=>obtain⟨o,_,_,_,e,_⟩:=x;exact⟨_,e⟩
 | ins C dx fs=>obtain⟨_,_,_,e,_⟩:=x;exact⟨_,e⟩
 | own y=>exact x
 | xd fs=>obtain⟨_,⟨_,_,_,e,_⟩,_⟩:=x;exact⟨_,e⟩
 | rng lo hi=>obtain⟨_,_,_,e⟩:=x;exact⟨_,e⟩
 | frz ob u=>obtain⟨e,_⟩:=x;exact⟨_,e⟩
 | tbl ps=>exact⟨_,(show h.get? a=some _ from x)⟩
 | met f y=>exact⟨_,(show h.get? a=some _ from x)⟩
 | ext φ=>obtain⟨_,e,_⟩:=x;exact e
theorem bZ.gone{P:Program}{w:World}{H:Hp}{h:Heap}{a:Addr}(x:bZ P w H h)(e:h.get? a=none):H a=none:=by
 cases q:H a with
 | none=>rfl
 | some u=>obtain⟨v,hv⟩:=(x a u q).there;rw [e] at hv;cases hv
structure CB(P:Program)(w:World)(outer:List Env)(H:Hp)(s:Shared)(a:Addr)(C:Value)(H':Hp)(s':Shared):Prop where
 os:s'.os=s.os
 bare:AllBare s'.gens
 un:Un (gJ outer) [] H H' s.heap s'.heap
 hok:bZ P w H' s'.heap
 new:s.heap.get? a=none
 ex:∃B a0,Heap.FlyingW B outer a C a0 s'.heap/\(∀b o,s.heap.get? b=some o->H b=none->b ∉ gJ outer->B.get? b=some o)/\(∀b o,H' b=some o->∃u,B.get? b=some u)/\
  (∀b o,s.heap.get? b=some o->b ∉ gJ outer->∃u,B.get? b=some u)
noncomputable def ay(P:Program)(w:World):fY:=λouter H s E e s'=>∃a C H',e=.ref a/\CB P w outer H s a C H' s'/\E C none H'
theorem Jv{P:Program}{w:World}{outer:List Env}{H:Hp}{s:Shared}{e:Value}{s':Shared}(h:ay P w outer H s (λ_ _ _=>False) e s'):False:=by
 obtain⟨_,_,_,_,_,z⟩:=h;exact z
theorem g8{P:Program}{w:World}{X:Cx}:kN (ay P w) X E0:=λ_ _ _ _ _ _ _ h=>(Jv h).elim
theorem CB.gone{P:Program}{w:World}{outer:List Env}{H H':Hp}{s s':Shared}{a:Addr}{C:Value}(x:CB P w outer H s a C H' s'):H' a=none:=by
 obtain⟨B,a0,hf,k1,k2,_⟩:=x.ex
 cases q:H' a with
 | none=>rfl
 | some u=>obtain⟨v,hv⟩:=k2 a u q;rw [hf.2.1] at hv;cases hv
section
variable {P:Program} {w:World} {K:Frag} {mg:Str->Option Value} {base:Heap} {N:List Str} {qual:Str} {scope:Scope} {f:Addr} {cd:Value} {A:Around} {outer:List Env} {s₀:Shared} {H₀:Hp} {E:XK}
end
section
variable {X:Cx} {C:Addr} {x:Str} {e:Expr} {es:List Expr} {t:TA} {np cpos pos:Pos} {E:XK} {bmB:List Value} {B newId initId:String}
end
section
variable {X:Cx} {pins pins':List (Addr × Obj)} {σ:St} {H H':Hp} {s:Shared} {xe:Value->Shared->Prop} {ev:Value}
theorem ae.adopt{a:Addr}{o:HO}(J:ae X pins σ H s)(na:H a=none)(h0:X.s₀.heap.get? a=none)(hl:X.env.locals ≠ a)(hc:∀x c,X.env.cells.lookup x=some c->c ≠ a)(hp:∀p ∈ X.pn++pins,p.1 ≠ a)
 (new:cc X.prog X.w (ai H a o) s.heap a o):ae X pins σ (ai H a o) s:=by
 have ne:∀b u,H b=some u->b ≠ a:=λb u e z=>by rw [z,na] at e;cases e
 refine⟨J.ok,J.os,J.bare,⟨J.base.keep,J.base.slot,λb ob e n hx=>?_,J.base.there,λb xs e=>?_,λb ob u e=>?_,λb ps e=>?_⟩,J.loc,J.cell,?_,λx c e=>?_,λp hq=>?_,λb u e=>?_,J.len⟩
 ·have z:b ≠ a:=λz=>by rw [z,h0] at e;cases e
  rw [au z];exact J.base.free b ob e n hx
 ·have q:=J.base.tups b xs e
  rw [au (ne b _ q)];exact q
 ·have q:=J.base.frzs b ob u e
  rw [au (ne b _ q)];exact q
 ·obtain⟨m,q⟩:=J.base.tbls b ps e
  exact⟨m,by rw [au (ne b _ q)];exact q⟩
 ·rw [au hl];exact J.free
 ·rw [au (hc x c e)];exact J.freeC x c e
 ·obtain⟨e1,e2,e3⟩:=J.pin p hq
  exact⟨e1,by rw [au (hp p hq)];exact e2,e3⟩
 ·by_cases z:b=a
  ·subst z;rw [aA] at e;cases e;exact new
  ·rw [au z] at e
   exact(J.hok b u e).stay (λc v _ q=>q) (λc q=>by rw [au (ne c _ q)];exact q) λc xs q=>by rw [au (ne c _ q)];exact q
end
abbrev XS:=Value->St->Hp->Prop
section
variable {X:Cx} {P:Program} {w:World} {k:Nat} {f:Addr} {fd:FuncData} {ps:List Str} {sp:Sp} {dvs:List V} {ds:List Value} {Φ:XS} {x:Str} {p pos:Pos} {e:Expr} {es:List Expr} {t:TA}
end
noncomputable def SJ(a C:Addr):HO:=.ext (XT.ExcAt a C)
abbrev nN:=List (Addr × Obj)
section
variable {X:Cx} {C:Addr} {i:Nat} {n x:Str} {body:List Stmt} {b₀:Stmt} {suite:List Stmt} {np hpos pos:Pos} {tb:nN->(Value->Shared->Prop)->XS->TS} {th:nN->Value->TS} {bmB:List Value} {newId:String}
end
end L2
set_option maxHeartbeats 4000000
namespace L2
open PySem PySem.Spec PyProof.Rows
section
variable {X:Cx}
theorem v3{x:Int}{m:Nat}(h:x.natAbs<2^m):Builtin.Int.intBits x<=m:=Cc.mpr h
noncomputable def Ut(i j:Int):Prop:=i.natAbs<2^100000/\j.natAbs<2^100000
theorem Ru{n m:Nat}(hm:0<m)(h:n<2^m):n.log2<m:=by
 rcases Nat.eq_zero_or_pos n with h0 | hp
 ·rw [h0];exact hm
 ·exact(Nat.log2_lt (Nat.ne_of_gt hp)).mpr h
noncomputable def y8(_ j:Int):Prop:=j ≠ 0/\j.natAbs<2^8999
theorem oV:bw X (binaryOp .FloorDiv) (rI y8 λi j=>.int (i.fdiv j)):=rN λ_ _ _ _ _ _ _ hc q=>floordiv_int hc.1 q (.inl (PyProof.noPylong_of_log2 (xB (Ru (by decide) hc.2) (by decide))))
noncomputable def NR(K:Frag):List V->Hp->VK->Prop:=λxs H Q=>∃x t T b,xs=[x,.ty T]/\gq K H x t/\kitOne K t (.type T)=some b/\Q (.bl b) H
theorem TN:dO X (.builtin "isinstance") (NR X.K):=by
 intro pins s σ H vs us Q I r h
 obtain⟨x,t,T,b,rfl,ty,e,q⟩:=h
 obtain⟨u,c,rfl,rx,rc⟩:=qO r
 cases (show c=Value.type T from rc)
 exact RT I rx ty e λtk=>⟨.bl b,H,I.tok tk,rfl,q⟩
theorem jg(K:Frag)(t:Value):kitOne K t t=some true:=by unfold kitOne;simp
theorem BC(K:Frag):kitOne K (.type "int") (.type "bool")=some false:=by
 unfold kitOne kitCls subIn;kernel_rfl
noncomputable def NQ(K:Frag):List V->Hp->VK->Prop:=λxs H Q=>∃a C c b,xs=[.ref a,c]/\H a=some (SJ a C)/\XT.ExcK K C/\
 ((∃D,c=.ref D/\kitOne K (.ref C) (.ref D)=some b)\/(∃T,c=.ty T/\kitOne K (.ref C) (.type T)=some b)\/
   (∃(p:Addr) (Ds:List Addr),c=.ref p/\H p=some (.tup (Ds.map V.ref))/\PySem.W.kitAny K (.ref C) (Ds.map Value.ref)=some b))/\Q (.bl b) H
theorem DB:∀{Ds:List Addr} {us:List Value},aB (Ds.map V.ref) us->us=Ds.map Value.ref
 | [],_,.nil=>rfl
 | _::_,_,.cons r t=>by
   cases (show _=Value.ref _ from r)
   rw [DB t];rfl
theorem TM:dO X (.builtin "isinstance") (NQ X.K):=by
 intro pins s σ H vs us Q I r h
 obtain⟨a,C,c,b,rfl,ha,Z,h,q⟩:=h
 obtain⟨u,cv,rfl,rx,rc⟩:=qO r
 cases (show u=Value.ref a from rx)
 have hx:XT.ExcAt a C s.heap:=(I.hok a _ ha).1
 rcases h with⟨D,rfl,e⟩ | ⟨T,rfl,e⟩ | ⟨p,Ds,rfl,hp,e⟩
 ·cases (show cv=Value.ref D from rc)
  exact iE (XT.kitx_exc Z) I.kIn hx e (λz=>nomatch z) λtk=>⟨.bl b,H,I.tok tk,rfl,q⟩
 ·cases (show cv=Value.type T from rc)
  exact iE (XT.kitx_exc Z) I.kIn hx e (λz=>nomatch z) λtk=>⟨.bl b,H,I.tok tk,rfl,q⟩
 ·cases (show cv=Value.ref p from rc)
  obtain⟨_,its,rv,ot,h1,h2,n,h3⟩:=I.hok p _ hp
  obtain⟨c0,dd,dat,sl⟩:=ot
  cases (show c0=_ from h2)
  cases (show dat=_ from h3)
  rw [DB rv] at h1
  exact PySem.W.kia_tup (XT.kitx_exc Z) I.kIn hx h1 e (λz=>nomatch z) λtk=>⟨.bl b,H,I.tok tk,rfl,q⟩
noncomputable def gh:List V->List V->Bool
 | [],[]=>true
 | x::xs,y::ys=>eS x y && gh xs ys
 | _,_=>false
theorem uO:∀{xs ys:List V},xs.length ≠ ys.length->gh xs ys=false
 | [],[],h=>absurd rfl h
 | [],_::_,_=>rfl
 | _::_,[],_=>rfl
 | x::xs,y::ys,h=>by
   unfold gh
   rw [uO (λz=>h (by simp [z]))];simp
theorem uP:∀{xs ys:List V},xs.length=ys.length->(List.range xs.length).all (λj=>eS (xs.getD j .non) (ys.getD j .non))=gh xs ys
 | [],[],_=>rfl
 | [],_::_,h=>by simp at h
 | _::_,[],h=>by simp at h
 | x::xs,y::ys,h=>by
   have ih:=uP (xs:=xs) (ys:=ys) (by simpa using h)
   rw [d8,Km,nZ,ml]
   unfold gh
   rw [← ih]
   rfl
theorem Je:∀{xs:List V},xs.all fo=true->gh xs xs=true
 | [],_=>rfl
 | x::xs,h=>by
   rw [nZ,fZ] at h
   unfold gh
   rw [Je h.2,Bool.and_true]
   cases x<;>first | rfl | (simp [eS];done) | exact absurd (show false=true from h.1) cz
theorem uQ{A:Around}{s:Shared}{xs ys:List V}{us ws:List Value}(r:aB xs us)(q:aB ys ws)(fx:xs.all fo=true)(fy:ys.all fo=true)(j:Nat)(h1:j<us.toArray.size)(h2:j<ws.toArray.size):
 SeqAt.EqAt A s us.toArray[j] ws.toArray[j] (eS (xs.getD j .non) (ys.getD j .non)):=by
 have l1:=r.length
 have l2:=q.length
 have h1':j<xs.length:=by simpa [l1] using h1
 have h2':j<ys.length:=by simpa [l2] using h2
 obtain⟨u,hu,ru⟩:=r.get (i:=j) (x:=xs[j]) (bq h1')
 obtain⟨v,hv,rv⟩:=q.get (i:=j) (x:=ys[j]) (bq h2')
 have e1:us.toArray[j]=u:=by
  have:=bh.mp hu
  obtain⟨_,z⟩:=this;simpa using z
 have e2:ws.toArray[j]=v:=by
  have:=bh.mp hv
  obtain⟨_,z⟩:=this;simpa using z
 rw [e1,e2,fU,fU,bq h1',bq h2']
 exact BQ ru rv (eV.mp fx _ (jX h1')) (eV.mp fy _ (jX h2'))
noncomputable def NS(K:Frag):R2:=λx y H Q=>∃a b xs ys,x=.ref a/\y=.ref b/\aD K H a xs/\aD K H b ys/\xs.all fo=true/\ys.all fo=true/\Q (.bl (gh xs ys)) H
theorem P8(hu:X.A.units<cLine):bw X (compareOp .Eq) (NS X.K):=by
 intro pins s σ H x y v u Q I rx ry h
 obtain⟨a,b,xs,ys,rfl,rfl,ha,hb,fx,fy,q⟩:=h
 cases (show v=Value.ref a from rx)
 cases (show u=Value.ref b from ry)
 obtain⟨its,rv,p,_⟩:=I.list ha
 obtain⟨its2,rv2,p2,_⟩:=I.list hb
 have l1:=rv.length
 have l2:=rv2.length
 by_cases hz:xs.length=ys.length
 ·refine SeqAt.eq_listAt (e:=λj=>eS (xs.getD j .non) (ys.getD j .non)) p.isList p2.isList (by simp [← l1,← l2,hz]) hu (λj h1 h2=>uQ rv rv2 fx fy j h1 h2) ?_
  have e:(List.range its.toArray.size).all (λj=>eS (xs.getD j .non) (ys.getD j .non))=gh xs ys:=by
   rw [← uP hz];simp [← l1]
  rw [e]
  exact⟨.bl _,H,I,rfl,q⟩
 ·rw [uO hz] at q
  exact SeqAt.eq_list_lengthsAt p.isList p2.isList (by simp [← l1,← l2,hz]) hu ⟨.bl _,H,I,rfl,q⟩
noncomputable def o4(lo st:Int)(n:Nat):It:=⟨λi _=>i<n,λi H x H'=>H'=H/\x=.int (lo+i*st),λi _=>n<=i⟩
theorem DL{P:Program}{w:World}{K:Frag}{tg:Expr}(it:Addr)(lo c:Int)(n:Nat):jQ P w K tg (o4 lo c n) [it] it (λi h=>IsRangeIter h it (lo+(i:Nat)*c) ((n:Int)-(i:Nat)) c) where
 mem:=by simp
 obj:=λi h st b hb=>by
  have e:b=it:=by simpa using hb
  subst e
  exact⟨_,st,λv z=>by
   have z':Data.fields _=Data.cell v:=z
   cases z'⟩
 keep:=λi h h' st k=>k it (by simp) _ st
 item:=by
  intro X hP hw hK hc i pins s σ H E I hf st hg
  subst hP hw hK
  obtain⟨f0,f1,f2,f3,f4,f5⟩:=hf it (by simp)
  have W:=Walks.range (prog:=X.prog) (w:=X.w) (I.ok.hd hc) it lo c n
  refine W.item i s _ _ hg st λv h' tk hv st' kk=>?_
  obtain⟨t,rfl⟩:=hv
  have I1:ae X pins σ H { s with heap:=h',toks:=tk }:=I.turned (λb o hb e=>kk b o (by simpa using hb) e) f0 f1 f3 f4 f5
  exact⟨_,rfl,sE (s:={ s with heap:=h',toks:=tk }) (n := "range_iterator") st' rfl rfl (by decide) ⟨.int (lo+i*c),H,I1,⟨t,rfl⟩,⟨rfl,rfl⟩,st',λb hb=>(hf b hb).1⟩⟩
 done:=by
  intro X hP hw hK hc i pins s σ H E I hf st hg
  subst hP hw hK
  obtain⟨f0,f1,f2,f3,f4,f5⟩:=hf it (by simp)
  exact wpAny_pyNext_range_end (I.ok.hd hc) st (by have:n<=i:=hg;omega) λh' eb=>⟨rfl,I.turned (t':=s.toks) (λb o hb e=>eb b o hb e) f0 f1 f3 f4 f5⟩
 self:=λ_ _ _ _ _ st h=>wpAny_pyIter_rangeiter st h
noncomputable def S5(ta:TA):TI:=λσ H R=>ta σ H λvs H1=>∃i j c:Int,vs=[.int i,.int j,.int c]/\(0<=i/\i<2^62/\0<=j/\j<2^62/\0<c/\c<2^30)/\R (o4 i c (Builtin.Range.rangeSize i j c).toNat) H1
theorem NI{i j c:Int}(h1:0<=i)(h2:i<2^62)(h3:0<=j)(h4:j<2^62)(h5:0<c)(h6:c<2^30):0<=Builtin.Range.rangeSize i j c/\Builtin.Range.small i j c=true:=by
 have q:(j-i-1) / c<=(if i<j then j-i-1 else 0)\/¬ i<j:=by
  by_cases z:i<j
  ·left;rw [if_pos z];exact Int.ediv_le_self _ (by omega)
  ·right;exact z
 have q2:i<j->0<=(j-i-1) / c:=λz=>Int.ediv_nonneg (by omega) (by omega)
 have e:Builtin.Range.rangeSize i j c=if i<j then (j-i-1) / c+1 else 0:=by unfold Builtin.Range.rangeSize;rw [if_pos h5]
 unfold Builtin.Range.small
 rw [e]
 simp only [Builtin.Range.rangeFitsLong,fZ,qG,decide_eq_true_eq,beq_iff_eq]
 by_cases z:i<j
 ·rw [if_pos z] at q
  have:=q2 z
  rw [if_pos z,if_pos (show c>0 from h5)]
  simp only [decide_eq_true_eq,fZ]
  omega
 ·rw [if_neg z]
  omega
variable {tg:Expr}
theorem Oi{a b c:Expr}{ta:TA}{p pos:Pos}(hg:Gl X "range")(hm:X.mg "range" = none)(ha:PA X [a,b,c] ta)(hs:starEach [a,b,c] X.env=(false,eval a X.env)::starEach [b,c] X.env:=by rfl)(hs2:(backTo pos (starEach [b,c] X.env)).any (·.1)=false:=by rfl):
 PI X tg (.Call (.Name "range" p) [a,b,c] [] pos) (S5 ta):=by
 intro pins s σ H R I h
 refine Call_ (iR I hg hm boot_range (m8 (av (ha pos pins s σ H _ I h) λus s1 ⟨vs,H1,I1,r1,q1⟩=>?_) hs hs2))
 obtain⟨i,j,c,e,⟨h1,h2,h3,h4,h5,h6⟩,q⟩:=q1
 subst e
 cases r1 with
 | cons r rr =>
   cases rr with
   | cons r' rr =>
     cases rr with
     | cons r'' rr =>
       cases rr
       obtain⟨t,rfl⟩:=r
       obtain⟨t',rfl⟩:=r'
       obtain⟨t'',rfl⟩:=r''
       have z:=NI h1 h2 h3 h4 h5 h6
       refine call_range_3 (by omega) ?_ (.inl (PyProof.noPylong_small (by omega)))
       refine wpAny_pyIter_range (IsRange.new ..) z.2 ?_
       have I2:ae X pins σ H1 { s1 with heap:=s1.heap.push { cls:=.type "range",data:=.fields #[.int i t,.int j t',.int c t''] },toks:=s1.toks }:=I1.kept λb o e=>bP _ e
       refine⟨(s1.heap.push { cls:=.type "range",data:=.fields #[.int i t,.int j t',.int c t''] }).objs.size,[(s1.heap.push { cls:=.type "range",data:=.fields #[.int i t,.int j t',.int c t''] }).objs.size],_,_,H1,rfl,
        I2.kept (t':=s1.toks) λb o e=>bP _ e,DL _ i c (Builtin.Range.rangeSize i j c).toNat,?_,λb hb=>?_,q⟩
       ·have e1:i+((0:Nat):Int)*c=i:=by simp
        have e2:(((Builtin.Range.rangeSize i j c).toNat:Nat):Int)-((0:Nat):Int)=Builtin.Range.rangeSize i j c:=by have:=z.1;omega
        show IsRangeIter _ _ (i+((0:Nat):Int)*c) ((((Builtin.Range.rangeSize i j c).toNat:Nat):Int)-((0:Nat):Int)) c
        rw [e1,e2]
        exact cM _ rfl
       ·have e:b=(s1.heap.push { cls:=.type "range",data:=.fields #[.int i t,.int j t',.int c t''] }).objs.size:=by simpa using hb
        subst e
        exact I2.fpOk (aI _) (I2.hok.fresh (aI _))
end
theorem J5{lo st:Int}{n:Nat}{g:TG}{tb:TS}{D:ie}{σ:St}{H:Hp}(Pv:Nat->St->Hp->Prop)(h0:Pv 0 σ H)
 (hs:∀i σ H,i<n->Pv i σ H->g (.int (lo+i*st)) σ H λσ2 H2=>tb { D with nx:=Pv (i+1),ct:=Pv (i+1),bk:=D.nx } σ2 H2) (hd:∀σ H,Pv n σ H->D.nx σ H):
 ∃W:Nat->Nat->St->Hp->Prop,(∃m,W 0 m σ H)/\∀i m σ H,W i m σ H->
   ((o4 lo st n).stop i H/\D.nx σ H)\/((o4 lo st n).go i H/\∃N:St->Hp->Prop,(∀σ' H',N σ' H'->∃m',m'<m/\W (i+1) m' σ' H')/\∀x H',(o4 lo st n).yld i H x H'->g x σ H' λσ2 H2=>tb { D with nx:=N,ct:=N,bk:=D.nx } σ2 H2):=by
 refine⟨λi m σ H=>m=n-i/\i<=n/\Pv i σ H,⟨n,by simp,cU _,h0⟩,?_⟩
 rintro i m σ H ⟨rfl,hi,p⟩
 by_cases hlt:i<n
 ·refine .inr ⟨hlt,Pv (i+1),λσ' H' p'=>⟨n-(i+1),by omega,rfl,hlt,p'⟩,λx H' y=>?_⟩
  obtain⟨e,y⟩:=y
  subst e y
  exact hs i σ _ hlt p
 ·have e:i=n:=by omega
  subst e
  exact .inl ⟨aI _,hd σ H p⟩
section
variable {P:Program} {w:World} {K:Frag} {mg:Str->Option Value} {base:Heap}
theorem dN.okx{x qual:Str}{st:Stmt}{f:Addr}{fd:FuncData}{N ps:List Str}{k:Nat}{sp:Sp}(F:dN K x qual st f fd)(S:aF N ps (ax st))(len:∀vs H Q E,sp vs H Q E->vs.length=ps.length)
 (hbody:∀(cdv:Value) (A:Around) (outer:List Env) (s:Shared) (H:Hp) (vs:List V) (Q:VK) (E:XK),cb k (A.deeper (envOfC qual (ax st) s.heap.objs.size f cdv))->sp vs H Q E->
  ∃t,eJ (iD (ay P w) P w K mg base N qual (ax st) f cdv A outer s H E) (dJ st) t/\t { nx:=λ_ H'=>Q .non H',rt:=Q } (start N vs) H):ar P w K mg base (ay P w) (k+1) f fd ps sp:=by
 obtain⟨oc,od,kV,doc,pm,an,cdv,ct,osl,rfl,lk,hcd⟩:=F.ex
 refine sI lk hcd S len λA outer s H vs Q E hr hsp=>?_
 exact hbody cdv A outer s H vs Q E hr hsp
theorem dN.okn{x qual:Str}{st:Stmt}{f:Addr}{fd:FuncData}{N ps:List Str}{k:Nat}{sp:Sp}(F:dN K x qual st f fd)(S:aF N ps (ax st))(len:∀vs H Q E,sp vs H Q E->vs.length=ps.length)
 (hbody:∀(cdv:Value) (A:Around) (outer:List Env) (s:Shared) (H:Hp) (vs:List V) (Q:VK) (E:XK),cb k (A.deeper (envOfC qual (ax st) s.heap.objs.size f cdv))->sp vs H Q E->
  ∃t,eJ (iD (ay P w) P w K mg base N qual (ax st) f cdv A outer s H E).nox (dJ st) t/\t { nx:=λ_ H'=>Q .non H',rt:=Q } (start N vs) H):ar P w K mg base (ay P w) (k+1) f fd ps sp:=by
 obtain⟨oc,od,kV,doc,pm,an,cdv,ct,osl,rfl,lk,hcd⟩:=F.ex
 refine sI lk hcd S len λA outer s H vs Q E hr hsp=>?_
 obtain⟨t,h,q⟩:=hbody cdv A outer s H vs Q E hr hsp
 exact⟨t,h.nox,q⟩
end
end L2
set_option maxHeartbeats 4000000
namespace L2
open PySem PySem.Spec PyProof.Rows
section
variable {X:Cx}
theorem OQ{f:Value->Value->Sem Value}:bw X f (λ_ _ _ _=>False):=λ_ _ _ _ _ _ _ _ _ _ _ _ h=>h.elim
noncomputable def p7:=(OX (X:=X)).or OW
noncomputable def jL:=(TN (X:=X)).or TM
noncomputable def IG:=RN (X:=X)
theorem mZ:gP X "list.append" AF:=Ii (X:=X)
end
end L2
set_option maxHeartbeats 4000000
namespace L2
open PySem PySem.Spec PyProof.Rows
section
variable {X:Cx}
noncomputable def dE(xs:List Nat)(lo hi:Option Int):List Nat:=(xs.drop (HT.sIx xs.length 0 lo)).take (HT.sIx xs.length xs.length hi-HT.sIx xs.length 0 lo)
noncomputable def C0(z:Str)(lo hi:Option Int):Str:=⟨(dE z.cps.toList lo hi).toArray⟩
theorem MA(z:Str)(lo hi:Option Int):Txt.slice z lo hi=C0 z lo hi:=by
 obtain⟨h1,h2,_⟩:=G8 lo hi z.length
 have e:Builtin.Str.strSliceIndices lo hi 1 z.length=sliceRange (sliceBounds lo hi none z.length).1 (sliceBounds lo hi none z.length).2.1 1:=rfl
 have hl:z.cps.toList.length=z.length:=by rw [kT];rfl
 rw [h1,h2,sliceRange_one] at e
 have hb:=HT.sIx_le z.length z.length (aI _) hi
 unfold Txt.slice C0 dE
 rw [e,pick_run,hl]
 split
 ·rename_i q
  rw [aT,iF] at q
  have q':HT.sIx z.length z.length hi-HT.sIx z.length 0 lo=z.length:=by simpa using q
  obtain⟨cps⟩:=z
  have hz:(⟨cps⟩:Str).length=cps.size:=rfl
  have:(cps.toList.drop (HT.sIx (Str.length ⟨cps⟩) 0 lo)).take (HT.sIx (Str.length ⟨cps⟩) (Str.length ⟨cps⟩) hi-HT.sIx (Str.length ⟨cps⟩) 0 lo)=cps.toList:=by
   rw [q',hz]
   rcases Nat.eq_zero_or_pos cps.size with z0 | zp
   ·have:cps.toList=[]:=List.eq_nil_of_length_eq_zero (by simpa using z0)
    rw [this];simp
   ·have:HT.sIx cps.size 0 lo=0:=by rw [hz] at q' hb;omega
    rw [this,nX,qk (by rw [kT];exact aI _)]
  show (⟨cps⟩:Str)=⟨((cps.toList.drop (HT.sIx (Str.length ⟨cps⟩) 0 lo)).take (HT.sIx (Str.length ⟨cps⟩) (Str.length ⟨cps⟩) hi-HT.sIx (Str.length ⟨cps⟩) 0 lo)).toArray⟩
  rw [this]
 ·rfl
noncomputable def GI:V->Option Int->Option Int->Hp->VK->Prop:=λx lo hi H Q=>∃z:Str,x=.str z/\z.length<=sizeLine/\Q (.str (C0 z lo hi)) H
theorem MC:m6 X GI:=by
 intro pins s σ H x v vl vu lo hi sl Q I rx hs pl pu h
 obtain⟨z,rfl,hz,q⟩:=h
 obtain⟨t,rfl⟩:=rx
 refine⟨"str",_,F.slot_str_getitem.lookup,typeIs_str _ _ _,?_⟩
 rw [← MA] at q
 have fin:∀(t':Tok) (k:Nat),EP X pins σ Q (.str (Txt.slice z lo hi) t') { s with toks:=k }:=λt' k=>⟨.str _,H,I.tok k,⟨t',rfl⟩,q⟩
 have hl:=c7 (Txt.slice_le z lo hi) hz
 cases pl with
 | none =>
   cases pu with
   | none=>exact wpAny_getItem_str_slice (l:=none) (u:=none) (st:=none) hs rfl (post_val_or_str ⟨hl,fin⟩)
   | int j tj=>exact wpAny_getItem_str_slice (l:=none) (u:=some (j,tj)) (st:=none) hs rfl (post_val_or_str ⟨hl,fin⟩)
 | int i ti =>
   cases pu with
   | none=>exact wpAny_getItem_str_slice (l:=some (i,ti)) (u:=none) (st:=none) hs rfl (post_val_or_str ⟨hl,fin⟩)
   | int j tj=>exact wpAny_getItem_str_slice (l:=some (i,ti)) (u:=some (j,tj)) (st:=none) hs rfl (post_val_or_str ⟨hl,fin⟩)
noncomputable def ei:=(MD (X:=X)).or MC
noncomputable def xO(z:Str):It:=⟨λi _=>i<z.length,λi H x H'=>H'=H/\∃c,z.cps.toList[i]?=some c/\x=.str ⟨#[c]⟩,λi _=>z.length<=i⟩
theorem DK{P:Program}{w:World}{K:Frag}{nm:Str}{np:Pos}{ty:String}(it:Addr)(z:Str)(t:Tok)
 (hi:∀(A:Around) (s:Shared) (i c:Nat) (Q:Option Value->Shared->Prop) (E:Value->Shared->Prop),s.heap.IsStrIter it ty z t i->z.cps[i]?=some c->
  (∀h',h'.IsStrIter it ty z t (i+1)->Heap.SameBut it s.heap h'->Q (some (.str ⟨#[c]⟩ s.toks)) { s with heap:=h',toks:=s.toks+1 })->wpAny (model P w) A (pyNext (.ref it)) Q E s)
 (he:∀(A:Around) (s:Shared) (i:Nat) (Q:Option Value->Shared->Prop) (E:Value->Shared->Prop),A.handled=none->s.heap.IsStrIter it ty z t i->z.cps[i]?=none->
  (∀h',Heap.ExtBut it s.heap h'->Q none { s with heap:=h' })->wpAny (model P w) A (pyNext (.ref it)) Q E s)
 (hse:∀(A:Around) (s:Shared) (i:Nat) (Q:Value->Shared->Prop) (E:Value->Shared->Prop),s.heap.IsStrIter it ty z t i->Q (.ref it) s->wpAny (model P w) A (pyIter (.ref it)) Q E s):
 jQ P w K (.Name nm np) (xO z) [it] it (λi h=>h.IsStrIter it ty z t i) where
 mem:=by simp
 obj:=λi h st b hb=>by
  have e:b=it:=by simpa using hb
  subst e
  obtain⟨o,ho,_,hd⟩:=st
  exact⟨o,ho,λv q=>by rw [hd] at q;cases q⟩
 keep:=λi h h' st k=>by
  obtain⟨o,ho,r⟩:=st
  exact⟨o,k it (by simp) o ho,r⟩
 item:=by
  intro X hP hw hK hc i pins s σ H E I hf st hg
  subst hP hw hK
  obtain⟨f0,f1,f2,f3,f4,f5⟩:=hf it (by simp)
  have hg':i<z.cps.size:=hg
  refine hi X.A s i z.cps[i] _ E st (by simp [hg']) λh' st' sb=>?_
  have I1:ae X pins σ H { s with heap:=h',toks:=s.toks+1 }:=I.turned (λb o hb e=>(sb.2 b hb).trans e) f0 f1 f3 f4 f5
  exact⟨_,rfl,wpAny_pure ⟨.str ⟨#[z.cps[i]]⟩,H,I1,⟨_,rfl⟩,⟨rfl,z.cps[i],by rw [mz];simp [hg'],rfl⟩,st',λb hb=>(hf b hb).1⟩⟩
 done:=by
  intro X hP hw hK hc i pins s σ H E I hf st hg
  subst hP hw hK
  obtain⟨f0,f1,f2,f3,f4,f5⟩:=hf it (by simp)
  have hg':z.cps.size<=i:=hg
  exact he X.A s i _ E (I.ok.hd hc) st (by simp [hg']) λh' eb=>⟨rfl,I.turned (t':=s.toks) (λb o hb e=>eb b o hb e) f0 f1 f3 f4 f5⟩
 self:=λA i s Q E st h=>hse A s i Q E st h
theorem PI.or{tg iter:Expr}{te:TE}{f g:V->Hp->(It->Hp->Prop)->Prop}(h:PI X tg iter (λσ H R=>te σ H λx H1=>f x H1 R))(h':PI X tg iter (λσ H R=>te σ H λx H1=>g x H1 R))(he:PE X iter te)
 (hf:∀pins s σ H x v R,ae X pins σ H s->aL x v->f x H R->wpAny (model X.prog X.w) X.A (pyIter v) (xq X pins σ tg R) X.xe s)
 (hg:∀pins s σ H x v R,ae X pins σ H s->aL x v->g x H R->wpAny (model X.prog X.w) X.A (pyIter v) (xq X pins σ tg R) X.xe s):
 PI X tg iter (λσ H R=>te σ H λx H1=>f x H1 R\/g x H1 R):=by
 intro pins s σ H R I hq
 refine av (he pins s σ H _ I hq) λv s1 ⟨x,H1,I1,r1,q1⟩=>?_
 rcases q1 with q1 | q1
 ·exact hf pins s1 σ H1 x v R I1 r1 q1
 ·exact hg pins s1 σ H1 x v R I1 r1 q1
noncomputable def rK(z:Str)(n:Int):Str:=⟨(List.replicate n.toNat z.cps.toList).flatten.toArray⟩
theorem J7(a:Array Nat):∀(k:Nat) (acc:Array Nat),(List.replicate k a).foldl (·++·) acc=acc++((List.replicate k a.toList).flatten).toArray
 | 0,acc=>by simp
 | k+1,acc=>by
   rw [js,nV,J7 a k,js,jY]
   apply Array.ext'
   simp [gA]
theorem QG{z:Str}{n:Int}:Txt.mul z n=rK z n:=by
 unfold Txt.mul rK
 by_cases h:n<1
 ·rw [if_pos h,show n.toNat=0 by omega];rfl
 rw [if_neg h]
 split
 ·rename_i q
  obtain⟨cps⟩:=z
  rw [qG] at q
  rcases q with q | q
  ·have:n=1:=by simpa using q
   subst this
   show (⟨cps⟩:Str)=⟨([cps.toList].flatten).toArray⟩
   simp
  ·have:(⟨cps⟩:Str).length=0:=by simpa using q
   have:cps.size=0:=this
   have e:cps.toList=[]:=List.eq_nil_of_length_eq_zero (by simpa using this)
   have e2:(List.replicate n.toNat cps.toList).flatten=[]:=by rw [e];simp
   show (⟨cps⟩:Str)=⟨((List.replicate n.toNat cps.toList).flatten).toArray⟩
   rw [e2,← e]
 ·rw [J7];simp
theorem OV:bw X (binaryOp .Mult) (λx y H Q=>∃z n,x=.str z/\y=.int n/\0<=n/\n<=4000/\z.length<=4000/\Q (.str (rK z n)) H):=by
 intro pins s σ H x y v u Q I rx ry h
 obtain⟨z,n,rfl,rfl,h0,h1,hz,q⟩:=h
 obtain⟨t,rfl⟩:=rx
 obtain⟨t',rfl⟩:=ry
 rw [← QG] at q
 have hs:sizeLine=16777216:=sizeLine_eq
 have hm:z.length*n.toNat<=4000*4000:=md hz (by omega)
 refine SB.mul ⟨by rw [decide_eq_false (by omega),decide_eq_false (by omega)];rfl,λh _ hh=>?_,λ_ _=>?_⟩ λt' k=>⟨.str _,H,I.tok k,⟨t',rfl⟩,q⟩
 ·have hn:0<n:=by
   rcases Int.lt_or_eq_of_le h0 with z | z
   ·exact z
   ·subst z;trivial
  have:(z.length:Int)<=(2^63-1) / n:=Int.le_ediv_of_mul_le hn (aP (iI (Int.ofNat_le.mpr hz) h1 h0 (by omega)) (by decide))
  omega
 ·unfold Builtin.Str.tooLong
  rw [hs]
  exact decide_eq_false (by omega)
theorem OY:bw X (compareOp .LtE) (λx y H Q=>∃i j,x=.str i/\y=.str j/\Q (.bl (!decide (j.cps.toList<i.cps.toList))) H):=by
 intro pins s σ H x y v u Q I rx ry h
 obtain⟨i,j,rfl,rfl,q⟩:=h
 obtain⟨t,rfl⟩:=rx
 obtain⟨t',rfl⟩:=ry
 exact P.le_str ⟨.bl _,H,I,rfl,q⟩
end
end L2
set_option maxHeartbeats 4000000
namespace L2
open PySem PySem.Spec PyProof.Rows
theorem C4{env:Env}:∀(names:List (Str × NameKind)) (acc:List (Str × Addr)),(∀p ∈ names,p.2=.free->∃c,env.cells.lookup p.1=some c)->(∀x c,acc.lookup x=some c->env.cells.lookup x=some c)->
 ∃cl,(forIn names acc λ(x:Str × NameKind) (r:List (Str × Addr))=>if (x.2 == NameKind.free)=true then (cellOf env x.1 >>= λc=>(pure (ForInStep.yield ((x.1,c)::r)):Sem _)) else (pure (ForInStep.yield r):Sem _))=pure cl/\
   (∀x c,cl.lookup x=some c->env.cells.lookup x=some c)/\(∀x c,acc.lookup x=some c->∃c',cl.lookup x=some c')/\∀x,(x,NameKind.free) ∈ names->∃c,cl.lookup x=some c
 | [],acc,_,h2=>⟨acc,rfl,h2,λx c e=>⟨c,e⟩,λ_ z=>nomatch z⟩
 | (n,k)::r,acc,h1,h2=>by
   rw [List.forIn_cons]
   by_cases hk:k=.free
   ·subst hk
    obtain⟨c,hc⟩:=h1 (n,.free) bO rfl
    have e:cellOf env n=pure c:=by unfold cellOf;rw [hc]
    have sub:∀x c',((n,c)::acc).lookup x=some c'->env.cells.lookup x=some c':=λx c' q=>by
     rw [jW] at q
     cases hx:x == n with
     | true=>rw [hx] at q;cases q;rw [eq_of_beq hx];exact hc
     | false=>rw [hx] at q;exact h2 x c' q
    obtain⟨cl,q1,q2,q3,q4⟩:=C4 r ((n,c)::acc) (λp hp=>h1 p (df _ hp)) sub
    refine⟨cl,?_,q2,λx c' e'=>?_,λx hx=>?_⟩
    ·show ((if (NameKind.free == NameKind.free)=true then (cellOf env n >>= λc=>pure (ForInStep.yield ((n,c)::acc))) else pure (ForInStep.yield acc)) >>= _)=_
     rw [if_pos (show (NameKind.free == NameKind.free)=true by decide),e,pure_bind,pure_bind];exact q1
    ·cases hx:x == n with
     | true=>exact q3 x c (by rw [jW,hx])
     | false=>exact q3 x c' (by rw [jW,hx];exact e')
    ·rcases bE.mp hx with z | z
     ·cases z;exact q3 n c (by rw [jW,beq_self_eq_true])
     ·exact q4 x z
   ·have hb:(k == NameKind.free)=false:=by simpa using hk
    obtain⟨cl,q1,q2,q3,q4⟩:=C4 r acc (λp hp=>h1 p (df _ hp)) h2
    refine⟨cl,?_,q2,q3,λx hx=>?_⟩
    ·show ((if (k == NameKind.free)=true then _ else pure (ForInStep.yield acc)) >>= _)=_
     rw [if_neg (by rw [hb];exact cz),pure_bind];exact q1
    ·rcases bE.mp hx with z | z
     ·cases z;exact absurd rfl hk
     ·exact q4 x z
theorem Tq{env:Env}{scope:Scope}(h:∀p ∈ scope.names,p.2=.free->∃c,env.cells.lookup p.1=some c):
 ∃cl,closureFor scope env=pure cl/\(∀x c,cl.lookup x=some c->env.cells.lookup x=some c)/\∀x,(x,NameKind.free) ∈ scope.names->∃c,cl.lookup x=some c:=by
 obtain⟨cl,q1,q2,_,q4⟩:=C4 scope.names [] h (λ_ _ z=>nomatch z)
 refine⟨cl,?_,q2,q4⟩
 unfold closureFor
 dsimp only
 rw [q1]
 rfl
theorem si:∀{l:List (Str × NameKind)} {x:Str} {k:NameKind},l.lookup x=some k->(x,k) ∈ l
 | (n,k')::r,x,k,h=>by
   rw [jW] at h
   cases hx:x == n with
   | true=>rw [hx] at h;cases h;rw [eq_of_beq hx];exact bO
   | false=>rw [hx] at h;exact df _ (si h)
theorem NH{scope:Scope}{env:Env}{x:Str}(hc:∀p ∈ scope.names,p.2 ≠ .cell)(h:(relabel scope env).names.lookup x=some .cell\/(relabel scope env).names.lookup x=some .free):(x,NameKind.free) ∈ scope.names:=by
 have:∃k,(x,k) ∈ (relabel scope env).names/\(k=.cell\/k=.free):=by
  rcases h with h | h
  ·exact⟨_,si h,.inl rfl⟩
  ·exact⟨_,si h,.inr rfl⟩
 obtain⟨k,hm,hk⟩:=this
 obtain⟨⟨n,k0⟩,hp,e⟩:=i7.mp hm
 dsimp only at e
 split at e
 ·rename_i q
  cases e
  have:k0=.free:=by
   rw [fZ,fZ] at q
   exact eq_of_beq q.1.1
  rw [this] at hp;exact hp
 ·cases e
  rcases hk with rfl | rfl
  ·exact absurd rfl (hc _ hp)
  ·exact hp
theorem AB{env:Env}:∀{names:List (Str × NameKind)} {x:Str},names.lookup x=some .free->
 (names.map λ(n,k)=>if (k == NameKind.free && env.scope.kind == .function && env.kindOf n == some .cell) then (n,NameKind.cell) else (n,k)).lookup x ≠ some .local
 | [],_,h=>nomatch h
 | (n,k)::r,x,h=>by
   rw [bR]
   rw [jW] at h
   dsimp only
   cases hx:x == n with
   | true =>
     rw [hx] at h
     cases h
     split
     ·rw [jW,hx];intro z;cases z
     ·rw [jW,hx];intro z;cases z
   | false =>
     rw [hx] at h
     split
     ·rw [jW,hx];exact AB h
     ·rw [jW,hx];exact AB h
structure CP where
 cl:List (Str × Addr)
 C:Addr
 s:Shared
 H:Hp
 fp:List Addr
noncomputable def Cx.compC(X:Cx)(N:List Str)(scope:Scope)(c:CP):Cx :=
 { X with N:=N,s₀:=c.s,H₀:=c.H,env:=compEnvC scope c.cl c.C X.env,outer:=X.stack,ex:=c.fp,fn:=λ_=>false,pn:=[],xe:=λ_ _=>False }
abbrev Cx.comp(X:Cx)(N:List Str)(scope:Scope)(cl:List (Str × Addr))(C:Addr)(s:Shared)(H:Hp)(fp:List Addr):Cx:=X.compC N scope ⟨cl,C,s,H,fp⟩
section
variable {X:Cx} {pins:List (Addr × Obj)} {σ:St} {H:Hp} {s:Shared} {N:List Str} {scope:Scope} {cl:List (Str × Addr)} {C:Addr} {fp:List Addr}
theorem ae.compOk(I:ae X pins σ H s)(hf:∀b ∈ fp,gT X pins H b)(hlt:∀b ∈ fp,b<s.heap.objs.size)(hC:s.heap.objs.size<=C)(hkind:scope.kind=.function)(hcell:∀p ∈ scope.names,p.2 ≠ .cell)
 (h1:∀x c,cl.lookup x=some c->X.env.cells.lookup x=some c) (h2:∀x,(x,NameKind.free) ∈ scope.names->∃c,cl.lookup x=some c):(X.comp N scope cl C s H fp).Ok where
 mod:=I.ok.mod
 kind:=hkind
 glob:=I.ok.glob
 blt:=I.ok.blt
 above:=hC
 inj:=λx y c e1 e2=>I.ok.inj x y c (h1 x c e1) (h1 y c e2)
 has:=λx h=>h2 x (NH hcell h)
 cab:=λ_ _ z=>nomatch z
 hd:=I.ok.hd
 frames:=I.ok.frames
 stk:=.inl rfl
 exf:=λb hb=>⟨λz=>i4 _ (dZ (hlt b hb) (by rw [z];exact hC)),λx c e=>(hf b hb).2.2.2.2.1 x c (h1 x c e)⟩
 bs:=I.bs
 bsz:=c7 I.ok.bsz I.sz
 noex:=λb o e hb=>by
  rcases (hf b hb).2.2.2.1 with z | z
  ·exact I.ok.noex b o e z
  ·exact absurd (dZ (bj e) (c7 I.ok.bsz z)) (i4 _)
 exfs:=λb hb z=>by
  rcases bE.mp (I.stkSub b z) with e | e
  ·exact(hf b hb).2.1 e
  ·exact(hf b hb).2.2.1 e
 funs:=I.stack
 frf:=I.stkFree
end
noncomputable def pQ(cap:List (Option Nat))(σ:St):St:=cap.map λo=>match o with
 | none=>none
 | some j=>(σ[j]?).join
noncomputable def Ci(X:Cx)(ifs:List Expr)(t:TT):Prop:=∀(pins:List (Addr × Obj)) (s:Shared) (σ:St) (H:Hp) (Q:Bool->Hp->Prop),ae X pins σ H s->t σ H Q->
 wpAny (model X.prog X.w) X.A (forIn ifs true λ(c:Expr) (r:Bool)=>if r=true then (PySem.isTrue c X.env (eval c X.env) >>= λok=>(pure (ForInStep.yield ok):Sem _)) else (pure (ForInStep.yield r):Sem _)) (TP X pins σ Q) X.xe s
noncomputable def jA:TT:=λ_ H Q=>Q true H
theorem Hr{X:Cx}:Ci X [] jA:=λpins s σ H Q I h=>wpAny_tests_nil ⟨H,I,h⟩
theorem Tc{prog:Program}{w:World}{A:Around}{R:Result->Shared->Prop}{s:Shared}{elt tg iter:Expr}{ifs:List Expr}{scope:Scope}{pos:Pos}{it acc:Value}{env:Env}(J:Nat->Shared->Prop)
 (turn:∀n s,J n s->wpAny (model prog w) A (pyNext it) (λr s₁=>match r with
  | none=>R (.ok .next) s₁
  | some v=>wpAny (model prog w) A (letOwnedTupleGo tg it v) (λ_ s₂=>wpAny (model prog w) A (assign tg env v) (λ_ s₃ =>
   wpAny (model prog w) A (forIn ifs true λ(c:Expr) (r:Bool)=>if r=true then (PySem.isTrue c env (eval c env) >>= λok=>(pure (ForInStep.yield ok):Sem _)) else (pure (ForInStep.yield r):Sem _)) (λok s₄ =>
    if ok=true then wpAny (model prog w) A (eval elt env) (λx s₅=>wpAny (model prog w) A (call (.builtin "list.append") [acc,x]) (λ_ s₆=>∃m,m<n/\J m s₆) (λ_ _=>False) s₅) (λ_ _=>False) s₄
    else ∃m,m<n/\J m s₄) (λ_ _=>False) s₃) (λ_ _=>False) s₂) (λ_ _=>False) s₁) (λ_ _=>False) s)
 (n:Nat) (h:J n s):codeAny (model prog w) A (.compLoop (.ListComp elt [⟨tg,iter,ifs,0⟩] scope pos) 0 it acc env) R s:=by
 have off:∀{α:Type} {t:Sem α} {Q:α->Shared->Prop} {E:Value->Shared->Prop} {s:Shared},wpAny (model prog w) A t Q (λ_ _=>False) s->wpAny (model prog w) A t Q E s:=λh=>wpAny_mono h (λ_ _ q=>q) λ_ _ z=>z.elim
 refine codeAny_loop rfl J (λn s hJ=>?_) n h
 show wpAny _ A ((compTurn (.ListComp elt [⟨tg,iter,ifs,0⟩] scope pos) 0 it acc env).onRaise (λx=>do noteFrame x env;theTreesLotGoes x)) _ _ s
 refine wpAny_noted ?_
 rw [compTurn_list]
 refine wpAny_bind (wpAny_standAt (wpAny_bind (off (av (turn n s hJ) λr s₁ h₁=>?_))))
 cases r with
 | none=>exact wpAny_pure h₁
 | some v =>
   refine wpAny_bind (off (av h₁ λ_ s₂ h₂=>wpAny_bind (off (av h₂ λ_ s₃ h₃=>wpAny_bind (off (av h₃ λok s₄ h₄=>?_))))))
   cases ok with
   | false=>exact wpAny_pure ⟨rfl,h₄⟩
   | true=>exact wpAny_bind (wpAny_bind (off (av h₄ λx s₅ h₅=>wpAny_bind (off (av h₅ λ_ s₆ h₆=>wpAny_pure (wpAny_pure ⟨rfl,h₆⟩))))))
noncomputable def o3(J:It)(g:TG)(tt:TT)(te:TE)(D:Addr)(σ:St)(H:Hp)(Q:VK):Prop:=∃W:Nat->Nat->St->Hp->Prop,(∃m,W 0 m σ H)/\∀i m σc Hc,W i m σc Hc->
 (J.stop i Hc/\Q (.ref D) Hc)\/(J.go i Hc/\∃N:St->Hp->Prop,(∀σ' H',N σ' H'->∃m',m'<m/\W (i+1) m' σ' H')/\∀x H',J.yld i Hc x H'->g x σc H' λσ2 H2=>tt σ2 H2 λb H3 =>
  if b=true then te σ2 H3 λv H4=>∃ys,H4 D=some (.lst ys)/\ys.length<sizeLine/\N σ2 (ai H4 D (.lst (ys++[v]))) else N σ2 H3)
noncomputable def qX(cap:List (Option Nat))(wi:TI)(g:CP->TG)(tt:CP->TT)(te:CP->TE):TE:=λσ H Q=>wi σ H λJ H1=>∀D,H1 D=none->∀c:CP,o3 J (g c) (tt c) (te c) D (pQ cap σ) (ai H1 D (.lst [])) Q
section
variable {X:Cx} {N:List Str} {scope:Scope} {tg elt iter:Expr} {ifs:List Expr} {pos:Pos} {wi:TI} {g:CP->TG} {tt:CP->TT} {te:CP->TE} {cap:List (Option Nat)}
structure Df(X:Cx)(N:List Str)(scope:Scope)(tg:Expr)(ifs:List Expr)(elt:Expr)(g:CP->TG)(tt:CP->TT)(te:CP->TE):Prop where
 tg:∀c,PG (X.compC N scope c) tg (g c)
 ifs:∀c,Ci (X.compC N scope c) ifs (tt c)
 elt:∀c,PE (X.compC N scope c) elt (te c)
noncomputable def Lk(X:Cx)(N:List Str)(scope:Scope)(cap:List (Option Nat)):Prop:=cap.length=N.length/\∀(i:Nat) (x:Str) (j:Nat),N[i]?=some x->cap[i]?=some (some j)->X.N[j]?=some x/\(X.env.kindOf x=some .cell\/X.env.kindOf x=some .free)/\scope.names.lookup x=some .free
theorem Jx(hc:X.calm=true)(hkind:scope.kind=.function)(hcell:∀p ∈ scope.names,p.2 ≠ .cell)(hcap:Lk X N scope cap)(B:Df X N scope tg ifs elt g tt te){cl:List (Str × Addr)}
 (h1:∀x c,cl.lookup x=some c->X.env.cells.lookup x=some c) (h2:∀x,(x,NameKind.free) ∈ scope.names->∃c,cl.lookup x=some c) (hfk:X.env.scope.kind=.function)
 {pins:List (Addr × Obj)} {σ:St} {H:Hp} {s:Shared} {it:Addr} {fp:List Addr} {tn:Nat->Heap->Prop} {J:It} {Q:VK} {E:Value->Shared->Prop} {RR:Value->Addr->Result->Shared->Prop}
 (I:ae X pins σ H s) (T:jQ X.prog X.w X.K tg J fp it tn) (st:tn 0 s.heap) (f:∀b ∈ fp,gT X pins H b)
 (h:∀D,H D=none->∀c:CP,o3 J (g c) (tt c) (te c) D (pQ cap σ) (ai H D (.lst [])) Q)
 (hR:∀D C H' s' m,ae X pins σ H' s'->Q (.ref D) H'->s'.heap.Ns C m->s.heap.objs.size<=C->H' C=none->RR (.ref D) C (.ok .next) s'):
 wpAny (model X.prog X.w) X.A (newList []) (λacc s₃=>wpAny (model X.prog X.w) X.A (newFunctionEnv scope X.env.globals cl [] X.env.qual none .none (some X.env)) (λcenv s₄ =>
  codeAny (model X.prog X.w) X.A (.compStart (.ListComp elt [⟨tg,iter,ifs,0⟩] scope pos) 0 (.ref it) acc { cenv with scope:=relabel scope X.env }) (RR acc cenv.locals) s₄) E s₃) E s:=by
 have hlt:∀b ∈ fp,b<s.heap.objs.size:=λb hb=>by obtain⟨o,e,_⟩:=T.obj _ _ st b hb;exact bj e
 refine wpAny_newObj_type (wpAny_newFunctionEnv hcell (by intro y hy;simp at hy) (λh₁ hns₁ hsb₁=>?_) hkind)
 dsimp only at hns₁ hsb₁ ⊢
 generalize hD:s.heap.push { cls:=.type "list",dict:=none,data:=.seq ([]:List Value).toArray }=G at hns₁ hsb₁ ⊢
 have hC:G.objs.size=s.heap.objs.size+1:=by rw [← hD,qy]
 have hCle:s.heap.objs.size<=G.objs.size:=by rw [hC];exact nP _
 have hDC:s.heap.objs.size ≠ G.objs.size:=by rw [hC];exact cG (Cm _)
 have old:∀b o,s.heap.get? b=some o->h₁.get? b=some o:=λb o e =>
  hsb₁.extBut b o (by have:=bj e;rw [hC];exact cG (Nat.lt_succ_of_lt this)) (bP _ (hD ▸ bP _ e))
 have hacc:h₁.get? s.heap.objs.size=some { cls:=.type "list",dict:=none,data:=.seq ([]:List Value).toArray }:=hsb₁.extBut _ _ hDC (bP _ (hD ▸ cM _ rfl))
 have hDn:H s.heap.objs.size=none:=I.hok.fresh (aI _)
 have hCn:H G.objs.size=none:=I.hok.fresh hCle
 obtain⟨W,⟨m0,w0⟩,turn⟩:=h s.heap.objs.size hDn ⟨cl,G.objs.size,s,H,fp⟩
 have ok:=I.compOk (N:=N) (C:=G.objs.size) f hlt hCle hkind hcell h1 h2
 have tup':∀b xs,H b=some (.tup xs)->ai H s.heap.objs.size (.lst []) b=some (.tup xs):=λb xs e=>by rw [au (bQ e hDn)];exact e
 have hok1:bZ X.prog X.w (ai H s.heap.objs.size (.lst [])) h₁:=I.hok.laid old (aI _) ⟨cU _,[],_,.nil,hacc⟩
 have I1:ae (X.comp N scope cl G.objs.size s H fp) [] (pQ cap σ) (ai H s.heap.objs.size (.lst [])) { s with heap:=h₁,toks:=s.toks+([]:List (Str × Value)).length }:=by
  refine⟨ok,rfl,I.bare,Un.laid old (aI _) hDn,⟨_,hns₁,λi x v e1 e2 e3=>?_⟩,λx c e=>?_,?_,λx c e=>?_,(λp hp=>absurd (show p ∈ ([]:List (Addr × Obj)) from hp) (by simp)),hok1,?_⟩
  ·unfold pQ at e2
   rw [bS] at e2
   cases hj:cap[i]? with
   | none=>rw [hj] at e2;cases e2
   | some o =>
     cases o with
     | none=>rw [hj] at e2;cases e2
     | some j =>
       rw [hj] at e2
       have e2':(σ[j]?).join=some v:=dS e2
       have e4:σ[j]?=some (some v):=by
        cases q:σ[j]? with
        | none=>rw [q] at e2';cases e2'
        | some y=>rw [q] at e2';exact congrArg some e2'
       obtain⟨c1,c2,c3⟩:=hcap.2 i x j e1 hj
       obtain⟨m,hn,hl⟩:=I.loc
       obtain⟨u,r,l⟩:=hl j x v c1 e4 (.inr c2)
       refine⟨u,r,?_⟩
       rcases l with⟨k,_⟩ | ⟨_,c,hc',z⟩
       ·rcases c2 with c2 | c2
        ·rw [c2] at k;cases k
        ·rw [c2] at k;cases k
       ·have fm:(x,NameKind.free) ∈ scope.names:=si c3
        obtain⟨c',hc2⟩:=h2 x fm
        have:c'=c:=by have:=h1 x c' hc2;rw [hc'] at this;exact(dS this).symm
        subst this
        obtain⟨oc,hoc,hd⟩:=z
        refine .inr ⟨?_,c',hc2,⟨oc,old _ _ hoc,hd⟩⟩
        rcases e3 with q | q | q
        ·exact absurd q (AB c3)
        ·exact .inl q
        ·exact .inr q
  ·obtain⟨v,oc,hoc,hd⟩:=I.cell x c (h1 x c e)
   exact⟨v,oc,old _ _ hoc,hd⟩
  ·rw [show (X.comp N scope cl G.objs.size s H fp).env.locals=G.objs.size from rfl,au (dG hDC)];exact hCn
  ·have z:=I.freeC x c (h1 x c e)
   obtain⟨v,oc,hoc,hd⟩:=I.cell x c (h1 x c e)
   rw [au (cG (bj hoc))];exact z
  ·unfold pQ;rw [aT];exact hcap.1
 have fok:∀{H':Hp},(∀b ∈ fp,H' b=none)->∀b ∈ fp,gT (X.comp N scope cl G.objs.size s H fp) [] H' b:=λhn b hb =>
  ⟨hn b hb,(ok.exf b hb).1,ok.exfs b hb,.inl hb,(ok.exf b hb).2,(λp hp=>absurd (show p ∈ ([]:List (Addr × Obj)) from hp) (by simp))⟩
 have st1:tn 0 h₁:=T.keep _ _ _ st λb _ o e=>old b o e
 have fr1:∀b ∈ fp,ai H s.heap.objs.size (.lst []) b=none:=λb hb=>by rw [au (cG (hlt b hb))];exact(f b hb).1
 have loop:∀s₃:Shared,s₃={ s with heap:=h₁,toks:=s.toks+([]:List (Str × Value)).length }->
  codeAny (model X.prog X.w) X.A (.compLoop (.ListComp elt [⟨tg,iter,ifs,0⟩] scope pos) 0 (.ref it) (.ref s.heap.objs.size) (compEnvC scope cl G.objs.size X.env)) (RR (.ref s.heap.objs.size) G.objs.size) s₃:=by
  rintro s₃ rfl
  refine Tc (λn s'=>∃i σ' H',ae (X.comp N scope cl G.objs.size s H fp) [] σ' H' s'/\tn i s'.heap/\(∀b ∈ fp,H' b=none)/\W i n σ' H') ?_ m0 ⟨0,_,_,I1,st1,fr1,w0⟩
  rintro n s3 ⟨i,σ3,H3,I3,st3,fr3,w3⟩
  rcases turn i n σ3 H3 w3 with⟨stop,q⟩ | ⟨go,N',hN,step⟩
  ·refine av (T.done (X.comp N scope cl G.objs.size s H fp) rfl rfl rfl hc i [] s3 σ3 H3 _ I3 (fok fr3) st3 stop) λr s4 ⟨hr,I4⟩=>?_
   subst hr
   obtain⟨m,hn,_⟩:=I4.loc
   refine hR _ _ H3 s4 m (I.call' (ch:=fp) I4.os I4.base I4.hok I4.bare λb hb=>?_) q hn hCle I4.free
   obtain⟨_,z1,_,z3,z4,z5⟩:=f b hb
   exact⟨z3,z1,z4,z5⟩
  ·refine av (T.item (X.comp N scope cl G.objs.size s H fp) rfl rfl rfl hc i [] s3 σ3 H3 _ I3 (fok fr3) st3 go) λr s4 ⟨u,hr,h4⟩=>?_
   subst hr
   refine av h4 λ_ s5 ⟨x,H5,I5,r5,y5,st5,fr5⟩=>?_
   have I5':=I5.pinned (fok fr5) (T.obj _ _ st5)
   refine av (B.tg ⟨cl,G.objs.size,s,H,fp⟩ _ s5 σ3 H5 x u _ I5' r5 (step x H5 y5)) λ_ s6 ⟨σ6,H6,I6,q6⟩=>?_
   refine av (B.ifs ⟨cl,G.objs.size,s,H,fp⟩ _ s6 σ6 H6 _ I6 q6) λok7 s7 ⟨H7,I7,q7⟩=>?_
   have again:∀{s8:Shared} {H8:Hp},ae (X.comp N scope cl G.objs.size s H fp) ([]++oT fp s5.heap) σ6 H8 s8->N' σ6 H8->∃m,m<n/\∃i σ' H',ae (X.comp N scope cl G.objs.size s H fp) [] σ' H' s8/\tn i s8.heap/\(∀b ∈ fp,H' b=none)/\W i m σ' H':=λ {s8 H8} I8 n8=>by
    obtain⟨m',hm,w8⟩:=hN σ6 H8 n8
    have pn:∀b o,b ∈ fp->s5.heap.get? b=some o->s8.heap.get? b=some o/\H8 b=none:=λb o hb e =>
     let z:=I8.pin (b,o) (gs _ (gs _ (Bq hb e)));⟨z.1,z.2.1⟩
    refine⟨m',hm,i+1,σ6,H8,I8.unpinned,T.keep _ _ _ st5 λb hb o e=>(pn b o hb e).1,λb hb=>?_,w8⟩
    obtain⟨o,e,d⟩:=T.obj _ _ st5 b hb
    exact(pn b o hb e).2
   cases ok7 with
   | false=>rw [if_neg cz] at q7 ⊢;exact again I7 q7
   | true =>
     rw [if_pos rfl] at q7 ⊢
     refine av (B.elt ⟨cl,G.objs.size,s,H,fp⟩ _ s7 σ6 H7 _ I7 q7) λv s8 ⟨y,H8,I8,r8,ys,hy,hs,n8⟩=>?_
     refine av (Ii (X:=X.comp N scope cl G.objs.size s H fp) _ s8 σ6 H8 (.ref s.heap.objs.size) [y] (.ref s.heap.objs.size) [v] (λz H9=>z=.non/\H9=ai H8 s.heap.objs.size (.lst (ys++[y]))) I8 rfl (.cons r8 .nil) ⟨_,ys,y,rfl,rfl,hy,hs,rfl,rfl⟩) λ_ s9 ⟨z,H9,I9,_,_,e9⟩=>?_
     subst e9
     exact again I9 n8
 exact codeAny_compStart_list (loop _ rfl) (T.self _ 0 _ _ _ st1 (loop _ rfl))
end
end L2
set_option maxHeartbeats 4000000
namespace L2
open PySem PySem.Spec PyProof.Rows
section
variable {X:Cx} {N:List Str} {scope:Scope} {tg elt iter:Expr} {ifs:List Expr} {pos:Pos} {wi:TI} {g:CP->TG} {tt:CP->TT} {te:CP->TE} {cap:List (Option Nat)}
structure qF(X:Cx)(N:List Str)(scope:Scope)(cap:List (Option Nat)):Prop where
 kind:scope.kind=.function
 cell:∀p ∈ scope.names,p.2 ≠ .cell
 names:∀p ∈ scope.names,p.2=.local->scope.names.lookup p.1=some .local
 free:∀p ∈ scope.names,p.2=.free->X.env.kindOf p.1=some .cell\/X.env.kindOf p.1=some .free
 cap:Lk X N scope cap
noncomputable def uW(XN:List Str)(xsc:Scope)(N:List Str)(scope:Scope)(cap:List (Option Nat)):Bool :=
 scope.kind == .function && scope.names.all (λp=>p.2 != .cell) && scope.names.all (λp=>p.2 != .local || scope.names.lookup p.1 == some .local) &&
 scope.names.all (λp=>p.2 != .free || (xsc.names.lookup p.1 == some .cell || xsc.names.lookup p.1 == some .free)) && cap.length == N.length &&
 (List.range N.length).all λi=>match N[i]?,cap[i]? with
  | some x,some (some j)=>XN[j]? == some x && (xsc.names.lookup x == some .cell || xsc.names.lookup x == some .free) && scope.names.lookup x == some .free
  | _,_=>true
theorem Jy(h:uW X.N X.env.scope N scope cap=true):qF X N scope cap:=by
 unfold uW at h
 simp only [fZ] at h
 obtain⟨⟨⟨⟨⟨h1,h2⟩,h3⟩,h4⟩,h5⟩,h6⟩:=h
 refine⟨eq_of_beq h1,λp hp z=>?_,λp hp z=>?_,λp hp z=>?_,eq_of_beq h5,λi x j e1 e2=>?_⟩
 ·have:=eV.mp h2 p hp
  rw [z] at this;cases this
 ·have:=eV.mp h3 p hp
  rw [z] at this
  simpa using this
 ·have:=eV.mp h4 p hp
  rw [z] at this
  have e:(NameKind.free != NameKind.free)=false:=by decide
  rw [e,Bool.false_or,qG] at this
  rcases this with q | q
  ·exact .inl (eq_of_beq q)
  ·exact .inr (eq_of_beq q)
 ·have hi:i<N.length:=(bh.mp e1).1
  have:=eV.mp h6 i (jV.mpr hi)
  rw [e1,e2] at this
  simp only [fZ] at this
  exact⟨eq_of_beq this.1.1,(qG _ _ ▸ this.1.2:_\/_).imp eq_of_beq eq_of_beq,eq_of_beq this.2⟩
theorem qF.clo{pins:List (Addr × Obj)}{σ:St}{H:Hp}{s:Shared}(S:qF X N scope cap)(I:ae X pins σ H s):
 ∃cl,closureFor scope X.env=pure cl/\(∀x c,cl.lookup x=some c->X.env.cells.lookup x=some c)/\∀x,(x,NameKind.free) ∈ scope.names->∃c,cl.lookup x=some c :=
 Tq λp hp z=>I.ok.has p.1 (S.free p hp z)
theorem ae.letGo{pins:List (Addr × Obj)}{σ:St}{H H2:Hp}{s s2:Shared}{C:Addr}{h':Heap}(I2:ae X pins σ H2 s2)(I:ae X pins σ H s)(hC:s2.heap.objs.size<=C)(hn:H C=none)(hs:Heap.SameBut C s.heap h'):ae X pins σ H { s with heap:=h' }:=by
 obtain⟨f0,f1,f2,f3,f4,f5⟩:=I2.fpOk (H':=H) hC hn
 exact I.turned (t':=s.toks) (λb o hb e=>hs.extBut b o hb e) f0 f1 f3 f4 f5
theorem OB(S:qF X N scope cap)(hc:X.calm=true)(hi:PI X tg iter wi)(B:Df X N scope tg ifs elt g tt te)(hs:∀x,foldedSetIterable iter X.env x=pure x:=by intro _;rfl):
 PE X (.ListComp elt [⟨tg,iter,ifs,0⟩] scope pos) (qX cap wi g tt te):=by
 intro pins s σ H Q I h
 obtain⟨cl,hcl,h1,h2⟩:=S.clo I
 rw [eval_ListComp]
 refine wpAny_comprehension_free (use:=none) rfl hs hcl S.kind S.names (av (hi pins s σ H _ I h) λv s1 q1=>av q1 λitv s2 ⟨it,fp,tn,J,H2,e,I2,T,st,f,q⟩=>?_)
 subst e
 refine Jx (RR:=λacc C=>compPost (model X.prog X.w) X.A X.xe none (EP X pins σ Q) acc C) hc S.kind S.cell S.cap B h1 h2 I2.ok.kind I2 T st f q λD C H' s' m I' q' hn hC hCn=>?_
 exact⟨m,hn,λh' hs'=>⟨.ref D,H',I2.letGo I' hC hCn hs',rfl,q'⟩⟩
theorem NZ{i:Nat}{y:Str}{py spos:Pos}(hN:X.N.Nodup)(hi:X.N[i]?=some y)(hy:X.env.kindOf y=some .local)(S:qF X N scope cap)(hc:X.calm=true)(hit:PI X tg iter wi)(B:Df X N scope tg ifs elt g tt te)
 (hsw:swapsWith (.ListComp elt [⟨tg,iter,ifs,0⟩] scope pos) (some (.Name y py)) spos.line X.env=pure true) (hs:∀x,foldedSetIterable iter X.env x=pure x:=by intro _;rfl):
 PS X (.Assign [.Name y py] (.ListComp elt [⟨tg,iter,ifs,0⟩] scope pos) spos) (λD σ H=>qX cap wi g tt te σ H λv H1=>D.nx (σ.set i (some v)) H1):=by
 intro pins s σ H D I h
 obtain⟨cl,hcl,h1,h2⟩:=S.clo I
 rw [exec_Assign_Name_used _ _ _ _ hsw]
 refine wpAny_bind (wpAny_standAt (wpAny_bind ?_))
 show wpAny _ X.A (do let _ ← comprehension (.ListComp elt [⟨tg,iter,ifs,0⟩] scope pos) scope X.env _ (newList []) false (eval iter X.env) (some (assign (.Name y py) X.env))) _ _ s
 refine wpAny_bind (av (wpAny_comprehension_free (use:=some (assign (.Name y py) X.env)) (Q:=λ_ s'=>SP X pins D .next s') rfl hs hcl S.kind S.names (av (hit pins s σ H _ I h) λv s1 q1=>av q1 λitv s2 ⟨it,fp,tn,J,H2,e,I2,T,st,f,q⟩=>?_))
  λ_ s' hq=>wpAny_pure (wpAny_pure hq))
 subst e
 refine Jx (Q:=λv H1=>D.nx (σ.set i (some v)) H1) (RR:=λacc C=>compPost (model X.prog X.w) X.A X.xe (some (assign (.Name y py) X.env)) (λ_ s'=>SP X pins D .next s') acc C) hc S.kind S.cell S.cap B h1 h2 I2.ok.kind I2 T st f q λA C H' s' m I' q' hn hC hCn=>?_
 show wpAny _ X.A (assign (.Name y py) X.env (.ref A)) _ _ _
 refine wpAny_assign_Name (Ea (v:=.ref A) I' hN hi (.inl hy) rfl (λs'' I'' ⟨a,sb,ha⟩=>?_) (.inr hy))
 obtain⟨f0,f1,f2,f3,f4,f5⟩:=I2.fpOk (H':=H') hC hCn
 have hCa:C ≠ a:=by
  rcases ha with e | e
  ·rw [e];exact f1
  ·exact dG (f4 y a e)
 refine⟨m,hn.sameBut sb hCa,λh' hs'=>⟨_,H',?_,q'⟩⟩
 exact I''.turned (t':=s''.toks) (λb o hb e=>hs'.extBut b o hb e) f0 f1 f3 f4 f5
end
structure jl(J:It)(xs:List V)(Ok:Hp->Prop):Prop where
 go:∀i H,i<xs.length->Ok H->J.go i H
 stop:∀i H,xs.length<=i->Ok H->J.stop i H
 yld:∀i H x H',i<xs.length->Ok H->J.yld i H x H'->H'=H/\xs[i]?=some x
theorem iK{K:Frag}{a:Addr}{xs:List V}:jl (xP K a) xs (λH=>aD K H a xs) where
 go:=λi H h q=>⟨xs,xs[i],q,by simp [h]⟩
 stop:=λi H h q=>⟨xs,q,h⟩
 yld:=λi H x H' _ q y=>⟨y.1,y.2 xs q⟩
theorem Dw{K:Frag}{a:Addr}{xs:List V}:jl (Cv K a) xs (λH=>aG K H a xs) where
 go:=λi H h q=>⟨xs,xs[i],q,by simp [h]⟩
 stop:=λi H h q=>⟨xs,q,h⟩
 yld:=λi H x H' _ q y=>⟨y.1,y.2 xs q⟩
noncomputable def Tt(c:Nat):V:=.str ⟨#[c]⟩
theorem Lx{z:Str}:jl (xO z) (z.cps.toList.map Tt) (λ_=>True) where
 go:=λi H h _=>by
  rw [aT,kT] at h
  exact h
 stop:=λi H h _=>by
  rw [aT,kT] at h
  exact h
 yld:=λi H x H' _ _ y=>by
  obtain⟨e,c,hc,rfl⟩:=y
  exact⟨e,by rw [bS,hc];rfl⟩
noncomputable def jz(lo:Int)(n:Nat):List V:=(List.range n).map λ(k:Nat)=>V.int (lo+k)
theorem Ly{lo:Int}{n:Nat}:jl (kQ lo n) (jz lo n) (λ_=>True) where
 go:=λi H h _=>by
  unfold jz at h;rw [aT,iF] at h
  exact h
 stop:=λi H h _=>by
  unfold jz at h;rw [aT,iF] at h
  exact h
 yld:=λi H x H' h _ y=>by
  unfold jz at h;rw [aT,iF] at h
  obtain⟨e,hx⟩:=y
  subst hx
  refine⟨e,?_⟩
  unfold jz
  rw [bS,qp h]
  rfl
theorem fD{J:It}{xs:List V}{Ok:Hp->Prop}(Wk:jl J xs Ok){g:TG}{tb:TS}{D:ie}{σ:St}{H:Hp}(Pv:Nat->St->Hp->Prop)(h0:Pv 0 σ H)(hl:∀i σ H,i<=xs.length->Pv i σ H->Ok H)
 (hs:∀i x σ H,xs[i]?=some x->Pv i σ H->g x σ H λσ2 H2=>tb { D with nx:=Pv (i+1),ct:=Pv (i+1),bk:=D.nx } σ2 H2) (hd:∀σ H,Pv xs.length σ H->D.nx σ H):
 ∃W:Nat->Nat->St->Hp->Prop,(∃m,W 0 m σ H)/\∀i m σ H,W i m σ H->
   (J.stop i H/\D.nx σ H)\/(J.go i H/\∃N:St->Hp->Prop,(∀σ' H',N σ' H'->∃m',m'<m/\W (i+1) m' σ' H')/\∀x H',J.yld i H x H'->g x σ H' λσ2 H2=>tb { D with nx:=N,ct:=N,bk:=D.nx } σ2 H2):=by
 refine⟨λi m σ H=>m=xs.length-i/\i<=xs.length/\Pv i σ H,⟨xs.length,by simp,cU _,h0⟩,?_⟩
 rintro i m σ H ⟨rfl,hi,p⟩
 have q:=hl i σ H hi p
 by_cases hlt:i<xs.length
 ·refine .inr ⟨Wk.go i H hlt q,Pv (i+1),λσ' H' p'=>⟨xs.length-(i+1),by omega,rfl,hlt,p'⟩,λx H' y=>?_⟩
  obtain⟨e,y'⟩:=Wk.yld i H x H' hlt q y
  subst e
  exact hs i x σ _ y' p
 ·have e:i=xs.length:=by omega
  subst e
  exact .inl ⟨Wk.stop _ H (aI _) q,hd σ H p⟩
theorem so{J:It}{xs:List V}{Ok:Hp->Prop}(Wk:jl J xs Ok){g:TG}{tt:TT}{te:TE}{σ:St}{H:Hp}{D:Addr}{Q:VK}(Pv:Nat->St->Hp->Prop)(h0:Pv 0 σ H)(hl:∀i σ H,i<=xs.length->Pv i σ H->Ok H)
 (hs:∀i x σ H,xs[i]?=some x->Pv i σ H->g x σ H λσ2 H2=>tt σ2 H2 λb H3=>if b=true then te σ2 H3 λv H4=>∃ys,H4 D=some (.lst ys)/\ys.length<sizeLine/\Pv (i+1) σ2 (ai H4 D (.lst (ys++[v]))) else Pv (i+1) σ2 H3)
 (hd:∀σ H,Pv xs.length σ H->Q (.ref D) H):o3 J g tt te D σ H Q:=by
 refine⟨λi m σ H=>m=xs.length-i/\i<=xs.length/\Pv i σ H,⟨xs.length,by simp,cU _,h0⟩,?_⟩
 rintro i m σ H ⟨rfl,hi,p⟩
 have q:=hl i σ H hi p
 by_cases hlt:i<xs.length
 ·refine .inr ⟨Wk.go i H hlt q,Pv (i+1),λσ' H' p'=>⟨xs.length-(i+1),by omega,rfl,hlt,p'⟩,λx H' y=>?_⟩
  obtain⟨e,y'⟩:=Wk.yld i H x H' hlt q y
  subst e
  exact hs i x σ _ y' p
 ·have e:i=xs.length:=by omega
  subst e
  exact .inl ⟨Wk.stop _ H (aI _) q,hd σ H p⟩
theorem ni{σ:St}{H:Hp}{A B:Hp->Prop}(h:A H):jA σ H (λb H3=>if b=true then A H3 else B H3):=by
 show if true=true then A H else B H
 rw [if_pos rfl];exact h
theorem nj{J:It}{xs:List V}{Ok:Hp->Prop}(Wk:jl J xs Ok){tt:TT}{te:TE}{H:Hp}{D:Addr}{Q:VK}{caps:St}(p:V->Bool)(f:V->V)(hl:∀ys,Ok (ai H D (.lst ys)))(hz:xs.length<sizeLine)
 (hs:∀(i:Nat) (x:V) (ys:List V) (R:Hp->Prop),xs[i]?=some x->ys.length<sizeLine->(p x=true->R (ai H D (.lst (ys++[f x]))))->(p x=false->R (ai H D (.lst ys)))->
  tt (some x::caps) (ai H D (.lst ys)) λb H3=>if b=true then te (some x::caps) H3 λv H4=>∃ys,H4 D=some (.lst ys)/\ys.length<sizeLine/\R (ai H4 D (.lst (ys++[v]))) else R H3)
 (hd:Q (.ref D) (ai H D (.lst ((xs.filter p).map f)))):o3 J (f9 0) tt te D (none::caps) (ai H D (.lst [])) Q:=by
 refine so Wk (λi σ H'=>∃r,σ=r::caps/\H'=ai H D (.lst (((xs.take i).filter p).map f))) ⟨none,rfl,rfl⟩ (λi σ H' _ ⟨_,_,e⟩=>by rw [e];exact hl _) ?_ ?_
 ·rintro i x σ H' hx ⟨r,rfl,rfl⟩
  have hlen:(((xs.take i).filter p).map f).length<sizeLine:=by
   rw [aT]
   have:=List.length_filter_le p (xs.take i)
   have h2:(xs.take i).length<=xs.length:=List.length_take_le' _ _
   omega
  refine hs i x _ (λH3=>∃r,some x::caps=r::caps/\H3=ai H D (.lst (((xs.take (i+1)).filter p).map f))) hx hlen (λhp=>⟨_,rfl,?_⟩) (λhp=>⟨_,rfl,?_⟩)
  ·rw [take_succ_filter p _ i x hx,hp,if_pos rfl,gv];rfl
  ·rw [take_succ_filter p _ i x hx,hp,if_neg cz,gw]
 ·rintro σ H' ⟨r,rfl,rfl⟩
  rw [fH];exact hd
end L2
set_option maxHeartbeats 4000000
namespace L2
open PySem PySem.Spec PyProof.Rows
noncomputable def jn(n:Int):Prop:=Builtin.Int.intBits n<=1048576
theorem My{n:Int}(h:n.natAbs.log2+1<=1048576):jn n:=Cc.mpr (dZ Nat.lt_log2_self (ma (by decide) h))
theorem Mw:jn 0:=by unfold jn;decide
theorem jn.le{m n:Int}(h:jn n)(e:m.natAbs<=n.natAbs):jn m:=Cc.mpr (xD e (Cc.mp h))
theorem Gi:∀{ns:List Int} {w:Nat},PySem.W.WData.weightAll (ns.map PySem.W.WData.int)<=w->w<=1048576->∀n ∈ ns,jn n
 | [],_,_,_,_,h=>nomatch h
 | x::r,w,h,hw,n,hn=>by
   rw [bR] at h
   unfold PySem.W.WData.weightAll at h
   rcases bE.mp hn with e | e
   ·subst e
    unfold PySem.W.WData.weight at h
    by_cases z:n=0
    ·rw [z];exact Mw
    ·rw [if_neg (by simpa using z)] at h
     exact My (by omega)
   ·exact Gi (ns:=r) (w:=w) (by omega) hw n e
theorem MJ{ns:List Int}(h:PySem.W.WData.layableAll [PySem.W.WData.list (ns.map PySem.W.WData.int)]=true):∀n ∈ ns,jn n:=by
 unfold PySem.W.WData.layableAll at h
 rw [nZ,fZ] at h
 have h1:=h.1
 unfold PySem.W.WData.layable at h1
 rw [fZ] at h1
 have h2:=of_decide_eq_true h1.2
 unfold PySem.W.WData.weight at h2
 exact Gi h2 (by decide)
theorem Lz{l:PySem.W.OpenLaw}{n k:Nat}{q:Program}{loose:List Str}{XP:(Str->Option Value)->Heap->Prop}{YP:World->Heap->Prop}{d:DefRec}{K:Params->Frag}{CX:World->fY}{sp:World->Sp}{x:Str}
 (hn:l.most=some n) (hn2:n<=sizeLine) (hdf:d.params.defaults=[]) (hr:cb k callerA)
 (hY:∀(w:World) (h:Heap),YP w h->(K w.params).In h)
 (F:∀(w:World) (mg:Str->Option Value) (fa:Addr) (h:Heap),(K w.params).In h->h.Ns mainGlobals mg->mg d.name=some (.ref fa)->
  ∃fd:FuncData,(∀(s:Shared) (u:Value),BindsTo s fd ⟨[u],[]⟩ [(x,u)])/\
    ∀base:Heap,(K w.params).In base->base.Ns mainGlobals mg->ar l.prog w (K w.params) mg base (CX w) k fa fd [x] (sp w))
 (hsp:∀(w:World) (H:Hp) (a:Addr) (ns:List Int),ns.length<=n->(∀n ∈ ns,jn n)->xt H->aD (K w.params) H a (ns.map V.int)->sp w [.ref a] H (λv _=>v=.bl true) λ_ _ _=>False)
 (hCX:∀(w:World) (H:Hp) (s:Shared) (e:Value) (s':Shared),CX w [] H s (λ_ _ _=>False) e s'->False):
 PySem.W.WalkO q loose XP YP l.row.toRowW d [] (λf vs=>PySem.call f vs):=by
 intro w s₀ s₁ mg mb G Y fa o pm cd doc dV kV ho hd hcd hD hmg hg args vals as hpre hlay hrd hwl hlo
 obtain rfl:dV=.none:=PySem.W.Dflts.none hD hdf
 obtain rfl:kV=.none:=PySem.W.Dflts.noKw hD
 obtain⟨a,vs,ns,rfl,rfl,hobj,hints,hlen⟩:=Att.script_of hn hpre hwl
 have KX:=hY w _ Y
 obtain⟨fd,hb,hF⟩:=F w mg fa _ KX G.T.g hmg
 have hc:=IC KX G.T.g G.T.b G.T.builtins G.T.nolimit hg hobj hints (c7 hlen hn2) hr hF hb (λH hO hS=>hsp w H a ns hlen (MJ hlay) hO hS) λH e s'=>hCX w H s₁ e s'
 refine PySem.W.enter_call (codeAny_mono hc λr s' hq=>?_)
 obtain⟨rfl,h2,h3,h4⟩:=hq
 exact⟨.inl ⟨.bool true,.bool true,[],rfl,λ_=>rfl,.bool true,Att.post_true l _,λ_=>⟨List.Pairwise.nil,λ_ hm=>(nomatch hm)⟩⟩,h2,h3,h4⟩
section
variable {X:Cx}
noncomputable def Uu(i j:Int):Prop:=Builtin.Int.intBits i<=4000000/\Builtin.Int.intBits j<=4000000
end
end L2
set_option maxHeartbeats 4000000
namespace L2
open PySem PySem.Spec PyProof.Rows
noncomputable def tx(l:List Nat):Str:=⟨l.toArray⟩
theorem oy(l:List Nat):(tx l).cps.toList=l:=rfl
theorem cV(l:List Nat):(tx l).length=l.length:=cZ ..
theorem kY(l m:List Nat):tx l++tx m=tx (l++m):=by
 show (⟨l.toArray++m.toArray⟩:Str)=⟨(l++m).toArray⟩
 rw [List.append_toArray]
theorem qS{l m:List Nat}(h:tx l=tx m):l=m:=congrArg (λz:Str=>z.cps.toList) h
theorem LI(l:List Nat)(n:Int):rK (tx l) n=tx (List.replicate n.toNat l).flatten:=rfl
theorem DJ(c:Nat)(l:List Nat):(!(Builtin.Str.occurrences (tx l) (tx [c]) 0 (tx l).length 1).isEmpty)=decide (c ∈ l):=StrLaws.found_one (tx l) c
abbrev vt(l:List Nat):V:=.str (tx l)
theorem pP(l:List Nat)(k:Nat):dE l none (some (k:Int))=l.take k:=by
 unfold dE
 rw [HT.sIx_none,HT.sIx_nat,nX,xx]
 by_cases h:k<=l.length
 ·rw [Nat.min_eq_left h]
 ·rw [Nat.min_eq_right (by omega),fH,qk (by omega)]
theorem BY(l:List Nat)(k:Nat):dE l (some (k:Int)) none=l.drop k:=by
 unfold dE
 rw [HT.sIx_none,HT.sIx_nat]
 by_cases h:k<=l.length
 ·rw [Nat.min_eq_left h,qk (by rw [gR];omega)]
 ·rw [Nat.min_eq_right (by omega),Nat.sub_self,List.take_zero,xM (by omega)]
section
variable {X:Cx}
noncomputable def GV(neg:Bool):R2:=λx y H Q=>∃c l,x=vt [c]/\y=vt l/\Q (.bl (if neg then !decide (c ∈ l) else decide (c ∈ l))) H
theorem P6:bw X (compareOp .In) (GV false):=by
 intro pins s σ H x y v u Q I rx ry h
 obtain⟨c,l,rfl,rfl,q⟩:=h
 exact P4 pins s σ H _ _ v u Q I rx ry ⟨_,_,rfl,rfl,by rw [DJ];exact q⟩
theorem OP:bw X (compareOp .NotIn) (GV true):=by
 intro pins s σ H x y v u Q I rx ry h
 obtain⟨c,l,rfl,rfl,q⟩:=h
 exact ON pins s σ H _ _ v u Q I rx ry ⟨_,_,rfl,rfl,by rw [DJ];exact q⟩
noncomputable def p8:=(P6 (X:=X)).or P5
noncomputable def HZ:=(OP (X:=X)).or OO
noncomputable def iu:=(OZ (X:=X)).or OY
noncomputable def Sb(K:Frag)(te:TE):TI:=λσ H R=>te σ H λx H1=>(∃a xs,x=.ref a/\aD K H1 a xs/\R (xP K a) H1)\/(∃a xs,x=.ref a/\aG K H1 a xs/\R (Cv K a) H1)\/(∃z,x=.str z/\R (xO z) H1)
theorem di{e:Expr}{te:TE}{nm:Str}{np:Pos}(he:PE X e te):PI X (.Name nm np) e (Sb X.K te):=by
 intro pins s σ H R I h
 refine av (he pins s σ H _ I h) λv s1 ⟨x,H1,I1,r1,q1⟩=>?_
 have fp:∀b ∈ [s1.heap.objs.size],gT X pins H1 b:=λb hb=>by
  have e:b=s1.heap.objs.size:=by simpa using hb
  subst e
  exact I1.fpOk (aI _) (I1.hok.fresh (aI _))
 rcases q1 with⟨a,xs,rfl,hq,q⟩ | ⟨a,xs,rfl,hq,q⟩ | ⟨z,rfl,q⟩
 ·cases r1
  obtain⟨its,rv,p,hz⟩:=I1.list hq
  exact wpAny_pyIter_list p.isList ⟨s1.heap.objs.size,[s1.heap.objs.size],_,_,H1,rfl,I1.kept (t':=s1.toks) λb o e=>bP _ e,DM a _,⟨_,cM _ rfl,rfl,rfl⟩,fp,q⟩
 ·cases r1
  obtain⟨its,rv,p,hz⟩:=I1.tuple hq
  exact wpAny_pyIter_tuple (show s1.heap.IsTuple a its.toArray from p) ⟨s1.heap.objs.size,[s1.heap.objs.size],_,_,H1,rfl,I1.kept (t':=s1.toks) λb o e=>bP _ e,LK a _,⟨_,cM _ rfl,rfl,rfl⟩,fp,q⟩
 ·obtain⟨t,rfl⟩:=r1
  cases ha:z.cps.all (·<128) with
  | false =>
    exact wpAny_pyIter_wide ha ⟨s1.heap.objs.size,[s1.heap.objs.size],_,_,H1,rfl,I1.kept (t':=s1.toks) λb o e=>bP _ e,DK (ty := "str_iterator") _ z t (λ_ _ _ _ _ _ h1 h2 h3=>wpAny_pyNext_wide_item h1 h2 h3) (λ_ _ _ _ _ h0 h1 h2 h3=>wpAny_pyNext_wide_end h0 h1 h2 h3)
     (λ_ _ _ _ _ h1 h2=>wpAny_pyIter_striter_wide h1 h2),⟨_,cM _ rfl,rfl,rfl⟩,fp,q⟩
  | true =>
    exact wpAny_pyIter_ascii ha ⟨s1.heap.objs.size,[s1.heap.objs.size],_,_,H1,rfl,I1.kept (t':=s1.toks) λb o e=>bP _ e,DK (ty := "str_ascii_iterator") _ z t (λ_ _ _ _ _ _ h1 h2 h3=>wpAny_pyNext_ascii_item h1 h2 h3) (λ_ _ _ _ _ h0 h1 h2 h3=>wpAny_pyNext_ascii_end h0 h1 h2 h3)
     (λ_ _ _ _ _ h1 h2=>wpAny_pyIter_striter_ascii h1 h2),⟨_,cM _ rfl,rfl,rfl⟩,fp,q⟩
theorem fw(l:List Nat):jl (xO (tx l)) (l.map λc=>vt [c]) (λ_=>True):=Lx
theorem yt:∀{ls:List (List Nat)} {us:List Value},aB (ls.map vt) us->StrsAre us (ls.map tx)
 | [],_,.nil=>.nil
 | l::ls,_,.cons r t=>by
   obtain⟨k,rfl⟩:=r
   exact .cons _ _ (yt t)
theorem yr(ls:List (List Nat)):((ls.map tx).map (·.length)).sum=ls.flatten.length:=by
 induction ls with
 | nil=>rfl
 | cons l r ih=>rw [bR,bR,dA,ih,cV,jY,aq]
noncomputable def bT(sep:List Nat):List (List Nat)->List Nat
 | []=>[]
 | [l]=>l
 | l::m::r=>l++sep++bT sep (m::r)
theorem v7(ls:List (List Nat)):bT [] ls=ls.flatten:=by
 induction ls with
 | nil=>rfl
 | cons l r ih =>
   cases r with
   | nil=>simp [bT]
   | cons m r=>unfold bT;rw [ih];simp
theorem ym(sep:List Nat):∀ls:List (List Nat),Txt.join (tx sep) (ls.map tx)=tx (bT sep ls):=by
 intro ls
 show Builtin.Str.glued (tx sep) (ls.map tx)=_
 rw [StrLaws.glued_eq_join]
 induction ls with
 | nil=>rfl
 | cons l r ih =>
   cases r with
   | nil=>rfl
   | cons m r =>
     rw [bR,bR]
     show tx l++tx sep++Str.join (tx sep) (tx m::r.map tx)=_
     rw [bR] at ih
     rw [ih,kY,kY]
     rfl
noncomputable def NP(K:Frag):V->List V->Hp->VK->Prop:=λx vs H Q=>∃sep p ls,x=vt sep/\vs=[.ref p]/\(aD K H p (ls.map vt)\/aG K H p (ls.map vt))/\ls.flatten.length+ls.length*sep.length<=16777216/\Q (vt (bT sep ls)) H
theorem Ih:gP X "str.join" (NP X.K):=by
 intro pins s σ H x vs v us Q I rx rs h
 obtain⟨sep,p,ls,rfl,rfl,hp,hz,q⟩:=h
 obtain⟨t,rfl⟩:=rx
 obtain⟨u,rfl,ru⟩:=eX rs
 cases (show u=Value.ref p from ru)
 rw [show vt (bT sep ls)=.str (Txt.join (tx sep) (ls.map tx)) by rw [ym]] at q
 have hok:((ls.map tx).map (·.length)).sum+(ls.map tx).length*(tx sep).length<=16777216:=by rw [yr,aT,cV];exact hz
 have fin:∀t' k,EP X pins σ Q (.str (Txt.join (tx sep) (ls.map tx)) t') { s with toks:=k }:=λt' k=>⟨.str _,H,I.tok k,⟨t',rfl⟩,q⟩
 rcases hp with hp | hp
 ·obtain⟨its,rv,p',_⟩:=I.list hp
  exact join_list p'.isList (by simpa using yt rv) hok fin
 ·obtain⟨its,rv,p',_⟩:=I.tuple hp
  exact join_tuple p' (by simpa using yt rv) hok fin
noncomputable def PF(X:Cx)(e:Expr)(t:St->Hp->(Str->Hp->Prop)->Prop):Prop:=∀(pins:List (Addr × Obj)) (s:Shared) (σ:St) (H:Hp) (Q:Str->Hp->Prop),ae X pins σ H s->t σ H Q->
 wpAny (model X.prog X.w) X.A (eval e X.env) (λu s'=>∃z tk H',u=.str z tk/\ae X pins σ H' s'/\Q z H') X.xe s
theorem Ot{z:Str}{j pos}:PF X (.Constant (.str z) j pos) (λ_ H Q=>Q z H):=λ_ _ _ H _ I h=>Calls.Constant_str ⟨z,_,H,rfl,I.tok _,h⟩
theorem Hq{e:Expr}{te:TE}{pos:Pos}(he:PE X e te):PF X (.FormattedValue e (-1) none pos) (λσ H Q=>te σ H λx H1=>(∃z,x=.str z/\z.length<=sizeLine/\Q z H1)\/∃i:Int,x=.int i/\i.natAbs.log2<1920/\Q (toString i) H1):=by
 intro pins s σ H Q I h
 refine wpAny_FormattedValue_plain (av (he pins s σ H _ I h) λv s1 ⟨x,H1,I1,r1,q⟩=>?_)
 rcases q with⟨z,rfl,hz,q⟩ | ⟨i,rfl,hi,q⟩
 ·obtain⟨t,rfl⟩:=r1
  exact wpAny_formatField_str ⟨_,_,H1,rfl,I1,q⟩ ⟨_,_,H1,rfl,I1.tok _,q⟩ hz
 ·obtain⟨t,rfl⟩:=r1
  exact wpAny_formatField_int hi ⟨_,_,H1,rfl,I1.tok _,q⟩
noncomputable def qi(X:Cx)(es:List Expr)(t:Str->St->Hp->(Str->Hp->Prop)->Prop):Prop:=∀(acc:Str) (pins:List (Addr × Obj)) (s:Shared) (σ:St) (H:Hp) (Q:Str->Hp->Prop),ae X pins σ H s->t acc σ H Q->
 Joins (model X.prog X.w) X.A X.xe (evalEach es X.env) acc (λout s'=>∃H',ae X pins σ H' s'/\Q out H') s
theorem Oq:qi X [] (λacc _ H Q=>Q acc H):=λacc pins s σ H Q I h=>⟨H,I,h⟩
theorem AN{e:Expr}{es:List Expr}{t:St->Hp->(Str->Hp->Prop)->Prop}{u:Str->St->Hp->(Str->Hp->Prop)->Prop}(he:PF X e t)(hs:qi X es u):
 qi X (e::es) (λacc σ H Q=>t σ H λz H1=>(acc++z).length<=sizeLine/\u (acc++z) σ H1 Q):=by
 intro acc pins s σ H Q I h
 show wpAny _ _ (eval e X.env) _ _ s
 exact av (he pins s σ H _ I h) λv s1 ⟨z,tk,H1,e1,I1,hz,q⟩=>⟨z,tk,e1,hz,hs (acc++z) pins s1 σ H1 Q I1 q⟩
noncomputable def M8(u:Str->St->Hp->(Str->Hp->Prop)->Prop):TE:=λσ H Q=>u Str.empty σ H λout H1=>out.length<=sizeLine/\Q (.str out) H1
theorem ID{M:Model}{A:Around}{E:Value->Shared->Prop}:∀(ps:List (Sem Value)) (acc:Str) (Q Q':Str->Shared->Prop) (s:Shared),(∀z s,Q z s->Q' z s)->Joins M A E ps acc Q s->Joins M A E ps acc Q' s
 | [],_,_,_,_,k,h=>k _ _ h
 | p::ps,acc,Q,Q',s,k,h=>av h λv s1 ⟨y,t,e,hz,hr⟩=>⟨y,t,e,hz,ID ps _ Q Q' s1 k hr⟩
theorem OC{e1 e2:Expr}{es:List Expr}{u:Str->St->Hp->(Str->Hp->Prop)->Prop}{pos:Pos}(h:qi X (e1::e2::es) u):PE X (.JoinedStr (e1::e2::es) pos) (M8 u):=by
 intro pins s σ H Q I hq
 refine wpAny_JoinedStr (ID _ _ _ _ _ (λz s' ⟨H',I',hz,q⟩=>⟨hz,.str z,H',I'.tok _,⟨_,rfl⟩,q⟩) (h Str.empty pins s σ H _ I hq))
end
end L2
set_option maxHeartbeats 4000000
namespace L2
open PySem PySem.Spec PyProof.Rows
noncomputable def hI(acc:List Nat)(c:Nat):List Nat:=if c ∈ acc then acc else acc++[c]
noncomputable def fb(l:List Nat):List Nat:=l.foldl hI []
theorem SF(l:List Nat)(c:Nat):fb (l++[c])=hI (fb l) c:=by unfold fb;rw [List.foldl_append];rfl
theorem Ul(acc:List Nat)(d c:Nat):c ∈ hI acc d ↔ c ∈ acc\/c=d:=by
 unfold hI
 split
 ·rename_i h
  exact⟨.inl,λz=>z.elim id λe=>e ▸ h⟩
 ·rw [cD,bx]
theorem J8:∀(l acc:List Nat) (c:Nat),c ∈ l.foldl hI acc ↔ c ∈ acc\/c ∈ l
 | [],acc,c=>by simp
 | d::r,acc,c=>by rw [nV,J8 r,Ul,bE,or_assoc]
theorem sM(l:List Nat)(c:Nat):c ∈ fb l ↔ c ∈ l:=by unfold fb;rw [J8];simp
theorem BL:∀(l acc:List Nat),(l.foldl hI acc).length<=acc.length+l.length/\((l.foldl hI acc).length=acc.length+l.length ↔ l.Nodup/\∀c ∈ l,c ∉ acc)
 | [],acc=>by simp
 | d::r,acc=>by
   obtain⟨h1,h2⟩:=BL r (hI acc d)
   rw [nV]
   by_cases hd:d ∈ acc
   ·have e:hI acc d=acc:=by unfold hI;rw [if_pos hd]
    rw [e] at h1 h2 ⊢
    rw [d8]
    refine⟨by omega,λz=>absurd z (by omega),λz=>absurd hd (z.2 d bO)⟩
   ·have e:hI acc d=acc++[d]:=by unfold hI;rw [if_neg hd]
    rw [e] at h1 h2 ⊢
    rw [aq,List.length_singleton] at h1 h2
    rw [d8]
    refine⟨by omega,λz=>?_,λz=>?_⟩
    ·obtain⟨n1,n2⟩:=h2.mp (by omega)
     refine⟨jU.mpr ⟨λq=>n2 d q (gs _ bO),n1⟩,λc hc q=>?_⟩
     rcases bE.mp hc with e' | e'
     ·rw [e'] at q;exact hd q
     ·exact n2 c e' (i8 _ q)
    ·obtain⟨n1,n2⟩:=z
     have n3:=jU.mp n1
     have:=h2.mpr ⟨n3.2,λc hc q=>by
      rcases cD.mp q with q | q
      ·exact n2 c (df _ hc) q
      ·have:c=d:=by simpa using q
       rw [this] at hc;exact n3.1 hc⟩
     omega
theorem SG(l:List Nat):(fb l).length<=l.length:=by have:=(BL l []).1;simpa [fb] using this
theorem SH(l:List Nat):(fb l).length=l.length ↔ l.Nodup:=by
 have:=(BL l []).2
 simpa [fb] using this
noncomputable def lC(l:List Nat):Str->Bool:=λz=>decide (∃c ∈ fb l,z=tx [c])
theorem QW(l:List Nat)(c:Nat)(z:Str):lC (l++[c]) z=(lC l z || decide (z=tx [c])):=by
 unfold lC
 rw [oj,qG,decide_eq_true_eq,decide_eq_true_eq,decide_eq_true_eq]
 constructor
 ·rintro⟨d,hd,rfl⟩
  rw [sM,cD,bx] at hd
  rcases hd with h | rfl
  ·exact .inl ⟨d,(sM l d).mpr h,rfl⟩
  ·exact .inr rfl
 ·rintro(⟨d,hd,rfl⟩ | rfl)
  ·exact⟨d,by rw [sM] at hd ⊢;exact i8 _ hd,rfl⟩
  ·exact⟨c,by rw [sM];exact gs _ bO,rfl⟩
theorem QX(l:List Nat)(c:Nat):(fb (l++[c])).length=if lC l (tx [c])=true then (fb l).length else (fb l).length+1:=by
 rw [SF]
 have e:lC l (tx [c])=decide (c ∈ fb l):=by
  unfold lC
  rw [oj,decide_eq_true_eq,decide_eq_true_eq]
  constructor
  ·rintro⟨d,hd,e⟩
   have:[c]=[d]:=qS e
   rw [mj this |>.1];exact hd
  ·exact λh=>⟨c,h,rfl⟩
 rw [e]
 unfold hI
 by_cases h:c ∈ fb l
 ·rw [if_pos h,decide_eq_true h,if_pos rfl]
 ·rw [if_neg h,decide_eq_false h,if_neg cz,aq];rfl
noncomputable def jo(P:Program)(w:World)(h:Heap)(a:Addr)(l:List Nat):Prop:=h.SetOf (strKind P w) a (lC l) (fb l).length
theorem jo.at{P:Program}{w:World}{h h':Heap}{a:Addr}{l:List Nat}(S:jo P w h a l)(k:∀o,h.get? a=some o->h'.get? a=some o):jo P w h' a l:=by
 obtain⟨o,es,ep,tb,ho,r⟩:=S
 exact⟨o,es,ep,tb,k o ho,r⟩
section
variable {prog:Program} {w:World} {A:Around} {R:Result->Shared->Prop} {I:Addr} {fp wr:List Addr} {G:Array GenState->Array GenState->Prop} {l:List Nat} {St:Nat->Shared->Prop}
theorem MH(W:WalksS prog w A.in1 I fp wr G l.length (SignAt (tx l)) St)(S:Addr)(hSf:S ∉ fp)(hb:l.length+1<scanBound):∀(k i:Nat) (s:Shared),l.length-i=k->i<=l.length->St i s->jo prog w s.heap S (l.take i)->
 (∀s',Moved (S::wr) G s s'->jo prog w s'.heap S l->R (.ok (.ret .none)) s')->codeAny (model prog w) A (.builtin "set.update.loop" ⟨[.ref S,.ref I],[]⟩) R s:=by
 have nw:S ∉ wr:=λh=>hSf (W.sub _ h)
 have more:∀b ∈ wr,b ∈ S::wr:=λb hb=>df _ hb
 intro k
 induction k with
 | zero =>
   intro i s hk hi hst hS hR
   have e:i=l.length:=by omega
   rw [e,fH] at hS
   rw [e] at hst
   refine codeAny_builtin PyProof.Rows.F.entry_set_update_loop ?_
   rw [om Kd _]
   show wpAny _ A.in1 (pyNext (.ref I) >>= _) _ _ s
   refine wpAny_bind (W.done s _ _ hst λs' hm=>?_)
   show wpAny _ A.in1 (ret Value.none) _ _ s'
   exact wpAny_pure (hR s' (hm.mono more) (hS.at λo ho=>hm.heap S o nw ho))
 | succ k ih =>
   intro i s hk hi hst hS hR
   have hlt:i<l.length:=by omega
   refine codeAny_builtin PyProof.Rows.F.entry_set_update_loop ?_
   rw [om Kd _]
   show wpAny _ A.in1 (pyNext (.ref I) >>= _) _ _ s
   refine wpAny_bind (W.item i s _ _ hlt hst λv s' hP hst' hm=>?_)
   obtain⟨c,u,hc,rfl⟩:=hP
   have hc':l[i]?=some c:=by rw [← oy l,mz];exact hc
   have hS':=hS.at (h':=s'.heap) λo ho=>hm.heap S o nw ho
   have tk:l.take (i+1)=l.take i++[c]:=by rw [i6,hc'];rfl
   have len:(fb (l.take i)).length+1<scanBound:=by have:=SG (l.take i);rw [dM] at this;omega
   show wpAny _ A.in1 (holding [Value.str (tx [c]) u] (setAdd S (.str (tx [c]) u)) >>= _) _ _ s'
   refine wpAny_bind (wpAny_holding ?_)
   unfold setAdd
   refine wpAny_holding (wpAny_bind ((strKind prog w).pyHash (k:=tx [c]) (by simp [PySem.strKind,Value.isStrOf]) ?_))
   refine wpAny_setAddHashed_of (knd:=strKind prog w) (s:={ s' with toks:=s'.toks+1 }) (by simp [PySem.strKind,Value.isStrOf]) rfl hS' len λh' hsb hS2=>?_
   have hS3:jo prog w h' S (l.take (i+1)):=by
    rw [tk]
    exact PyProof.Rows.SetOf_congr hS2 (λz=>(QW _ c z).symm) (QX _ c).symm
   refine wpAny_pure ⟨plainId_quiet Kd _,ih (i+1) _ (by omega) hlt (W.frame _ s' _ _ hst' (nP _) λb hb o e=>?_) hS3 λs'' hm'' hS''=>?_⟩
   ·rw [hsb.2 b (λz:b=S=>hSf (z ▸ hb))];exact e
   ·refine hR s'' (Moved.trans W.gtrans ((hm.mono more).then_heap (nP _) λb o hb e=>?_) hm'') hS''
    rw [hsb.2 b (λz:b=S=>hb (z ▸ bO))];exact e
end
namespace SetF
theorem no_str_set:isSubtype (.type "str") (.type "set")=pure false:=by rw [isSubtype_type];kernel_rfl
theorem no_str_frz:isSubtype (.type "str") (.type "frozenset")=pure false:=by rw [isSubtype_type];kernel_rfl
end SetF
section
variable {prog:Program} {w:World} {A:Around} {E:Value->Shared->Prop} {s:Shared}
abbrev lO(led:Bool):Obj:={ cls:=.type "set",dict:=none,data:=.set #[] 0 (.fresh 0 0 led) }
theorem ME{h:Heap}{a:Addr}{led:Bool}(e:h.get? a=some (lO led)):jo prog w h a [] :=
 ⟨_,#[],0,_,e,⟨rfl,rfl,rfl⟩,rfl,(λ_ z=>nomatch z),(λk=>Iff.intro (λz=>(of_decide_eq_true z).elim λc hc=>nomatch hc.1) (λz=>z.elim λ_ hc=>nomatch hc.1)),by decide,by rfl,rfl⟩
set_option maxHeartbeats 8000000 in
theorem TC{l:List Nat}{t:Tok}{Q:Value->Shared->Prop}(hh:A.handled=none)(hb:l.length+1<scanBound)
 (h:∀(h':Heap) (tk:Nat),jo prog w h' s.heap.objs.size l->(∀b o,b<s.heap.objs.size->s.heap.get? b=some o->h'.get? b=some o)->Q (.ref s.heap.objs.size) { s with heap:=h',toks:=tk }):
 wpAny (model prog w) A (call (.type "set") [.str (tx l) t]) Q E s:=by
 obtain⟨_,_,q1⟩:=mw.mro
 have q2:=mw.made
 have q3:=mw.sub
 refine wpAny_call (codeAny_of_tree (wpAny_pure ⟨Code.quiet_builtin _ (by decide +kernel),codeAny_builtin F.entry_type_call ?_⟩))
 rw [Around.under_plain (weight_type_call_type "set" [.str (tx l) t] []) rfl]
 have q4:=mw.notType
 have q5:=mw.canCreate
 have q6:=F.typeCall_set_1 (.str (tx l) t)
 repeat (any_goals (first | assumption | wp_step))
 refine codeAny_mono (code_set_new_1 (.str (tx l) t) (E:=E) (Q₁:=λx s1=>∃led:Bool,x=.ref s.heap.objs.size/\s1={ s with heap:=s.heap.push (lO led) }) λled=>⟨led,rfl,rfl⟩) λr s1 hr=>?_
 cases r with
 | error e=>exact hr
 | ok fl =>
   cases fl with
   | ret x =>
     obtain⟨led,rfl,rfl⟩:=hr
     have g1:(s.heap.push (lO led)).get? s.heap.objs.size=some (lO led):=cM _ rfl
     have g2:Shared.TypeIs { s with heap:=s.heap.push (lO led) } (.ref s.heap.objs.size) "set":=⟨_,g1,rfl⟩
     have q7:=mw.init.lookup
     have q8:=mw.init.bind (.ref s.heap.objs.size)
     repeat (any_goals (first | assumption | wp_step))
     refine codeAny_mono (codeAny_call_builtin (R:=wants (λr s2=>r=.none/\∃h' tk,s2={ s with heap:=h',toks:=tk }/\jo prog w h' s.heap.objs.size l/\(∀b o,b<s.heap.objs.size->s.heap.get? b=some o->h'.get? b=some o)) E)
      mw.init.plain F.entry_set_init (check_set_init_1 g2 ?_)) λr2 s2 hr2=>?_
     ·have q9:=SetF.no_str_set
      have q10:=SetF.no_str_frz
      have q11:(Value.type "str" == Value.type "dict")=false:=by decide
      unfold Builtin.«set.__init__» noKeywords Builtin.Frozenset.updateFrom
      generalize hPI:pyIter=PI
      wp_walk
      subst hPI
      refine wpAny_pyIter_str λo St Wk st0=>?_
      refine wpAny_bind (wpAny_runValue ?_)
      have nS:s.heap.objs.size ∉ [(s.heap.push (lO led)).objs.size]:=by
       rw [qy];simp only [bx];exact cG (Cm _)
      have sz:(tx l).cps.size=l.length:=cZ ..
      refine MH (l:=l) (by rw [← sz];exact(Wk A.in1.in1.in1 (by simp [hh])).toS) s.heap.objs.size nS hb (l.length-0) 0 _ (by omega) (cU _) st0 (ME (led:=led) (bP _ g1)) λs' hm hS'=>?_
      obtain⟨h',g',d',tk',os'⟩:=s'
      have eg:g'=s.gens:=hm.gens
      have ed:d'=s.drawn:=hm.drawn
      have eo:os'=s.os:=hm.os
      subst eg;subst ed;subst eo
      refine wpAny_pure ?_
      show wpAny _ _ (ret Value.none) _ _ _
      refine wpAny_pure ⟨rfl,h',tk',rfl,hS',λb o hb e=>hm.heap b o ?_ (bP _ (bP _ e))⟩
      have n2:b ≠ (s.heap.push (lO led)).objs.size:=by rw [qy];exact cG (Nat.lt_succ_of_lt hb)
      simp only [bE,bx,iZ,or_false,not_or]
      exact⟨cG hb,n2⟩
     ·cases r2 with
      | error e=>exact hr2
      | ok f2 =>
        cases f2 with
        | ret r =>
          obtain⟨rfl,h',tk,rfl,hS',hk'⟩:=hr2
          repeat (any_goals (first | assumption | wp_step))
          exact h _ _ hS' hk'
        | _=>exact hr2.elim
   | _=>exact hr.elim
end
end L2
set_option maxHeartbeats 4000000
namespace L2
open PySem PySem.Spec PyProof.Rows
structure cF(X:Cx)(es:List Expr)(t:TA):Prop where
 h:PA X es t
theorem cT{X:Cx}:cF X [] gX:=⟨lp⟩
theorem aE{X:Cx}{e:Expr}{te:TE}{es:List Expr}{t:TA}(ha:PE X e te)(hr:cF X es t)(hs:starEach (e::es) X.env=(false,eval e X.env)::starEach es X.env:=by rfl):cF X (e::es) (ig te t):=⟨AW ha hr.h hs⟩
noncomputable def yy(P:Program)(w:World)(a:Addr)(l:List Nat):HO:=.ext λh=>jo P w h a l
section
variable {X:Cx}
theorem TV(hc:X.calm=true):dO X (.type "set") (λxs H Q=>∃l,xs=[vt l]/\l.length+1<4096/\∀p,H p=none->Q (.ref p) (ai H p (yy X.prog X.w p l))):=by
 intro pins s σ H vs us Q I r h
 obtain⟨l,rfl,hl,q⟩:=h
 obtain⟨u,rfl,ru⟩:=eX r
 obtain⟨t,rfl⟩:=ru
 have hn:H s.heap.objs.size=none:=I.hok.fresh (aI _)
 refine TC (I.ok.hd hc) hl λh' tk hS k=>⟨.ref s.heap.objs.size,_,I.laid (o:=yy X.prog X.w s.heap.objs.size l) (λb u e=>k b u (bj e) e) (aI _) ?_,rfl,q _ hn⟩
 have ho:∃o,h'.get? s.heap.objs.size=some o:=let ⟨o,_,_,_,ho,_⟩:=hS;⟨o,ho⟩
 exact⟨hS,ho,λh1 h2 S k=>S.at k⟩
theorem U1:dO X (.builtin "len") (λxs H Q=>∃p l,xs=[.ref p]/\H p=some (yy X.prog X.w p l)/\Q (.int (fb l).length) H):=by
 intro pins s σ H vs us Q I r h
 obtain⟨p,l,rfl,hp,q⟩:=h
 obtain⟨u,rfl,ru⟩:=eX r
 cases (show u=Value.ref p from ru)
 obtain⟨hS,_⟩:=I.hok p _ hp
 obtain⟨o,es,ep,tb,ho,hex,hd,_,_,hb,hf,hn⟩:=hS
 have hb':es.size<4096:=hb
 refine call_len_set ho hex hd hf (by omega) ?_
 exact⟨.int es.size,H,I.tok _,⟨_,rfl⟩,by rw [hn];exact q⟩
theorem DN{bs:List Bool}{us:List Value}(r:aB (bs.map V.bl) us)(A:Around):TruthOf X.prog X.w A (λi v=>us.toArray[i]?=some v) (λi=>bs.getD i false):=by
 intro i v s Q E hv hq
 have hv':us[i]?=some v:=by simpa using hv
 have hl:=r.length
 rw [aT] at hl
 have hi:i<bs.length:=by have:=(bh.mp hv').1;omega
 obtain⟨u,hu,ru⟩:=r.get (i:=i) (x:=.bl bs[i]) (by rw [bS,bq hi];rfl)
 rw [hv'] at hu;cases hu
 cases (show v=Value.bool bs[i] from ru)
 refine wpAny_truthy_bool ?_
 have e:bs.getD i false=bs[i]:=by rw [fU,bq hi];rfl
 rw [← e];exact hq
theorem Uj(bs:List Bool):(List.range bs.length).all (λi=>bs.getD i false)=bs.all id:=by
 induction bs with
 | nil=>rfl
 | cons b r ih =>
   rw [d8,Km,nZ,ml,nZ,← ih]
   rfl
theorem Ui(bs:List Bool):(List.range bs.length).any (λi=>bs.getD i false)=bs.any id:=by
 induction bs with
 | nil=>rfl
 | cons b r ih =>
   rw [d8,Km,nY,List.any_map,nY,← ih]
   rfl
theorem nG(hc:X.calm=true):dO X (.builtin "all") (λxs H Q=>∃(p:Addr) (bs:List Bool),xs=[.ref p]/\aD X.K H p (bs.map V.bl)/\Q (.bl (bs.all id)) H):=by
 intro pins s σ H vs us Q I r h
 obtain⟨p,bs,rfl,hp,q⟩:=h
 obtain⟨u,rfl,ru⟩:=eX r
 cases (show u=Value.ref p from ru)
 obtain⟨its,rv,pl,_⟩:=I.list hp
 have hlen:its.toArray.size=bs.length:=by have:=rv.length;rw [aT] at this;simp [this]
 have hne:p ≠ s.heap.objs.size:=by obtain⟨o,ho,_⟩:=pl.isList;exact cG (bj ho)
 have hh:=I.ok.hd hc
 refine call_all_walk (wpAny_pyIter_list pl.isList ⟨s.heap.objs.size,_,_,_,_,_,λi=>bs.getD i false,rfl,Walks.list (by simp [hh]) _ p hne its.toArray,⟨⟨_,cM _ rfl,rfl,rfl⟩,pl.isList.push _⟩,DN rv _,λh' tk k=>?_⟩)
 rw [hlen,Uj]
 refine⟨.bl _,H,I.kept (t':=tk) λb u e=>k b u ?_ (bP _ e),rfl,q⟩
 intro z
 exact absurd (bj e) (by rw [bx.mp z];exact i4 _)
theorem callAny(hc:X.calm=true):dO X (.builtin "any") (λxs H Q=>∃(p:Addr) (bs:List Bool),xs=[.ref p]/\aD X.K H p (bs.map V.bl)/\Q (.bl (bs.any id)) H):=by
 intro pins s σ H vs us Q I r h
 obtain⟨p,bs,rfl,hp,q⟩:=h
 obtain⟨u,rfl,ru⟩:=eX r
 cases (show u=Value.ref p from ru)
 obtain⟨its,rv,pl,_⟩:=I.list hp
 have hlen:its.toArray.size=bs.length:=by have:=rv.length;rw [aT] at this;simp [this]
 have hne:p ≠ s.heap.objs.size:=by obtain⟨o,ho,_⟩:=pl.isList;exact cG (bj ho)
 have hh:=I.ok.hd hc
 refine call_any_walk (wpAny_pyIter_list pl.isList ⟨s.heap.objs.size,_,_,_,_,_,λi=>bs.getD i false,rfl,Walks.list (by simp [hh]) _ p hne its.toArray,⟨⟨_,cM _ rfl,rfl,rfl⟩,pl.isList.push _⟩,DN rv _,λh' tk k=>?_⟩)
 rw [hlen,Ui]
 refine⟨.bl _,H,I.kept (t':=tk) λb u e=>k b u ?_ (bP _ e),rfl,q⟩
 intro z
 exact absurd (bj e) (by rw [bx.mp z];exact i4 _)
theorem LA:∀(l:List Nat) (us:List Value),us.length=l.length->(∀(j:Nat) v,us[j]?=some v->SignAt (tx l) j v)->aB (l.map λc=>vt [c]) us:=by
 intro l us hl h
 have key:∀(us:List Value) (m:Nat),us.length+m=l.length->(∀(j:Nat) v,us[j]?=some v->SignAt (tx l) (m+j) v)->aB ((l.drop m).map λc=>vt [c]) us:=by
  intro us
  induction us with
  | nil=>intro m hm _;rw [xM (by simp at hm;omega)];exact .nil
  | cons u r ih =>
    intro m hm hs
    rw [d8] at hm
    obtain⟨c,tk,hc,rfl⟩:=hs 0 u rfl
    have hc':l[m]?=some c:=by rw [← oy l,mz];exact hc
    obtain⟨hlt,e⟩:=bh.mp hc'
    rw [Cs hlt,e,bR]
    refine .cons ⟨tk,rfl⟩ (ih (m+1) (by omega) λj v hv=>?_)
    have:=hs (j+1) v hv
    rw [show m+(j+1)=m+1+j by omega] at this
    exact this
 have:=key us 0 (by omega) (λj v hv=>by rw [Nat.zero_add];exact h j v hv)
 rwa [nX] at this
theorem TZ(hc:X.calm=true):dO X (.type "list") (λxs H Q=>∃l,xs=[vt l]/\l.length<=sizeLine/\∀p,H p=none->Q (.ref p) (ai H p (.lst (l.map λc=>vt [c])))):=by
 intro pins s σ H vs us Q I r h
 obtain⟨l,rfl,hl,q⟩:=h
 obtain⟨u,rfl,ru⟩:=eX r
 obtain⟨t,rfl⟩:=ru
 have sz:(tx l).cps.size=l.length:=cZ ..
 refine call_list_str (I.ok.hd hc) (tx l) t (λh' tk acc c' k e it=>?_) (by rw [sz];exact hl)
 have hv:=LA l acc.toList (by rw [kT,it.1,sz]) λj v hv=>it.2 j v (by simpa using hv)
 refine⟨.ref s.heap.objs.size,_,I.laid (o:=.lst (l.map λc=>vt [c])) k (aI _) ⟨by rw [aT];exact hl,acc.toList,c',hv,by simpa using e⟩,rfl,q _ (I.hok.fresh (aI _))⟩
noncomputable def U0(hc:X.calm=true):=(TK (X:=X)).or (TZ hc)
theorem Jf{xs ys:List V}:((List.range (min xs.length ys.length)).all (λj=>eS (xs.getD j .non) (ys.getD j .non)) && xs.length == ys.length)=gh xs ys:=by
 by_cases h:xs.length=ys.length
 ·rw [h,Nat.min_self,beq_self_eq_true,Bool.and_true,← h,uP h]
 ·rw [uO h,pX.mpr h,Bool.and_false]
noncomputable def GY(K:Frag)(neg:Bool):R2:=λx y H Q=>∃a b xs ys,x=.ref a/\y=.ref b/\aG K H a xs/\aG K H b ys/\xs.all fo=true/\ys.all fo=true/\Q (.bl (if neg then !gh xs ys else gh xs ys)) H
theorem P7(hu:X.A.units<cLine):bw X (compareOp .Eq) (GY X.K false):=by
 intro pins s σ H x y v u Q I rx ry h
 obtain⟨a,b,xs,ys,rfl,rfl,ha,hb,fx,fy,q⟩:=h
 cases (show v=Value.ref a from rx)
 cases (show u=Value.ref b from ry)
 obtain⟨its,rv,p,_⟩:=I.tuple ha
 obtain⟨its2,rv2,p2,_⟩:=I.tuple hb
 refine SeqAt.eq_tupleAt (e:=λj=>eS (xs.getD j .non) (ys.getD j .non)) p p2 hu (λj h1 h2=>uQ rv rv2 fx fy j h1 h2) ?_
 refine⟨.bl _,H,I,rfl,?_⟩
 rw [show its.toArray.size=xs.length by simp [rv.length],show its2.toArray.size=ys.length by simp [rv2.length],Jf]
 exact q
theorem OR(hu:X.A.units<cLine):bw X (compareOp .NotEq) (GY X.K true):=by
 intro pins s σ H x y v u Q I rx ry h
 obtain⟨a,b,xs,ys,rfl,rfl,ha,hb,fx,fy,q⟩:=h
 cases (show v=Value.ref a from rx)
 cases (show u=Value.ref b from ry)
 obtain⟨its,rv,p,_⟩:=I.tuple ha
 obtain⟨its2,rv2,p2,_⟩:=I.tuple hb
 refine SeqAt.RcNeAt.tuples (e:=λj=>eS (xs.getD j .non) (ys.getD j .non)) p p2 hu (λj h1 h2=>uQ rv rv2 fx fy j h1 h2) X.prog X.w X.xe _ ?_
 refine⟨.bl _,H,I,rfl,?_⟩
 rw [show its.toArray.size=xs.length by simp [rv.length],show its2.toArray.size=ys.length by simp [rv2.length],Jf]
 exact q
noncomputable def dR(hu:X.A.units<cLine):=(Pa (X:=X)).or ((P8 hu).or (P7 hu))
theorem ae.big{pins:List (Addr × Obj)}{σ:St}{H:Hp}{s:Shared}(I:ae X pins σ H s):sysModules<s.heap.objs.size :=
 xB (by decide) (I.mod.glob.keeps I.bk).lt
noncomputable def Mh:TE:=λ_ H Q=>∀p,H p=none->Q (.ref p) (ai H p (.dK []))
theorem AQ{pos:Pos}:PE X (.Dict [] [] pos) Mh:=λpins s σ H Q I h =>
 wpAny_Dict_empty ⟨.ref s.heap.objs.size,_,I.laid (a:=s.heap.objs.size) (o:=.dK []) (t':=s.toks) (λ_ _ q=>bP _ q) (aI _)
  ⟨cU _,pX.mpr (dG (cG I.big)),[],.nil,Heap.DictOf.new s.heap⟩,rfl,h _ (I.hok.fresh (aI _))⟩
end
end L2
namespace L2
open PySem PySem.Spec PyProof.Rows
section
variable {X:Cx}
theorem qN:∀{ns:List Int} {us:List Value},aB (ns.map V.int) us->∀(j:Nat) v,us[j]?=some v->∃t,v=.int (ns.getD j 0) t
 | [],_,r,j,v,h=>by
   cases r;cases h
 | n::ns,_,r,j,v,h=>by
   cases r with
   | cons a r =>
     cases j with
     | zero=>cases h;obtain⟨t,e⟩:=a;exact⟨t,e⟩
     | succ j=>exact qN r j v h
theorem Od:∀(ns:List Int),PySem.preSum (λj=>ns.getD j 0) ns.length=ns.sum:=by
 intro ns
 have go:∀(l:List Int) (k:Nat),k<=l.length->PySem.preSum (λj=>l.getD j 0) k=(l.take k).sum:=by
  intro l k
  induction k with
  | zero=>intro _;rw [List.take_zero];rfl
  | succ k ih =>
    intro h
    show PySem.preSum _ k+l.getD k 0=_
    rw [ih (by omega),i6,List.sum_append_int,bq (by omega),fU,bq (by omega)]
    simp
 rw [go ns _ (aI _),fH]
theorem JH(hc:X.calm=true):dO X (.builtin "sum") (λxs H Q=>∃(p:Addr) (ns:List Int),xs=[.ref p]/\aD X.K H p (ns.map V.int)/\Q (.int ns.sum) H):=by
 intro pins s σ H vs us Q I r h
 obtain⟨p,ns,rfl,hp,q⟩:=h
 obtain⟨u,rfl,ru⟩:=eX r
 cases (show u=Value.ref p from ru)
 obtain⟨its,rv,pl,_⟩:=I.list hp
 have hlen:its.toArray.size=ns.length:=by have:=rv.length;rw [aT] at this;simp [this]
 have hl:=pl.isList
 obtain⟨o,ho,_⟩:=id hl
 have hne:p ≠ s.heap.objs.size:=cG (bj ho)
 have hh:=I.ok.hd hc
 have W:=(Walks.list (prog:=X.prog) (w:=X.w) (A:=X.A.in1) hh s.heap.objs.size p hne its.toArray).toS
 rw [hlen] at W
 refine call_sum_walkAnyS (wpAny_pyIter_list hl ?_)
 refine⟨s.heap.objs.size,_,_,_,_,_,_,λj=>ns.getD j 0,rfl,W,⟨⟨_,cM _ rfl,rfl,rfl⟩,hl.push _⟩,λb hb=>?_,λi v hP=>qN rv i v (by simpa using hP),λs' t' hm=>?_⟩
 ·rcases bE.mp hb with rfl | hb
  ·exact bj (cM _ rfl)
  ·obtain rfl:=bx.mp hb
   exact bj (bP _ ho)
 ·obtain⟨h',g',d',tk',os'⟩:=s'
  have e1:g'=s.gens:=hm.gens
  have e2:d'=s.drawn:=hm.drawn
  have e3:os'=s.os:=hm.os
  subst e1 e2 e3
  rw [Od]
  exact⟨.int _,H,I.kept (t':=tk') λb u e=>hm.heap b u (λhb=>absurd (bj e) ((bx.mp hb) ▸ i4 _)) (bP _ e),⟨_,rfl⟩,q⟩
end
end L2
namespace L2
open PySem PySem.Spec PyProof.Rows
section
variable {K:Frag}
theorem bL{H:Hp}{p:Addr}(h:H p=none)(o:HO):ak H (ai H p o):=λb u q=>by rw [au (bQ q h)];exact q
theorem Gx{H H3:Hp}{p:Addr}(s:ak H H3)(h:H p=none)(o:HO):ak H (ai H3 p o):=λb u q=>by rw [au (bQ q h)];exact s b u q
theorem bX{H H':Hp}{a:Addr}{xs:List V}(e:ak H H')(h:aG K H a xs):aG K H' a xs:=by
 rcases h with(h | ⟨o,h⟩) | h
 ·exact .inl (.inl (e _ _ h))
 ·exact .inl (.inr ⟨o,e _ _ h⟩)
 ·exact .inr h
theorem ik{H H':Hp}{a:Addr}{xs:List V}(e:ak H H')(h:aD K H a xs):aD K H' a xs:=e.seq h
theorem Ny{H H':Hp}{a:Addr}{o:HO}(e:ak H H')(h:H a=some o):H' a=some o:=e _ _ h
theorem Qz{H:Hp}{p a:Addr}{o:HO}{xs:List V}(n:H p=none)(h:aG K H a xs):aG K (ai H p o) a xs:=bX (bL n o) h
theorem QA{H:Hp}{p a:Addr}{o:HO}{xs:List V}(n:H p=none)(h:aD K H a xs):aD K (ai H p o) a xs:=ik (bL n o) h
theorem pd{H:Hp}{p a:Addr}{o u:HO}(n:H p=none)(h:H a=some u):ai H p o a=some u:=bL n o _ _ h
theorem fQ{H H1:Hp}{p:Addr}{o:HO}(n:H1 p=none)(h:ak H H1):ak H (ai H1 p o):=h.trans (bL n o)
theorem pe{H:Hp}{p a:Addr}{o u:HO}(n:a ≠ p)(h:H a=some u):ai H p o a=some u:=by rw [au n];exact h
theorem QC{H:Hp}{p a:Addr}{o:HO}{xs:List V}(n:a ≠ p)(h:aG K H a xs):aG K (ai H p o) a xs:=by
 rcases h with(h | ⟨u,h⟩) | h
 ·exact .inl (.inl (pe n h))
 ·exact .inl (.inr ⟨u,pe n h⟩)
 ·exact .inr h
theorem QD{H:Hp}{p a:Addr}{o:HO}{xs:List V}(n:a ≠ p)(h:aD K H a xs):aD K (ai H p o) a xs:=by
 rcases h with(h | ⟨u,h⟩) | h
 ·exact .inl (.inl (pe n h))
 ·exact .inl (.inr ⟨u,pe n h⟩)
 ·exact .inr h
theorem jF{H H1:Hp}{p:Addr}{o:HO}(n:H p=none)(h:ak H H1):ak H (ai H1 p o):=Gx h n o
theorem cQ{H:Hp}{Q:VK}{p:Addr}{xs:List V}{i:Int}{v:V}(h:aD K H p xs)(e:dz xs i=some v)(q:Q v H):lg K (.ref p) (.int i) H Q:=.inl ⟨p,xs,i,v,rfl,rfl,h,e,q⟩
theorem aV{H:Hp}{Q:VK}{p:Addr}{xs:List V}{i:Int}{v:V}(h:aG K H p xs)(e:dz xs i=some v)(q:Q v H):lg K (.ref p) (.int i) H Q:=.inr (.inl ⟨p,xs,i,v,rfl,rfl,h,e,q⟩)
theorem gH{H:Hp}{Q:VK}{l:List Nat}{i:Int}{c:Nat}(h:l.length<=sizeLine)(e:dz l i=some c)(q:Q (vt [c]) H):lg K (vt l) (.int i) H Q:=.inr (.inr ⟨tx l,i,c,rfl,rfl,by rw [cV];exact h,e,q⟩)
theorem vb{H:Hp}{Q:VK}{l:Addr}{xs:List V}{y:V}(h:H l=some (.lst xs))(z:xs.length<sizeLine)(q:Q .non (ai H l (.lst (xs++[y])))):AF (.ref l) [y] H Q:=⟨l,xs,y,rfl,rfl,h,z,q⟩
theorem kX{H:Hp}{p:Addr}{xs:List V}(h:aD K H p xs):qR K "list" (.ref p) H:=.inl ⟨rfl,_,h⟩
theorem eF{H:Hp}{Q:VK}{l:List Nat}{lo hi:Option Int}(z:l.length<=sizeLine)(q:Q (vt (dE l lo hi)) H):GI (vt l) lo hi H Q:=⟨tx l,rfl,by rw [cV];exact z,q⟩
theorem dD{H:Hp}{l:List Nat}(h:l.length<=sizeLine):Cu K (vt l) H l.length:=⟨by rw [cV];exact h,(cV l).symm⟩
theorem lG{c A B:Prop}[Decidable c](h:c)(a:A):if decide c=true then A else B:=by rw [decide_eq_true h];exact gb a
theorem pD{c A B:Prop}[Decidable c](h:¬ c)(b:B):if decide c=true then A else B:=by rw [decide_eq_false h];exact bK b
theorem S3{c A B:Prop}[Decidable c](h:¬ c)(a:A):if (!decide c)=true then A else B:=by rw [decide_eq_false h];exact gb a
theorem eE{c A B:Prop}[Decidable c](h:c)(b:B):if (!decide c)=true then A else B:=by rw [decide_eq_true h];exact bK b
theorem dr{c A B:Prop}[Decidable c](a:c->A)(b:¬ c->B):if decide c=true then A else B:=by
 by_cases h:c
 ·exact lG h (a h)
 ·exact pD h (b h)
theorem IP{c A B:Prop}[Decidable c](a:¬ c->A)(b:c->B):if (!decide c)=true then A else B:=by
 by_cases h:c
 ·exact eE h (b h)
 ·exact S3 h (a h)
theorem gE{l m:List Nat}:(vt l=vt m) ↔ l=m:=⟨λh=>qS (V.str.inj h),congrArg _⟩
theorem JD{i j:Int}(h:0<j)(h2:j<1000000000):y8 i j:=by
 refine⟨by omega,dZ (show j.natAbs<2^30 by omega) (ma (by decide) (by decide))⟩
noncomputable def fG(i j:Int):Prop:=Dg i j\/Ut i j\/Uu i j
theorem QH{X:Cx}:bw X (binaryOp .Mult) (rI fG λi j=>.int (i*j)):=rN λ_ _ _ _ _ _ _ hc q=>by
 rcases hc with hc | hc | hc
 ·exact mul_int q hc.ok
 ·exact mul_int q (Cd (v3 hc.1) (v3 hc.2) (by decide))
 ·exact mul_int q (Cd hc.1 hc.2 (by decide))
noncomputable def oO:R2:=λx y H Q=>∃l m,x=vt l/\y=vt m/\l.length+m.length<=sizeLine/\Q (vt (l++m)) H
theorem Pb{X:Cx}:bw X (binaryOp .Add) oO:=λpins s σ H x y v u Q I rx ry h=>by
 obtain⟨l,m,rfl,rfl,hz,q⟩:=h
 exact Pe pins s σ H _ _ v u Q I rx ry ⟨_,_,rfl,rfl,by rw [cV,cV];exact hz,by rw [kY];exact q⟩
theorem RV{X:Cx}:bw X (inplaceOp .Add) oO:=λpins s σ H x y v u Q I rx ry h=>by
 obtain⟨l,m,rfl,rfl,hz,q⟩:=h
 exact RX pins s σ H _ _ v u Q I rx ry ⟨_,_,rfl,rfl,by rw [cV,cV];exact hz,by rw [kY];exact q⟩
noncomputable def GK:R2:=λx y H Q=>∃l n,x=vt l/\y=.int n/\(0<=n/\n<=4000/\l.length<=4000)/\Q (vt (List.replicate n.toNat l).flatten) H
theorem OL{X:Cx}:bw X (binaryOp .Mult) GK:=λpins s σ H x y v u Q I rx ry h=>by
 obtain⟨l,n,rfl,rfl,⟨h1,h2,h3⟩,q⟩:=h
 exact OV pins s σ H _ _ v u Q I rx ry ⟨_,_,rfl,rfl,h1,h2,by rw [cV];exact h3,by rw [LI];exact q⟩
noncomputable def cP{X:Cx}:=(QH (X:=X)).or (OL.or OM)
noncomputable def aM{X:Cx}:=(Pf (X:=X)).or (Pb.or (Pd.or Pc))
theorem aY{H:Hp}{Q:VK}{l m:List Nat}(z:l.length+m.length<=sizeLine)(q:Q (vt (l++m)) H):oO (vt l) (vt m) H Q:=⟨l,m,rfl,rfl,z,q⟩
theorem rX{i j:Int}(h1:-(2^64)<i)(h2:i<2^64):fG i j:=.inl (.inl ⟨h1,h2⟩)
theorem rW{i j:Int}(h1:-(2^64)<j)(h2:j<2^64):fG i j:=.inl (.inr ⟨h1,h2⟩)
theorem eC{i j:Int}(h1:i.natAbs<2^100000)(h2:j.natAbs<2^100000):fG i j:=.inr (.inl ⟨h1,h2⟩)
theorem RU{X:Cx}:bw X (inplaceOp .Mult) (rI fG λi j=>.int (i*j)):=rN λ_ _ _ _ _ _ _ hc q=>by
 rcases hc with hc | hc | hc
 ·exact PyProof.Rows.imul_int q hc.ok
 ·exact PyProof.Rows.imul_int q (Cd (v3 hc.1) (v3 hc.2) (by decide))
 ·exact PyProof.Rows.imul_int q (Cd hc.1 hc.2 (by decide))
theorem RW{X:Cx}:bw X (inplaceOp .Add) (iN λi j=>.int (i+j)):=AY λ_ _ _ _ _ _ _ q=>PyProof.Rows.iadd_int q
noncomputable def kH{X:Cx}:=(RW (X:=X)).or RV
noncomputable def nA{X:Cx}:=(RU (X:=X)).or (OQ (X:=X))
theorem BB{J:It}{xs:List V}{Ok:Hp->Prop}(Wk:jl J xs Ok){te:TE}{H:Hp}{D:Addr}{Q:VK}{caps:St}(R:Nat->V->Prop)(hl:∀ys,Ok (ai H D (.lst ys)))(hz:xs.length<sizeLine)
 (hs:∀(i:Nat) (x:V) (ys:List V) (C:VK),xs[i]?=some x->(∀v,R i v->C v (ai H D (.lst ys)))->te (some x::caps) (ai H D (.lst ys)) C)
 (hd:∀ys,ys.length=xs.length->(∀(j:Nat) v,ys[j]?=some v->R j v)->Q (.ref D) (ai H D (.lst ys))):o3 J (f9 0) jA te D (none::caps) (ai H D (.lst [])) Q:=by
 refine so Wk (λi σ H'=>∃r ys,σ=r::caps/\H'=ai H D (.lst ys)/\ys.length=i/\∀(j:Nat) v,ys[j]?=some v->R j v) ⟨none,[],rfl,rfl,rfl,λj v h=>nomatch h⟩ (λi σ H' _ ⟨_,_,_,e,_⟩=>by rw [e];exact hl _) ?_ ?_
 ·rintro i x σ H' hx ⟨r,ys,rfl,rfl,hy,hR⟩
  have hi:=(bh.mp hx).1
  simp only [f9,jA,if_true]
  refine hs i x ys _ hx λv hv=>⟨ys,aA,by omega,_,_,rfl,kW,by rw [aq,hy];rfl,λj u hu=>?_⟩
  by_cases z:j<ys.length
  ·rw [iH z] at hu;exact hR j u hu
  ·rw [iG (by omega)] at hu
   have:j-ys.length=0:=by
    have:=(bh.mp hu).1
    simp at this;omega
   rw [this] at hu
   cases hu
   have:j=i:=by omega
   rw [this];exact hv
 ·rintro σ H' ⟨r,ys,rfl,rfl,hy,hR⟩
  exact hd ys hy hR
theorem sr{J:It}{xs:List V}{Ok:Hp->Prop}(Wk:jl J xs Ok){te:TE}{H:Hp}{D:Addr}{Q:VK}{caps:St}(hD:H D=none)(R:Hp->Nat->V->Prop)(hm:∀H1 H2 j v,(∀b o,b ≠ D->H1 b=some o->H2 b=some o)->R H1 j v->R H2 j v)
 (hl:∀H1,ak H H1->Ok H1) (hz:xs.length<sizeLine)
 (hs:∀(i:Nat) (x:V) (H1:Hp) (ys:List V) (C:VK),xs[i]?=some x->ak H H1->H1 D=some (.lst ys)->(∀H2 v,ak H1 H2->R H2 i v->C v H2)->te (some x::caps) H1 C)
 (hd:∀H1 ys,ak H H1->H1 D=some (.lst ys)->ys.length=xs.length->(∀(j:Nat) v,ys[j]?=some v->R H1 j v)->Q (.ref D) H1):o3 J (f9 0) jA te D (none::caps) (ai H D (.lst [])) Q:=by
 refine so Wk (λi σ H'=>∃r ys,σ=r::caps/\ak H H'/\H' D=some (.lst ys)/\ys.length=i/\∀(j:Nat) v,ys[j]?=some v->R H' j v) ⟨none,[],rfl,bL hD _,aA,rfl,λj v h=>nomatch h⟩ (λi σ H' _ ⟨_,_,_,e,_⟩=>hl _ e) ?_ ?_
 ·rintro i x σ H' hx ⟨r,ys,rfl,hS,hy,hn,hR⟩
  have hi:=(bh.mp hx).1
  simp only [f9,jA,if_true]
  refine hs i x H' ys _ hx hS hy λH2 v h2 hv=>⟨ys,h2 _ _ hy,by omega,_,_,rfl,?_,aA,by rw [aq,hn];rfl,λj u hu=>?_⟩
  ·exact Gx (hS.trans h2) hD _
  ·have up:∀b o,b ≠ D->H2 b=some o->ai H2 D (.lst (ys++[v])) b=some o:=λb o hb e=>by rw [au hb];exact e
   by_cases z:j<ys.length
   ·rw [iH z] at hu
    exact hm _ _ _ _ up (hm _ _ _ _ (λb o _ e=>h2 b o e) (hR j u hu))
   ·rw [iG (by omega)] at hu
    have:j-ys.length=0:=by
     have:=(bh.mp hu).1
     simp at this;omega
    rw [this] at hu
    cases hu
    have:j=i:=by omega
    rw [this];exact hm _ _ _ _ up hv
 ·rintro σ H' ⟨r,ys,rfl,hS,hy,hn,hR⟩
  exact hd H' ys hS hy hn hR
noncomputable def jT(t:TE):Prop:=∀(σ:St) (H:Hp) (Q Q':VK),(∀v H,Q v H->Q' v H)->t σ H Q->t σ H Q'
noncomputable def i5(r:R2):Prop:=∀(x y:V) (H:Hp) (Q Q':VK),(∀v H,Q v H->Q' v H)->r x y H Q->r x y H Q'
theorem kB{i:Nat}:jT (gW i):=λ_ _ _ _ hq ⟨v,e,q⟩=>⟨v,e,hq _ _ q⟩
theorem ph{v:V}:jT (tC v):=λ_ _ _ _ hq q=>hq _ _ q
theorem je{r:R2}{ta tb:TE}(hr:i5 r)(ha:jT ta)(hb:jT tb):jT (iM r ta tb):=λσ H Q Q' hq h =>
 ha σ H _ _ (λx H1 h1=>hb σ H1 _ _ (λy H2 h2=>hr x y H2 _ _ hq h2) h1) h
theorem jd{r r':R2}(h:i5 r)(h':i5 r'):i5 (λx y H Q=>r x y H Q\/r' x y H Q):=λx y H Q Q' hq z=>by
 rcases z with z | z
 ·exact .inl (h x y H Q Q' hq z)
 ·exact .inr (h' x y H Q Q' hq z)
theorem Bo{C:Int->Int->Prop}{g:Int->Int->V}:i5 (rI C g):=λ_ _ _ _ _ hq ⟨i,j,e1,e2,c,q⟩=>⟨i,j,e1,e2,c,hq _ _ q⟩
theorem Bm{g:Int->Int->V}:i5 (iN g):=λ_ _ _ _ _ hq ⟨i,j,e1,e2,q⟩=>⟨i,j,e1,e2,hq _ _ q⟩
theorem rY:i5 (lg K):=λx y H Q Q' hq z=>by
 rcases z with⟨p,xs,i,v,e1,e2,h,a,q⟩ | ⟨p,xs,i,v,e1,e2,h,a,q⟩ | ⟨p,xs,i,e1,e2,h,a,q⟩
 ·exact .inl ⟨p,xs,i,v,e1,e2,h,a,hq _ _ q⟩
 ·exact .inr (.inl ⟨p,xs,i,v,e1,e2,h,a,hq _ _ q⟩)
 ·exact .inr (.inr ⟨p,xs,i,e1,e2,h,a,hq _ _ q⟩)
theorem QO:i5 oO:=λ_ _ _ _ _ hq ⟨l,m,e1,e2,z,q⟩=>⟨l,m,e1,e2,z,hq _ _ q⟩
theorem Bk:i5 GK:=λ_ _ _ _ _ hq ⟨l,m,e1,e2,z,q⟩=>⟨l,m,e1,e2,z,hq _ _ q⟩
theorem Bl:i5 GL:=λ_ _ _ _ _ hq ⟨l,k,xs,e1,e2,a,b,c,z,q⟩=>⟨l,k,xs,e1,e2,a,b,c,z,λp hp=>hq _ _ (q p hp)⟩
theorem QQ:i5 AE:=λ_ _ _ _ _ hq h=>by
 unfold AE at h ⊢
 obtain⟨a,b,c,d,e1,e2,h1,h2,z,q⟩:=h
 exact⟨a,b,c,d,e1,e2,h1,h2,z,λp hp=>hq _ _ (q p hp)⟩
theorem QP:i5 (AD K):=λ_ _ _ _ _ hq h=>by
 unfold AD at h ⊢
 obtain⟨a,b,c,d,e1,e2,h1,h2,n,z,q⟩:=h
 exact⟨a,b,c,d,e1,e2,h1,h2,n,z,λy=>hq _ _ (q.1 y),λy p hp=>hq _ _ (q.2 y p hp)⟩
theorem QN:i5 (λx y H Q=>∃i j,x=.str i/\y=.str j/\Q (.bl (decide (i.cps.toList<j.cps.toList))) H):=λ_ _ _ _ _ hq ⟨i,j,e1,e2,q⟩=>⟨i,j,e1,e2,hq _ _ q⟩
theorem QR{sp:Sp}{E:XK}{ta tb:TE}(hs:∀vs H Q Q',(∀v H,Q v H->Q' v H)->sp vs H Q E->sp vs H Q' E)(ha:jT ta)(hb:jT tb):jT (yn sp [] E (ig ta (ig tb gX))):=λσ H Q Q' hq h =>
 ha σ H _ _ (λx H1 h1=>hb σ H1 _ _ (λy H2 h2=>hs _ _ _ _ hq h2) h1) h
theorem Ij{t:TE}(h:jT t):∀(σ:St) (H:Hp) (Q Q':Bool->Hp->Prop),(∀b H1,Q b H1->Q' b H1)->oz t σ H Q->oz t σ H Q':=λσ H _ _ hq z=>h σ H _ _ (λ_ _ ⟨k,e,q⟩=>⟨k,e,hq _ _ q⟩) z
end
end L2
namespace PySem
end PySem
namespace L2
open PySem PySem.Spec PyProof.Rows
section
variable {X:Cx} {C:Addr} {i:Nat} {n x:Str} {body:List Stmt} {b₀:Stmt} {suite:List Stmt} {np hpos pos:Pos} {tb:nN->(Value->Shared->Prop)->XS->TS} {th:nN->Value->TS} {bmB:List Value} {newId:String}
end
end L2
namespace PySem
namespace F
theorem AX:Manifest.owners.lookup (String.ofList ['d','e','s','r','e','v','e','r'].reverse)=some Manifest.sig_reversed:=by kernel_rfl
theorem slot_rev_next:Slot "reversed" "__next__" "reversed.__next__" :=
 .of (owner := "reversed") (n := "__next__") (by rw [typeLookup_type,builtinLookup_eq_fast];kernel_rfl) (by decide +kernel) (by decide +kernel) (by decide +kernel)
  (by first | exact .inl (by decide +kernel) | exact .inr (by decide +kernel)) (by rw [isSubtype_type];kernel_rfl)
theorem entry_rev_next:entryFor table "reversed.__next__" = some Builtin.«reversed.__next__»:=entryFor_of_tree (by kernel_rfl)
theorem args_rev_next_1(a:Value):argsOk "reversed.__next__" ⟨[a],[]⟩:=by
 unfold argsOk;rw [signature?_of (id := "reversed.__next__") (n:=['_','_','t','x','e','n','_','_']) (o:=['d','e','s','r','e','v','e','r']) (by kernel_rfl) AX];kernel_rfl
theorem slot_rev_iter:Slot "reversed" "__iter__" "reversed.__iter__" :=
 .of (owner := "reversed") (n := "__iter__") (by rw [typeLookup_type,builtinLookup_eq_fast];kernel_rfl) (by decide +kernel) (by decide +kernel) (by decide +kernel)
  (by first | exact .inl (by decide +kernel) | exact .inr (by decide +kernel)) (by rw [isSubtype_type];kernel_rfl)
theorem args_rev_iter_1(a:Value):argsOk "reversed.__iter__" ⟨[a],[]⟩:=by
 unfold argsOk;rw [signature?_of (id := "reversed.__iter__") (n:=['_','_','r','e','t','i','_','_']) (o:=['d','e','s','r','e','v','e','r']) (by kernel_rfl) AX];kernel_rfl
theorem entry_rev_iter:entryFor table "reversed.__iter__" = some Builtin.«dict_keyiterator.__iter__» :=
 entryFor_alias (id' := "dict_keyiterator.__iter__") (by kernel_rfl) (by first | rfl | decide +kernel | (unfold String.splitOn;simp +decide [String.splitOnAux])) (by decide +kernel) (by kernel_rfl)
theorem slot_rev_hint:Slot "reversed" "__length_hint__" "reversed.__length_hint__" :=
 .of (owner := "reversed") (n := "__length_hint__") (by rw [typeLookup_type,builtinLookup_eq_fast];kernel_rfl) (by decide +kernel) (by decide +kernel) (by decide +kernel)
  (by first | exact .inl (by decide +kernel) | exact .inr (by decide +kernel)) (by rw [isSubtype_type];kernel_rfl)
theorem entry_rev_hint:entryFor table "reversed.__length_hint__" = some Builtin.«reversed.__length_hint__»:=entryFor_of_tree (by kernel_rfl)
theorem args_rev_hint_1(a:Value):argsOk "reversed.__length_hint__" ⟨[a],[]⟩:=by
 unfold argsOk;rw [signature?_of (id := "reversed.__length_hint__") (n:=['_','_','t','n','i','h','_','h','t','g','n','e','l','_','_']) (o:=['d','e','s','r','e','v','e','r']) (by kernel_rfl) AX];kernel_rfl
theorem Mz:Slot "reversed" "__init__" "object.__init__" :=
 .of (owner := "object") (n := "__init__") (by rw [typeLookup_type,builtinLookup_eq_fast];kernel_rfl) (by decide +kernel) (by decide +kernel) (by decide +kernel)
  (by first | exact .inl (by decide +kernel) | exact .inr (by decide +kernel)) (by rw [isSubtype_type];kernel_rfl)
theorem called_rev:TypeCalled "reversed" "reversed.__new__" "object.__init__" :=
 ⟨by decide +kernel,by decide +kernel,⟨_,_,mro_reversed⟩,made_reversed,by decide +kernel,by rw [isSubtype_type];kernel_rfl,Mz⟩
theorem str_no_rev:typeLookup (.type "str") "__reversed__" = pure none:=by rw [typeLookup_type,builtinLookup_eq_fast];kernel_rfl
theorem rev_no_len:typeLookup (.type "reversed") "__len__" = pure none:=by rw [typeLookup_type,builtinLookup_eq_fast];kernel_rfl
theorem lri_no_len:typeLookup (.type "list_reverseiterator") "__len__" = pure none:=by rw [typeLookup_type,builtinLookup_eq_fast];kernel_rfl
theorem lri_hint:typeLookup (.type "list_reverseiterator") "__length_hint__" = pure (some (.builtin "list_reverseiterator.__length_hint__")):=by rw [typeLookup_type,builtinLookup_eq_fast];kernel_rfl
theorem str_getitem:typeLookup (.type "str") "__getitem__" = pure (some (.builtin "str.__getitem__")):=by rw [typeLookup_type,builtinLookup_eq_fast];kernel_rfl
end F
section
variable {prog:Program} {w:World} {A:Around} {E:Value->Shared->Prop} {s:Shared}
noncomputable def rJ(x:Str)(t:Tok)(i:Int):Obj:={ cls:=.type "reversed",data:=.fields #[.str x t,rawInt i] }
theorem Tf{x:Str}{t:Tok}{Q₁:Value->Shared->Prop}(hx:x.length<=sizeLine)
 (h:∀tk,Q₁ (.ref s.heap.objs.size) { s with heap:=s.heap.push (rJ x t ((x.length:Int)-1)),toks:=tk }):
 codeAny (model prog w) A (.call (.builtin "reversed.__new__") ⟨[.type "reversed",.str x t],[]⟩) (wants Q₁ E) s:=by
 refine codeAny_of_tree ?_
 show wpAny _ A.in1 (do checkBuiltinCall "reversed.__new__" ⟨[.type "reversed",.str x t],[]⟩;again (.builtin "reversed.__new__" ⟨[.type "reversed",.str x t],[]⟩)) _ _ s
 refine wpAny_bind (wpAny_of_eq (F.newCall_reversed_1 _) (wpAny_pure ⟨plainId_quiet F.plain_reversed_new _,codeAny_builtin F.entry_reversed_new ?_⟩))
 rw [om F.plain_reversed_new _]
 unfold Builtin.«reversed.__new__»
 refine wpAny_bind (wpAny_of_eq (newClass_reversed _) ?_)
 try dsimp only
 refine wpAny_bind (wpAny_of_eq (a:=()) (by first | rfl | kernel_rfl) ?_)
 refine wpAny_bind (wpAny_of_eq (a:=()) (by first | rfl | kernel_rfl) ?_)
 try dsimp only
 refine wpAny_bind (wpAny_specialOf (T := "str") (v:=.str x t) rfl F.str_no_rev ?_)
 try dsimp only
 refine wpAny_bind (wpAny_bind (wpAny_isInstance (T := "str") (v:=.str x t) (b:=false) rfl F.sub_str_dict ?_))
 rw [if_neg cz]
 refine wpAny_bind (wpAny_specialOf (T := "str") (v:=.str x t) rfl F.str_getitem ?_)
 dsimp only
 rw [if_pos (by decide)]
 refine wpAny_pure ?_
 rw [if_neg (by decide)]
 refine wpAny_bind (PyProof.Rows.len_str (by have:=sizeLine_eq;omega) ?_)
 refine wpAny_bind (m:=asInt? (.int _ _)) (wpAny_pure ?_)
 dsimp only
 unfold Builtin.SmallTypes.newRecord
 dsimp only
 refine wpAny_bind (wpAny_newObj_type ?_)
 exact wpAny_pure (h _)
theorem TF{x:Str}{t:Tok}{Q:Value->Shared->Prop}(hx:x.length<=sizeLine)
 (h:∀tk,Q (.ref s.heap.objs.size) { s with heap:=s.heap.push (rJ x t ((x.length:Int)-1)),toks:=tk }):wpAny (model prog w) A (call (.type "reversed") [.str x t]) Q E s:=by
 refine callType_codes (Q₁:=λobj s₁=>obj=.ref s.heap.objs.size/\∃tk,s₁={ s with heap:=s.heap.push (rJ x t ((x.length:Int)-1)),toks:=tk }) F.called_rev (F.typeCall_reversed_1 _) F.entry_object_init (Tf hx λtk=>⟨rfl,tk,rfl⟩) λobj s₁ h₁=>?_
 obtain⟨rfl,tk,rfl⟩:=h₁
 have ty:({ s with heap:=s.heap.push (rJ x t ((x.length:Int)-1)),toks:=tk }:Shared).TypeIs (.ref s.heap.objs.size) "reversed":=⟨_,cM _ rfl,rfl⟩
 exact⟨ty,F.args_object_init_2 _ _,object_init_meets F.called_rev.init.lookup F.called_rev.made (by decide) prog w A.in1 _ _ ⟨ty,rfl,h tk⟩⟩
noncomputable def Heap.IsRevStr(h:Heap)(a:Addr)(x:Str)(t:Tok)(i:Int):Prop:=∃o,h.get? a=some o/\o.cls=.type "reversed" /\ o.data=.fields #[.str x t,rawInt i]
theorem Heap.IsRevStr.typeIs{a:Addr}{x:Str}{t:Tok}{i:Int}(z:s.heap.IsRevStr a x t i):s.TypeIs (.ref a) "reversed":=let ⟨o,ho,hc,_⟩:=z;⟨o,ho,hc⟩
theorem Heap.IsRevStr.at{h h':Heap}{a:Addr}{x:Str}{t:Tok}{i:Int}(z:h.IsRevStr a x t i)(e:∀o,h.get? a=some o->h'.get? a=some o):h'.IsRevStr a x t i:=let ⟨o,ho,r⟩:=z;⟨o,e _ ho,r⟩
theorem Qx{it:Addr}{x:Str}{t:Tok}{i c:Nat}{Q:Option Value->Shared->Prop}(hit:s.heap.IsRevStr it x t (i:Int))(hc:x.cps[i]?=some c)(hx:x.length<=sizeLine)
 (hQ:∀h' u tk,h'.IsRevStr it x t ((i:Int)-1)->Heap.SameBut it s.heap h'->Q (some (.str ⟨#[c]⟩ u)) { s with heap:=h',toks:=tk }):wpAny (model prog w) A (pyNext (.ref it)) Q E s:=by
 obtain⟨o,ho,hcl,hd⟩:=id hit
 unfold pyNext
 refine wpAny_bind (wpAny_attempt (wpAny_callSpecial?_slot (name:=Str.ofString "__next__") hit.typeIs F.slot_rev_next
  (wpAny_call_entry F.slot_rev_next hit.typeIs F.entry_rev_next ?_ (F.args_rev_next_1 _))))
 unfold Builtin.«reversed.__next__»
 refine wpAny_bind (wpAny_of_eq (a:=(Value.ref it,[])) rfl ?_)
 try dsimp only
 refine wpAny_bind (wpAny_field ho hd (x:=.str x t) rfl ?_)
 refine wpAny_bind (wpAny_field ho hd (x:=rawInt (i:Int)) rfl ?_)
 show wpAny _ _ (if (i:Int)<0 then _ else _) _ _ s
 rw [if_neg (by omega)]
 refine wpAny_bind (wpAny_specialOf (T := "str") (v:=.str x t) rfl F.str_getitem ?_)
 rw [if_neg (by decide)]
 refine wpAny_bind (wpAny_mkInt ?_)
 have hi:i<x.cps.size:=by
  rcases xC i x.cps.size with h | h
  ·exact h
  ·rw [Array.getElem?_eq_none h] at hc;cases hc
 have hs:=sizeLine_eq
 have hl:x.length=x.cps.size:=rfl
 refine wpAny_bind (wpAny_attempt (PyProof.Rows.getItem_str (c:=c) (i:=(i:Int)) (by
  have e1:decide ((i:Int)< -(2^63:Int))=false:=decide_eq_false (by omega)
  have e2:decide ((i:Int)>=2^63)=false:=decide_eq_false (by omega)
  rw [e1,e2,Bool.or_false]) (by rw [seqIndex_of (by omega) (by omega),eK];exact hc) ?_))
 dsimp only
 refine wpAny_bind (wpAny_field ho hd (x:=rawInt (i:Int)) rfl ?_)
 try dsimp only
 refine wpAny_bind (wpAny_setField ho hd (by simp) ?_)
 refine wpAny_pure ⟨_,rfl,wpAny_pure (hQ _ _ _ ?_ (Heap.SameBut.update ..))⟩
 exact⟨_,xU _ ho (Obj.isFreed_of_fields (Cj hd _)),(Obj.cls_mapFields ..).trans hcl,by
  rw [Cj hd];simp⟩
theorem Qy{it:Addr}{x:Str}{t:Tok}{Q:Option Value->Shared->Prop}(hh:A.handled=none)(hit:s.heap.IsRevStr it x t (-1))
 (hQ:∀h',Heap.ExtBut it s.heap h'->Q none { s with heap:=h' }):wpAny (model prog w) A (pyNext (.ref it)) Q E s:=by
 obtain⟨o,ho,hc,hd⟩:=id hit
 unfold pyNext
 refine wpAny_bind (wpAny_attempt (wpAny_callSpecial?_slot (name:=Str.ofString "__next__") hit.typeIs F.slot_rev_next
  (wpAny_call_entry F.slot_rev_next hit.typeIs F.entry_rev_next ?_ (F.args_rev_next_1 _))))
 unfold Builtin.«reversed.__next__»
 refine wpAny_bind (wpAny_of_eq (a:=(Value.ref it,[])) rfl ?_)
 try dsimp only
 refine wpAny_bind (wpAny_field ho hd (x:=.str x t) rfl ?_)
 refine wpAny_bind (wpAny_field ho hd (x:=rawInt (-1)) rfl ?_)
 show wpAny _ _ (if (-1:Int)<0 then _ else _) _ _ s
 rw [if_pos (by decide)]
 refine wpAny_bind (wpAny_rule ?_)
 refine wpAny_bind ?_
 refine wpAny_bind (wpAny_setField ho hd (by simp) ?_)
 have ho2:=xU (Obj.mapFields λf=>f.setIfInBounds 1 (rawInt (-1))) ho (Obj.isFreed_of_fields (Cj hd _))
 refine wpAny_setField ho2 (Cj hd _) (by simp) ?_
 refine wpAny_bind ?_
 first
 | show wpAny _ _ (newExc (.type "StopIteration") [] >>= _) _ _ _
 | (refine wpAny_bind ?_;show wpAny _ _ (newExc (.type "StopIteration") [] >>= _) _ _ _)
 refine wpAny_bind ?_
 simp only [newExc,newTuple]
 refine wpAny_bind (wpAny_newObj_type ?_ (by size_fits))
 refine wpAny_bind (m:=firstArgMember _ _) (wpAny_of_eq (a:=Value.none) (by first | rfl | (simp only [firstArgMember];rfl)) ?_)
 refine wpAny_newObj_type ?_ (by size_fits)
 simp only [raiseNew]
 refine wpAny_bind (wpAny_handled ?_)
 first | rw [show A.in1.handled=none from hh] | rw [hh]
 refine wpAny_bind (wpAny_pure (wpAny_throw ?_))
 refine wpAny_bind (wpAny_isInstance (T := "StopIteration") (b:=true) ⟨_,cM _ rfl,rfl⟩ isSubtype_stop ?_)
 refine wpAny_pure (hQ _ ?_)
 refine Heap.ExtBut.push (Heap.ExtBut.push ?_ _) _
 intro b u hb e
 rw [qz _ _ (dG hb),qz _ _ (dG hb)];exact e
theorem BF{it:Addr}{x:Str}{t:Tok}{i:Int}{Q:Value->Shared->Prop}(hit:s.heap.IsRevStr it x t i)(h:Q (.ref it) s):wpAny (model prog w) A (pyIter (.ref it)) Q E s:=by
 refine wpAny_pyIter_slot hit.typeIs F.slot_rev_iter (wpAny_call_entry F.slot_rev_iter hit.typeIs F.entry_rev_iter ?_ (F.args_rev_iter_1 _))
 show wpAny _ _ (ret (.ref it)) _ _ s
 exact wpAny_pure ⟨_,rfl, "reversed",_,hit.typeIs,F.slot_rev_next.lookup,h⟩
end
theorem Walks.strRev{prog:Program}{w:World}{A:Around}(hh:A.handled=none)(I:Addr)(x:Str)(t:Tok)(hx:x.length<=sizeLine):
 Walks prog w A I [I] [I] x.cps.size (λi v=>∃c u,x.cps[x.cps.size-1-i]?=some c/\v=.str ⟨#[c]⟩ u) (λi h=>i<=x.cps.size/\h.IsRevStr I x t ((x.cps.size:Int)-1-(i:Int))) where
 sub:=λb hb=>by simp at hb;simp [hb]
 frame:=λ_ _ _ z hk=>⟨z.1,z.2.at λo e=>hk I (by simp) o e⟩
 item:=λi s Q E hi z hQ=>by
  have e:(x.cps.size:Int)-1-(i:Int)=((x.cps.size-1-i:Nat):Int):=by omega
  have hit:=z.2
  rw [e] at hit
  have hc:x.cps[x.cps.size-1-i]?=some (x.cps[x.cps.size-1-i]'(by omega)):=Ln (by omega)
  refine Qx hit hc hx λh' u tk hit' hs'=>?_
  have e2:((x.cps.size-1-i:Nat):Int)-1=(x.cps.size:Int)-1-((i+1:Nat):Int):=by omega
  rw [e2] at hit'
  exact hQ _ h' tk ⟨_,u,hc,rfl⟩ ⟨hi,hit'⟩ λb o hb eo=>hs'.extBut b o (λh=>hb (by simp [h])) eo
 done:=λs Q E z hQ=>by
  have e:(x.cps.size:Int)-1-(x.cps.size:Int)=-1:=by omega
  have hit:=z.2
  rw [e] at hit
  exact Qy hh hit λh' he'=>hQ h' s.toks λb o hb eo=>he' b o (λh=>hb (by simp [h])) eo
 self:=λ_ _ _ _ z hQ=>BF z.2 hQ
section
variable {prog:Program} {w:World} {A:Around} {E:Value->Shared->Prop} {s:Shared}
theorem TQ{it:Addr}{x:Str}{t:Tok}{i:Int}{Q:Value->Shared->Prop}(hit:s.heap.IsRevStr it x t i)(hx:x.length<=sizeLine)(hi:i+1<=x.length)
 (h:∀u tk,s.toks<=tk->Q (.int (i+1) u) { s with toks:=tk }):wpAny (model prog w) A (call (.builtin "reversed.__length_hint__") [.ref it]) Q E s:=by
 obtain⟨o,ho,hc,hd⟩:=id hit
 refine wpAny_call_entry F.slot_rev_hint hit.typeIs F.entry_rev_hint ?_ (F.args_rev_hint_1 _)
 unfold Builtin.«reversed.__length_hint__»
 refine wpAny_bind (wpAny_of_eq (a:=Value.ref it) (by first | rfl | kernel_rfl) ?_)
 refine wpAny_bind (wpAny_field ho hd (x:=.str x t) rfl ?_)
 rw [if_neg (show ¬ ((Value.str x t == Value.none)=true) from cz)]
 refine wpAny_bind (PyProof.Rows.len_str (by have:=sizeLine_eq;omega) ?_)
 refine wpAny_bind (m:=asInt? (.int _ _)) (wpAny_pure ?_)
 dsimp only
 refine wpAny_bind (wpAny_field ho hd (x:=rawInt i) rfl ?_)
 show wpAny _ A.in1 (if (x.length:Int)<i+1 then _ else retInt (i+1)) _ _ _
 rw [if_neg (by omega)]
 unfold retInt
 refine wpAny_bind (wpAny_mkInt ?_)
 exact wpAny_pure ⟨_,rfl,h _ _ (by show s.toks<=s.toks+1+1+1;omega)⟩
theorem Td{Q:List Value->Shared->Prop}{I:Addr}{x:Str}{t:Tok}(hh:A.handled=none)(hx:x.length<=sizeLine)(hit:s.heap.IsRevStr I x t ((x.length:Int)-1))
 (hQ:∀s' acc,Moved [I] (λa b=>b=a) s s'->ItemsOf (λi v=>∃c u,x.cps[x.cps.size-1-i]?=some c/\v=.str ⟨#[c]⟩ u) acc x.cps.size->Q acc.toList s'):wpAny (model prog w) A (collect (.ref I)) Q E s:=by
 have hn:x.cps.size<=sizeLine:=hx
 have W:=(Walks.strRev (prog:=prog) (w:=w) (A:=A.in1) hh I x t hx).toS
 obtain⟨o0,ho0,_⟩:=id hit
 have hlt:=bj ho0
 have hSI:s.heap.objs.size ≠ I:=dG (cG hlt)
 have hSf:s.heap.objs.size ∉ [I]:=λhm=>hSI (bx.mp hm)
 have e0:(x.cps.size:Int)-1-((0:Nat):Int)=(x.length:Int)-1:=by show (x.cps.size:Int)-1-0=(x.cps.size:Int)-1;omega
 have hst:(λ(i:Nat) (s:Shared)=>i<=x.cps.size/\s.heap.IsRevStr I x t ((x.cps.size:Int)-1-(i:Int))) 0 s:=⟨cU _,by rw [e0];exact hit⟩
 unfold collect
 refine wpAny_bind (wpAny_runValue (codeAny_builtin F.entry_proto_collect ?_))
 rw [om F.plain_proto_collect _]
 show wpAny _ A.in1 (newList [] >>= λl=>again (.builtin "list.__iadd__" ⟨[l,.ref I],[]⟩)) _ _ s
 refine wpAny_bind (wpAny_newObj_type ?_)
 refine wpAny_pure ⟨plainId_quiet Dc _,codeAny_builtin F.entry_list_iadd ?_⟩
 rw [om Dc _]
 have hst₁:=W.frame 0 s (s.heap.push { cls:=.type "list",data:=.seq ([]:List Value).toArray }) s.toks hst (aI _) λb _ o e=>bP _ e
 have hit₁:(s.heap.push { cls:=.type "list",data:=.seq ([]:List Value).toArray }).IsRevStr I x t ((x.length:Int)-1):=hit.at λo e=>bP _ e
 have hS₁:(s.heap.push { cls:=.type "list",data:=.seq ([]:List Value).toArray }).get? s.heap.objs.size=some { cls:=.type "list",data:=.seq ([]:List Value).toArray }:=cM _ rfl
 have h1:Builtin.List.listSameRef (.ref s.heap.objs.size) (.ref I)=false:=by simp [Builtin.List.listSameRef,hSI]
 show wpAny _ A.in1 (Builtin.List.listExtendWith (.ref s.heap.objs.size) (.ref I) (.ref s.heap.objs.size)) _ _ _
 unfold Builtin.List.listExtendWith
 have hT₁:({ s with heap:=s.heap.push { cls:=.type "list",data:=.seq ([]:List Value).toArray } }:Shared).TypeIs (.ref I) "reversed":=Heap.IsRevStr.typeIs (s:={ s with heap:=s.heap.push { cls:=.type "list",data:=.seq ([]:List Value).toArray } }) hit₁
 refine wpAny_bind (wpAny_typeOf hT₁ ?_)
 rw [if_neg (by rw [h1];decide)]
 refine wpAny_bind (BF (s:={ s with heap:=s.heap.push { cls:=.type "list",data:=.seq ([]:List Value).toArray } }) hit₁ ?_)
 refine wpAny_bind (wpAny_holding ?_)
 unfold Builtin.List.listLengthHint
 refine wpAny_bind (wpAny_specialOf hT₁ F.rev_no_len ?_)
 show wpAny _ A.in1 (specialOf (Value.ref I) (Str.ofString "__length_hint__") >>= _) _ _ _
 refine wpAny_bind (wpAny_specialOf hT₁ F.slot_rev_hint.lookup ?_)
 (generalize hid:("reversed.__length_hint__" : String)=id0;(fail_if_success (clear hid id0));wp_delta;rw [show splitId id0=some ("reversed", "__length_hint__") from by subst hid;decide +kernel];subst hid)
 refine wpAny_bind (wpAny_isInstance (b:=true) hT₁ (by rw [isSubtype_type];kernel_rfl) ?_)
 rw [if_neg (by decide)]
 refine wpAny_bind (wpAny_rule ?_)
 refine wpAny_bind (wpAny_of_eq (F.slot_rev_hint.bind _) ?_)
 dsimp only
 refine wpAny_bind (wpAny_attempt (TQ (s:={ s with heap:=s.heap.push { cls:=.type "list",data:=.seq ([]:List Value).toArray } }) hit₁ hx (by omega) λu tk htk=>?_))
 have hk:(x.length:Int)-1+1=(x.length:Int):=by omega
 rw [hk]
 have hs:=sizeLine_eq
 dsimp only
 have ha:asInt? (Value.int (x.length:Int) u)=pure (some (x.length:Int)):=rfl
 rw [ha,pure_bind]
 dsimp only
 have hfit:Builtin.List.listFitsIndex (x.length:Int)=true:=by unfold Builtin.List.listFitsIndex;simp only [fZ,decide_eq_true_eq];omega
 have hlong:Builtin.List.listTooLong (x.length:Int).toNat=false:=by unfold Builtin.List.listTooLong;rw [eK];exact decide_eq_false (by omega)
 rw [hfit,if_neg (by decide),if_neg (by omega),hlong,if_neg (by decide)]
 refine wpAny_pure ?_
 clear hs
 have hst₂:=W.frame 0 _ _ tk hst₁ htk λb _ o e=>e
 by_cases hz:x.length=0
 ·rw [if_neg (by rw [hz];decide)]
  refine wpAny_pure ⟨plainId_quiet F.plain_extend_loop _,codeAny_extend_loopS W hn _ hSf _ x.cps.size 0 _ _ _ rfl (cU _) hst₂ hS₁ (ItemsOf.nil _) λs' acc' c' hm hS' hacc=>?_⟩
  show wpAny _ A (load s.heap.objs.size >>= _) _ _ s'
  refine wpAny_bind (wpAny_load hS' ?_)
  exact wpAny_pure (hQ s' acc' (Moved.drop_new (o:={ cls:=.type "list",data:=.seq ([]:List Value).toArray }) (tk:=tk) hm htk) hacc)
 ·rw [if_pos (by rw [show ((x.length:Int) != 0)=true from by simpa using hz];rfl)]
  refine wpAny_bind (wpAny_rule ?_)
  refine wpAny_bind ?_
  show wpAny _ A.in1 (updateSeq s.heap.objs.size (·.push .none) >>= λ_=>updateSeq s.heap.objs.size (·.pop)) _ _ _
  refine wpAny_bind (wpAny_updateSeq hS₁ rfl ?_ (by show 0<=sizeLine;exact cU _) (by show 1<=sizeLine+1;exact Nat.le_add_left _ _))
  have hS₂:=xU (Obj.mapSeq (·.push Value.none)) hS₁ rfl
  refine wpAny_updateSeq hS₂ rfl ?_ (by show 1<=sizeLine;decide) (by show 0<=sizeLine+1;exact cU _)
  have hS₃:=xU (Obj.mapSeq (·.pop)) hS₂ rfl
  have oth:∀b o,b ≠ s.heap.objs.size->(s.heap.push { cls:=.type "list",data:=.seq ([]:List Value).toArray }).get? b=some o->
   (((s.heap.push { cls:=.type "list",data:=.seq ([]:List Value).toArray }).update s.heap.objs.size (Obj.mapSeq (·.push Value.none))).update s.heap.objs.size (Obj.mapSeq (·.pop))).get? b=some o :=
   λb o hb e=>(qz _ _ (dG hb)).trans ((qz _ _ (dG hb)).trans e)
  refine wpAny_pure ⟨plainId_quiet F.plain_extend_loop _,codeAny_extend_loopS W hn _ hSf _ x.cps.size 0 _ _ _ rfl (cU _)
   (W.frame 0 ({ s with heap:=s.heap.push { cls:=.type "list",data:=.seq ([]:List Value).toArray },toks:=tk }:Shared) _ tk hst₂ (aI _) λb hb o e=>oth b o (λh=>hSf (h ▸ hb)) e) hS₃ (ItemsOf.nil _) λs' acc' c' hm hS' hacc=>?_⟩
  show wpAny _ A (load s.heap.objs.size >>= _) _ _ s'
  refine wpAny_bind (wpAny_load hS' ?_)
  refine wpAny_pure (hQ s' acc' (Moved.drop_new (o:={ cls:=.type "list",data:=.seq ([]:List Value).toArray }) (tk:=tk) (Moved.trans W.gtrans ((Moved.refl (G:=λa b=>b=a) W.grefl).then_heap (by first | exact aI _ | exact nP _ | omega) λb o hb e=>?_) hm) htk) hacc)
  exact oth b o (λh=>hb (h ▸ bO)) e
theorem RI{I:Addr}{x sep:Str}{t t2:Tok}{Q:Value->Shared->Prop}(hh:A.handled=none)(hx:x.length<=sizeLine)(hit:s.heap.IsRevStr I x t ((x.length:Int)-1))
 (hq:∀s' (l:List (Str × Tok)),Moved [I] (λa b=>b=a) s s'->ItemsOf (λi v=>∃c u,x.cps[x.cps.size-1-i]?=some c/\v=.str ⟨#[c]⟩ u) (strValues l).toArray x.cps.size->
  JoinOk sep (l.map (·.1))=true/\∀t' k,Q (.str (Txt.join sep (l.map (·.1))) t') { s' with toks:=k }):
 wpAny (model prog w) A (call (.builtin "str.join") [.str sep t2,.ref I]) Q E s:=by
 refine wpAny_call (codeAny_call_builtin D9.plain F.entry_str_join (D9.check _ _ _ _ _ _ _ _ (typeIs_str _ _ _) (F.args_str_join_2 _ _) ?_))
 rw [join_tree_other]
 refine wpAny_bind (wpAny_typeOf hit.typeIs ?_)
 show wpAny _ A.in1 ((pyIter (.ref I)).tryCatch _ >>= λit=>collect it >>= λitems=>joinTail sep items) _ _ s
 refine wpAny_bind (wpAny_tryCatch (BF hit ?_))
 refine wpAny_bind (Td (A:=A.in1) hh hx hit λs' acc hm hacc=>?_)
 obtain⟨l,hl⟩:=exists_strValues acc.toList λv hv=>by
  obtain⟨j,hj,rfl⟩:=Array.mem_iff_getElem.mp (Array.mem_toList_iff.mp hv)
  obtain⟨c,u,_,e⟩:=hacc.2 j _ (Ln hj)
  exact⟨_,_,e⟩
 rw [← hl]
 have hacc':ItemsOf (λi v=>∃c u,x.cps[x.cps.size-1-i]?=some c/\v=.str ⟨#[c]⟩ u) (strValues l).toArray x.cps.size:=by rw [hl];simpa using hacc
 obtain⟨hok,hpost⟩:=hq s' l hm hacc'
 unfold JoinOk at hok
 rw [Bool.not_eq_true'] at hok
 have g:Gives (joinTail sep (strValues l)) (joinMade sep l):=by
  have g0:=gives_joinTail sep l hok
  cases l with
  | nil=>exact g0
  | cons p r=>cases r with
    | nil=>exact g0
    | cons q r'=>exact g0
 exact g prog w A (wants Q E) s' (post_join l ⟨joinFit_length hok,hpost⟩)
theorem SI{R:Result->Shared->Prop}{I l:Addr}{items:Array Value}(hh:A.handled=none)(hit:s.heap.IsRevIter I l ((items.size:Int)-1))(hl:s.heap.IsList l items)(hIl:l ≠ I)(S:Addr)(hSI:S ≠ I)(hSl:S ≠ l)(res:Value)(c₀:Nat)(hS:s.heap.get? S=some { cls:=.type "list",data:=.seq #[] c₀ })
 (hR:∀h' tk acc' c',(∀b o,b ≠ S->b ≠ I->s.heap.get? b=some o->h'.get? b=some o)->h'.get? S=some { cls:=.type "list",dict:=none,data:=.seq acc' c',slots:=#[] }->
  ItemsOf (λi v=>items[items.size-1-i]?=some v) acc' items.size->R (.ok (.ret res)) { s with heap:=h',toks:=tk }) (hn:items.size<=sizeLine):
 wpAny (model prog w) A.in1 (Builtin.List.listExtendWith (.ref S) (.ref I) res)
  (λfin s'=>match fin with | .done f=>R (.ok f) s' | .again c'=>c'.quiet=true/\codeAny (model prog w) A c' R s') (λe s'=>R (.error e) s') s:=by
 have hSf:S ∉ [I,l]:=λhm=>by rcases bE.mp hm with h | h;exact hSI h;exact hSl (bx.mp h)
 have W:=(Walks.listRev (prog:=prog) (w:=w) (A:=A.in1) hh I l hIl items).toS
 have e0:(items.size:Int)-1-((0:Nat):Int)=(items.size:Int)-1:=by show (items.size:Int)-1-0=_;omega
 unfold Builtin.List.listExtendWith
 refine wpAny_bind (wpAny_typeOf hit.typeIs ?_)
 have h1:Builtin.List.listSameRef (.ref S) (.ref I)=false:=by simp [Builtin.List.listSameRef,hSI]
 rw [if_neg (by rw [h1];decide)]
 refine wpAny_bind (wpAny_pyIter_revIter hit ?_)
 refine wpAny_bind (wpAny_holding ?_)
 unfold Builtin.List.listLengthHint
 refine wpAny_bind (wpAny_specialOf hit.typeIs F.lri_no_len ?_)
 show wpAny _ A.in1 (specialOf (Value.ref I) (Str.ofString "__length_hint__") >>= _) _ _ _
 refine wpAny_bind (wpAny_specialOf hit.typeIs F.lri_hint ?_)
 (generalize hid:("list_reverseiterator.__length_hint__" : String)=id0;(fail_if_success (clear hid id0));wp_delta;rw [show splitId id0=some ("list_reverseiterator", "__length_hint__") from by subst hid;decide +kernel];subst hid)
 refine wpAny_bind (wpAny_isInstance (b:=true) hit.typeIs (by rw [isSubtype_type];kernel_rfl) ?_)
 refine wpAny_pure ?_
 rw [if_neg (by decide)]
 refine wpAny_pure ⟨plainId_quiet F.plain_extend_loop _,codeAny_extend_loopS W hn _ hSf _ items.size 0 _ _ _ rfl (cU _) ⟨cU _,by rw [e0];exact hit,hl⟩ hS (ItemsOf.nil _) λs' acc' c' hm hS' hacc=>?_⟩
 rw [Moved.eq_with hm]
 refine hR s'.heap s'.toks acc' c' (λb ob hb hb2 e=>hm.heap b ob (λhmem=>?_) e) hS' hacc
 rcases bE.mp hmem with e' | hmem
 ·exact hb e'
 ·exact hb2 (bx.mp hmem)
theorem Te{Q:List Value->Shared->Prop}{I l:Addr}{items:Array Value}(hh:A.handled=none)(hn:items.size<=sizeLine)(hit:s.heap.IsRevIter I l ((items.size:Int)-1))(hl:s.heap.IsList l items)(hIl:l ≠ I)
 (hQ:∀h' tk acc,(∀b o,b ≠ I->s.heap.get? b=some o->h'.get? b=some o)->ItemsOf (λi v=>items[items.size-1-i]?=some v) acc items.size->Q acc.toList { s with heap:=h',toks:=tk }):wpAny (model prog w) A (collect (.ref I)) Q E s:=by
 obtain⟨oi,hoi,_⟩:=id hit
 obtain⟨ol,hol,_⟩:=id hl
 have hSI:s.heap.objs.size ≠ I:=dG (cG (bj hoi))
 have hSl:s.heap.objs.size ≠ l:=dG (cG (bj hol))
 have hS₁:(s.heap.push { cls:=.type "list",data:=.seq ([]:List Value).toArray }).get? s.heap.objs.size=some { cls:=.type "list",data:=.seq ([]:List Value).toArray }:=cM _ rfl
 unfold collect
 refine wpAny_bind (wpAny_runValue (codeAny_builtin F.entry_proto_collect ?_))
 rw [om F.plain_proto_collect _]
 show wpAny _ A.in1 (newList [] >>= λl=>again (.builtin "list.__iadd__" ⟨[l,.ref I],[]⟩)) _ _ s
 refine wpAny_bind (wpAny_newObj_type ?_)
 refine wpAny_pure ⟨plainId_quiet Dc _,codeAny_builtin F.entry_list_iadd ?_⟩
 rw [om Dc _]
 show wpAny _ A.in1 (Builtin.List.listExtendWith (.ref s.heap.objs.size) (.ref I) (.ref s.heap.objs.size)) _ _ _
 refine SI (R:=λr s'=>match r with
  | .ok (.ret v)=>wpAny (model prog w) A (match v with
   | .ref a=>do
     match (← load a).data with
     | .seq xs _=>pure xs.toList
     | _=>unsupported "internal:collect"
   | _=>unsupported "internal:collect") Q E s'
  | .ok _=>False
  | .error e=>E e s') (s:={ s with heap:=s.heap.push { cls:=.type "list",data:=.seq ([]:List Value).toArray } }) hh (hit.at λo e=>bP _ e) (hl.at λo e=>bP _ e) hIl _ hSI hSl _ 0 hS₁ (λh' tk acc' c' hk hS' hacc=>?_) hn
 show wpAny _ A (load s.heap.objs.size >>= _) _ _ _
 refine wpAny_bind (wpAny_load hS' ?_)
 exact wpAny_pure (hQ h' tk acc' (λb o hb e=>hk b o (cG (bj e)) hb (bP _ e)) hacc)
theorem RJ{I l:Addr}{items:Array Value}{sep:Str}{t2:Tok}{Q:Value->Shared->Prop}(hh:A.handled=none)(hn:items.size<=sizeLine)(hit:s.heap.IsRevIter I l ((items.size:Int)-1))(hl:s.heap.IsList l items)(hIl:l ≠ I)
 (hstr:∀v ∈ items.toList,∃y u,v=Value.str y u)
 (hq:∀(h':Heap) (ps:List (Str × Tok)),(∀b o,b ≠ I->s.heap.get? b=some o->h'.get? b=some o)->strValues ps=items.toList.reverse->
  JoinOk sep (ps.map (·.1))=true/\∀t' k,Q (.str (Txt.join sep (ps.map (·.1))) t') { s with heap:=h',toks:=k }):
 wpAny (model prog w) A (call (.builtin "str.join") [.str sep t2,.ref I]) Q E s:=by
 refine wpAny_call (codeAny_call_builtin D9.plain F.entry_str_join (D9.check _ _ _ _ _ _ _ _ (typeIs_str _ _ _) (F.args_str_join_2 _ _) ?_))
 rw [join_tree_other]
 refine wpAny_bind (wpAny_typeOf hit.typeIs ?_)
 show wpAny _ A.in1 ((pyIter (.ref I)).tryCatch _ >>= λit=>collect it >>= λitems=>joinTail sep items) _ _ s
 refine wpAny_bind (wpAny_tryCatch (wpAny_pyIter_revIter hit ?_))
 refine wpAny_bind (Te (A:=A.in1) hh hn hit hl hIl λh' tk acc hk hacc=>?_)
 have hacc':acc.toList=items.toList.reverse:=by
  have hz:acc.size=items.size:=hacc.1
  refine jt λi=>?_
  by_cases hi:i<items.size
  ·have ha:acc[i]?=some acc[i]:=Ln (by omega)
   have:=hacc.2 i _ ha
   rw [Cq (by simpa using hi)]
   simp only [kT]
   rw [mz,mz,ha]
   exact this.symm
  ·rw [fe (by simpa [hz] using hi),fe (by rw [i9];simpa using hi)]
 obtain⟨ps,hps⟩:=exists_strValues acc.toList λv hv=>hstr v (by rw [hacc'] at hv;exact List.mem_reverse.mp hv)
 obtain⟨hok,hpost⟩:=hq h' ps hk (by rw [hps,hacc'])
 rw [← hps]
 unfold JoinOk at hok
 rw [Bool.not_eq_true'] at hok
 have g:Gives (joinTail sep (strValues ps)) (joinMade sep ps):=by
  have g0:=gives_joinTail sep ps hok
  cases ps with
  | nil=>exact g0
  | cons p r=>cases r with
    | nil=>exact g0
    | cons q r'=>exact g0
 exact g prog w A (wants Q E) _ (post_join ps ⟨joinFit_length hok,λt' k=>hpost t' k⟩)
end
end PySem
namespace L2
open PySem PySem.Spec PyProof.Rows
section
variable {X:Cx}
theorem NF{l:List Nat}{ps:List (Str × Tok)}(h:ItemsOf (λi v=>∃c u,(tx l).cps[(tx l).cps.size-1-i]?=some c/\v=Value.str ⟨#[c]⟩ u) (strValues ps).toArray (tx l).cps.size):ps.map (·.1)=(l.reverse.map λc=>[c]).map tx:=by
 have hz:(tx l).cps.size=l.length:=cZ ..
 have hlen:ps.length=l.length:=by have:=h.1;rw [cZ,hz] at this;simpa [strValues] using this
 refine jt λi=>?_
 rw [bS,bS,bS]
 by_cases hi:i<l.length
 ·have hp:i<ps.length:=by omega
  have e1:(strValues ps).toArray[i]?=some (Value.str ps[i].1 ps[i].2):=by simp [strValues,hp]
  obtain⟨c,u,hc,e⟩:=h.2 i _ e1
  rw [hz] at hc
  have hc':l[l.length-1-i]?=some c:=by simpa [tx] using hc
  rw [Cq hi,hc',bq hp]
  have e2:ps[i].1=(⟨#[c]⟩:Str):=(Value.str.inj e).1
  show some ps[i].1=some (tx [c])
  rw [e2];rfl
 ·rw [fe (by omega),fe (by rw [i9];omega)];rfl
variable {o e:Expr} {to te:TE} {apos cpos rpos p2:Pos}
noncomputable def Ma(to te:TE):TE:=λσ H Q=>to σ H λx H1=>∃sep,x=vt sep/\te σ H1 λy H2=>∃l,y=vt l/\(l.length<=4000/\sep.length<=1000)/\Q (vt (bT sep (l.reverse.map λc=>[c]))) H2
theorem OE(hc:X.calm=true)(hg:Gl X "reversed")(hmg:X.mg "reversed" = none)(hv:bootBuiltins "reversed" = some (.type "reversed"))(ho:PE X o to)(he:PE X e te)
 (hbase:attributeBase o "join" X.env (eval o X.env)=eval o X.env:=by rfl)
 (hfew:((backTo cpos (starEach [.Call (.Name "reversed" p2) [e] [] rpos] X.env)).all (λx=>!x.1) && (backToKw cpos (keywordEach [] X.env)).all (λx=>x.1.isSome)
  && decide ([Expr.Call (.Name "reversed" p2) [e] [] rpos].length+([]:List Keyword).length+(if ([]:List Keyword).isEmpty then 0 else 1)<30))=true:=by rfl)
 (hline:(apos.endLine == cpos.line)=true:=by rfl) (hs:starEach [Expr.Call (.Name "reversed" p2) [e] [] rpos] X.env=[(false,eval (.Call (.Name "reversed" p2) [e] [] rpos) X.env)]:=by rfl)
 (hs2:starEach [e] X.env=[(false,eval e X.env)]:=by rfl):
 PE X (.Call (.Attribute o "join" apos) [.Call (.Name "reversed" p2) [e] [] rpos] [] cpos) (Ma to te):=by
 intro pins s σ H Q I h
 refine wpAny_Call_method_late hbase hfew hline rfl (av (ho pins s σ H _ I h) λv s1 ⟨x,H1,I1,r1,sep,ex,q1⟩=>?_)
 subst ex
 obtain⟨t1,rfl⟩:=r1
 obtain⟨h1,h2⟩:=qQ (T := "str") I1 (x:=vt sep) ⟨t1,rfl⟩ rfl
 refine⟨"str", "str.join",hZ,Cf,Ce,h1,h2,?_⟩
 rw [hs]
 refine my rfl (oh ?_)
 show wpAny _ _ (spliced ((false,eval (.Call (.Name "reversed" p2) [e] [] rpos) X.env)::backTo cpos [])) _ _ s1
 refine j3 (wpAny_Call_Name_kw (iR I1 hg hmg hv ?_ (by decide) (by decide)))
 refine m8 (rest:=[]) ?_ hs2 rfl
 rw [hs2]
 show wpAny _ _ (spliced ((false,eval e X.env)::backTo rpos [])) _ _ s1
 refine j3 (av (he pins s1 σ H1 _ I1 q1) λu s2 ⟨y,H2,I2,r2,l,el,hz,q2⟩=>?_)
 subst el
 obtain⟨t2,rfl⟩:=r2
 refine jx ?_
 have sz:(tx l).length=l.length:=cV l
 have hs0:=sizeLine_eq
 have hl:l.length<=sizeLine:=by omega
 refine TF (by rw [sz];exact hl) λtk=>?_
 refine jx ?_
 refine RI (x:=tx l) (t:=t2) (I2.ok.hd hc) (by rw [sz];exact hl) ⟨_,cM _ rfl,rfl,rfl⟩ λs' ps hm hit'=>?_
 have ee:=NF hit'
 rw [ee]
 have hok:(((l.reverse.map λc=>[c]).map tx).map (·.length)).sum+((l.reverse.map λc=>[c]).map tx).length*(tx sep).length<=16777216:=by
  rw [yr,aT,aT,i9,cV]
  have e1:(l.reverse.map λc=>[c]).flatten.length=l.length:=by
   rw [List.length_flatten,d7]
   show (l.reverse.map λ_=>1).sum=_
   rw [List.map_const',List.sum_replicate_nat,i9];omega
  rw [e1]
  have:l.length*sep.length<=4000*1000:=md hz.1 hz.2
  omega
 refine⟨joinOk_of hok,λt' k=>?_⟩
 rw [ym]
 obtain⟨h',g',d',tk',os'⟩:=s'
 have e1:g'=s2.gens:=hm.gens
 have e2:d'=s2.drawn:=hm.drawn
 have e3:os'=s2.os:=hm.os
 subst e1 e2 e3
 exact⟨.str _,H2,I2.kept (t':=k) λb u e=>hm.heap b u (λhb=>absurd (bj e) ((bx.mp hb) ▸ i4 _)) (bP _ e),⟨_,rfl⟩,q2⟩
noncomputable def M9(K:Frag)(to te:TE):TE:=λσ H Q=>to σ H λx H1=>∃sep,x=vt sep/\te σ H1 λy H2=>∃(a:Addr) (ls:List (List Nat)),y=.ref a/\aD K H2 a (ls.map vt)/\(ls.flatten.length<=1000000/\ls.length<=10000/\sep.length<=100)/\Q (vt (bT sep ls.reverse)) H2
theorem Ms{ls:List (List Nat)}{its:List Value}(r:aB (ls.map vt) its){ps:List (Str × Tok)}(h:strValues ps=its.reverse):ps.map (·.1)=ls.reverse.map tx:=by
 have hr:aB ((ls.reverse).map vt) its.reverse:=by rw [List.map_reverse];exact aB.reverse r
 rw [← h] at hr
 generalize ls.reverse=ms at hr
 clear h r
 induction ps generalizing ms with
 | nil =>
   cases ms with
   | nil=>rfl
   | cons m ms=>cases hr
 | cons p ps ih =>
   cases ms with
   | nil=>cases hr
   | cons m ms =>
     cases hr with
     | cons a r =>
       obtain⟨t,e⟩:=a
       rw [bR,bR,ih ms r]
       have:p.1=tx m:=(Value.str.inj e).1
       rw [this]
theorem OD(hc:X.calm=true)(hg:Gl X "reversed")(hmg:X.mg "reversed" = none)(hv:bootBuiltins "reversed" = some (.type "reversed"))(ho:PE X o to)(he:PE X e te)
 (hbase:attributeBase o "join" X.env (eval o X.env)=eval o X.env:=by rfl)
 (hfew:((backTo cpos (starEach [.Call (.Name "reversed" p2) [e] [] rpos] X.env)).all (λx=>!x.1) && (backToKw cpos (keywordEach [] X.env)).all (λx=>x.1.isSome)
  && decide ([Expr.Call (.Name "reversed" p2) [e] [] rpos].length+([]:List Keyword).length+(if ([]:List Keyword).isEmpty then 0 else 1)<30))=true:=by rfl)
 (hline:(apos.endLine == cpos.line)=true:=by rfl) (hs:starEach [Expr.Call (.Name "reversed" p2) [e] [] rpos] X.env=[(false,eval (.Call (.Name "reversed" p2) [e] [] rpos) X.env)]:=by rfl)
 (hs2:starEach [e] X.env=[(false,eval e X.env)]:=by rfl):
 PE X (.Call (.Attribute o "join" apos) [.Call (.Name "reversed" p2) [e] [] rpos] [] cpos) (M9 X.K to te):=by
 intro pins s σ H Q I h
 refine wpAny_Call_method_late hbase hfew hline rfl (av (ho pins s σ H _ I h) λv s1 ⟨x,H1,I1,r1,sep,ex,q1⟩=>?_)
 subst ex
 obtain⟨t1,rfl⟩:=r1
 obtain⟨h1,h2⟩:=qQ (T := "str") I1 (x:=vt sep) ⟨t1,rfl⟩ rfl
 refine⟨"str", "str.join",hZ,Cf,Ce,h1,h2,?_⟩
 rw [hs]
 refine my rfl (oh ?_)
 show wpAny _ _ (spliced ((false,eval (.Call (.Name "reversed" p2) [e] [] rpos) X.env)::backTo cpos [])) _ _ s1
 refine j3 (wpAny_Call_Name_kw (iR I1 hg hmg hv ?_ (by decide) (by decide)))
 refine m8 (rest:=[]) ?_ hs2 rfl
 rw [hs2]
 show wpAny _ _ (spliced ((false,eval e X.env)::backTo rpos [])) _ _ s1
 refine j3 (av (he pins s1 σ H1 _ I1 q1) λu s2 ⟨y,H2,I2,r2,a,ls,el,hS,hz,q2⟩=>?_)
 subst el
 cases (show u=Value.ref a from r2)
 refine jx ?_
 obtain⟨its,rv,pl,hzz⟩:=I2.list hS
 have hl:=pl.isList
 obtain⟨ob,hob,_⟩:=id hl
 have hne:a ≠ s2.heap.objs.size:=cG (bj hob)
 have hln:=rv.length
 rw [aT] at hln
 have hs0:=sizeLine_eq
 refine call_reversed_list hl ?_
 refine jx ?_
 refine RJ (items:=its.toArray) (s:={ s2 with heap:=s2.heap.push (revObj a ((its.toArray.size:Int)-1)) }) (I2.ok.hd hc) (by rw [cZ];omega) ⟨_,cM _ rfl,rfl,rfl⟩ (hl.push _) hne (λv hv=>?_) λh' ps hk hps=>?_
 ·obtain⟨j,hj,ej⟩:=List.getElem_of_mem (show v ∈ its from hv)
  have hjl:j<(ls.map vt).length:=by rw [aT];omega
  obtain⟨w,ew,rw'⟩:=rv.get (bq hjl)
  rw [bq hj] at ew
  rw [List.getElem_map] at rw'
  obtain⟨t,e'⟩:=rw'
  exact⟨_,t,by rw [← ej,dS ew];exact e'⟩
 have ee:=Ms rv (ps:=ps) hps
 rw [ee]
 have hok:((ls.reverse.map tx).map (·.length)).sum+(ls.reverse.map tx).length*(tx sep).length<=16777216:=by
  rw [yr,aT,i9,cV]
  have e1:ls.reverse.flatten.length=ls.flatten.length:=by
   rw [List.length_flatten,List.length_flatten,List.map_reverse,List.sum_reverse]
  rw [e1]
  have:ls.length*sep.length<=10000*100:=md hz.2.1 hz.2.2
  omega
 refine⟨joinOk_of hok,λt' k=>?_⟩
 rw [ym]
 exact⟨.str _,H2,I2.kept (t':=k) λb u e=>hk b u (cG (bj e)) (bP _ e),⟨_,rfl⟩,q2⟩
noncomputable def NN(K:Frag):R2:=λx y H Q=>∃a b xs ys,x=.ref a/\y=.ref b/\aD K H a xs/\aD K H b ys/\xs.all fo=true/\ys.all fo=true/\Q (.bl (!gh xs ys)) H
theorem OS(hu:X.A.units<cLine):bw X (compareOp .NotEq) (NN X.K):=by
 intro pins s σ H x y v u Q I rx ry h
 obtain⟨a,b,xs,ys,rfl,rfl,ha,hb,fx,fy,q⟩:=h
 cases (show v=Value.ref a from rx)
 cases (show u=Value.ref b from ry)
 obtain⟨its,rv,p,_⟩:=I.list ha
 obtain⟨its2,rv2,p2,_⟩:=I.list hb
 have l1:=rv.length
 have l2:=rv2.length
 by_cases hz:xs.length=ys.length
 ·refine SeqAt.RcNeAt.lists (e:=λj=>eS (xs.getD j .non) (ys.getD j .non)) p.isList p2.isList (by simp [← l1,← l2,hz]) hu (λj h1 h2=>uQ rv rv2 fx fy j h1 h2) X.prog X.w X.xe _ ?_
  have e:(List.range its.toArray.size).all (λj=>eS (xs.getD j .non) (ys.getD j .non))=gh xs ys:=by
   rw [← uP hz];simp [← l1]
  rw [e]
  exact⟨.bl _,H,I,rfl,q⟩
 ·rw [uO hz] at q
  exact SeqAt.RcNeAt.lists_lengths p.isList p2.isList (by simp [← l1,← l2,hz]) hu X.prog X.w X.xe _ ⟨.bl _,H,I,rfl,q⟩
noncomputable def fP(hu:X.A.units<cLine):=(OU (X:=X)).or ((OR hu).or (OS hu))
end
end L2
namespace L2
open PySem PySem.Spec PyProof.Rows
section
variable {κ:Type} [DecidableEq κ]
noncomputable def aZ(kvs:List (κ × V))(k:κ):Option V:=(kvs.find? λkv=>decide (kv.1=k)).map (·.2)
noncomputable def cE(kvs:List (κ × V))(k:κ)(v:V):List (κ × V) :=
 if (kvs.any λkv=>decide (kv.1=k))=true then kvs.map (λkv=>if kv.1=k then (kv.1,v) else kv) else kvs++[(k,v)]
noncomputable def gK(kvs:List (κ × V))(k:κ):List (κ × V):=kvs.filter λkv=>decide (kv.1 ≠ k)
theorem yk{k:κ}:aZ ([]:List (κ × V)) k=none:=rfl
theorem gU{p:κ × V}{r:List (κ × V)}{k:κ}(e:p.1=k):aZ (p::r) k=some p.2:=by simp [aZ,qr,e]
theorem gF{p:κ × V}{r:List (κ × V)}{k:κ}(e:¬ p.1=k):aZ (p::r) k=aZ r k:=by simp [aZ,qr,e]
theorem ow(k:κ):∀kvs:List (κ × V),(kvs.any λkv=>decide (kv.1=k))=(aZ kvs k).isSome
 | []=>rfl
 | p::r=>by
   rw [nY]
   by_cases e:p.1=k
   ·simp only [gU e,decide_eq_true e,Bool.true_or,Option.isSome_some]
   ·rw [gF e,decide_eq_false e,Bool.false_or];exact ow k r
theorem DE(k j:κ)(y:V):∀kvs:List (κ × V),aZ (kvs.map λkv=>if kv.1=k then (kv.1,y) else kv) j=(aZ kvs j).map λx=>if j=k then y else x
 | []=>rfl
 | p::r=>by
   have ih:=DE k j y r
   rw [bR]
   by_cases h:p.1=k
   ·rw [if_pos h]
    by_cases e:p.1=j
    ·rw [gU (p:=(p.1,y)) e,gU e,nO,if_pos (e.symm.trans h)]
    ·rw [gF (p:=(p.1,y)) e,gF e,ih]
   ·rw [if_neg h]
    by_cases e:p.1=j
    ·rw [gU (p:=p) e,gU e,nO,if_neg (λz=>h (e.trans z))]
    ·rw [gF (p:=p) e,gF e,ih]
theorem DD(k j:κ)(y:V):∀kvs:List (κ × V),aZ kvs k=none->aZ (kvs++[(k,y)]) j=if j=k then some y else aZ kvs j
 | [],_=>by
   by_cases e:k=j
   ·rw [if_pos e.symm];exact gU (p:=(k,y)) e
   ·rw [if_neg (λz=>e z.symm)];exact gF (p:=(k,y)) e
 | p::r,hn=>by
   rw [List.cons_append]
   have hk:¬ p.1=k:=λz=>by rw [gU z] at hn;cases hn
   rw [gF hk] at hn
   have ih:=DD k j y r hn
   by_cases e:p.1=j
   ·rw [gU e,gU e,if_neg (λz=>hk (e.trans z))]
   ·rw [gF e,gF e,ih]
theorem k9(kvs:List (κ × V))(k j:κ)(y:V):aZ (cE kvs k y) j=if j=k then some y else aZ kvs j:=by
 unfold cE
 by_cases a:(kvs.any λkv=>decide (kv.1=k))=true
 ·rw [if_pos a,DE]
  rw [ow] at a
  by_cases e:j=k
  ·obtain⟨x,hx⟩:=Option.isSome_iff_exists.mp a
   rw [if_pos e,e,hx,nO,if_pos rfl]
  ·rw [if_neg e]
   cases aZ kvs j with
   | none=>rfl
   | some x=>rw [nO,if_neg e]
 ·rw [if_neg a]
  refine DD k j y kvs ?_
  rw [ow] at a
  cases q:aZ kvs k with
  | none=>rfl
  | some x=>rw [q] at a;exact(a rfl).elim
theorem BA(kvs:List (κ × V))(k:κ)(v:V):(cE kvs k v).length<=kvs.length+1:=by
 unfold cE
 split
 ·rw [aT];omega
 ·rw [aq,d8,qo];omega
theorem fc.isSome_eq{o:Option V}{u:Option Value}(r:fc o u):o.isSome=u.isSome:=by
 cases o with
 | none=>cases u with
   | none=>rfl
   | some _=>exact(show False from r).elim
 | some _=>cases u with
   | none=>exact(show False from r).elim
   | some _=>rfl
theorem fc.getD{o:Option V}{u:Option Value}{d:V}{d':Value}(r:fc o u)(rd:aL d d'):aL (o.getD d) (u.getD d'):=by
 cases o with
 | none=>cases u with
   | none=>exact rd
   | some _=>exact(show False from r).elim
 | some _=>cases u with
   | none=>exact(show False from r).elim
   | some _=>exact r
theorem KV.val{kvs:List (κ × V)}{vs:List (κ × Value)}(r:KV kvs vs)(k:κ):fc (aZ kvs k) (valueAt vs k):=by
 unfold KV at r
 induction r with
 | nil=>exact True.intro
 | @cons p q ps qs h t ih =>
   obtain⟨h1,h2⟩:=h
   by_cases e:p.1=k
   ·have e':q.1=k:=h1.symm.trans e
    have b:valueAt (q::qs) k=some q.2:=by simp [valueAt,qr,e']
    rw [gU e,b];exact h2
   ·have e':¬ q.1=k:=λz=>e (h1.trans z)
    have b:valueAt (q::qs) k=valueAt qs k:=by simp [valueAt,qr,e']
    rw [gF e,b];exact ih
theorem KV.any{kvs:List (κ × V)}{vs:List (κ × Value)}(r:KV kvs vs)(k:κ):(kvs.any λkv=>decide (kv.1=k))=vs.any λkv=>decide (kv.1=k):=by
 unfold KV at r
 induction r with
 | nil=>rfl
 | cons h t ih=>rw [nY,nY,ih,h.1]
theorem KV.repl{kvs:List (κ × V)}{vs:List (κ × Value)}(r:KV kvs vs)(k:κ){y:V}{u:Value}(ry:aL y u):
 KV (kvs.map λkv=>if kv.1=k then (kv.1,y) else kv) (vs.map λkv=>if kv.1=k then (kv.1,u) else kv):=by
 unfold KV at r ⊢
 induction r with
 | nil=>exact .nil
 | @cons p q ps qs h t ih =>
   rw [bR,bR]
   refine .cons ?_ ih
   obtain⟨h1,h2⟩:=h
   by_cases e:p.1=k
   ·rw [if_pos e,if_pos (h1.symm.trans e)];exact⟨h1,ry⟩
   ·rw [if_neg e,if_neg (λz=>e (h1.trans z))];exact⟨h1,h2⟩
theorem KV.put{kvs:List (κ × V)}{vs:List (κ × Value)}(r:KV kvs vs)(k:κ){y:V}{u:Value}(ry:aL y u):KV (cE kvs k y) (stored vs k u):=by
 unfold cE stored
 rw [r.any k]
 by_cases e:(vs.any λkv=>decide (kv.1=k))=true
 ·rw [if_pos e,if_pos e];exact r.repl k ry
 ·rw [if_neg e,if_neg e];exact Paired.snoc r ⟨rfl,ry⟩
theorem KV.drop{kvs:List (κ × V)}{vs:List (κ × Value)}(r:KV kvs vs)(k:κ):KV (gK kvs k) (without vs k):=by
 unfold KV at r ⊢
 unfold gK without
 induction r with
 | nil=>exact .nil
 | @cons p q ps qs h t ih =>
   obtain⟨h1,h2⟩:=h
   rw [mh,mh]
   by_cases e:p.1=k
   ·have a:¬ decide (p.1 ≠ k)=true:=by simp [e]
    have b:¬ decide (q.1 ≠ k)=true:=by simp [h1.symm.trans e]
    rw [if_neg a,if_neg b];exact ih
   ·have e':¬ q.1=k:=λz=>e (h1.trans z)
    have a:decide (p.1 ≠ k)=true:=by simp [e]
    have b:decide (q.1 ≠ k)=true:=by simp [e']
    rw [if_pos a,if_pos b];exact .cons ⟨h1,h2⟩ ih
theorem KV.keys{kvs:List (κ × V)}{vs:List (κ × Value)}(r:KV kvs vs):kvs.map (·.1)=vs.map (·.1):=by
 unfold KV at r
 induction r with
 | nil=>rfl
 | cons h t ih=>rw [bR,bR,ih,h.1]
theorem KV.length{kvs:List (κ × V)}{vs:List (κ × Value)}(r:KV kvs vs):kvs.length=vs.length:=Paired.length r
theorem Ji(kvs:List (κ × V))(k:κ):(gK kvs k).length<=kvs.length:=List.length_filter_le _ _
end
theorem lF{P:Program}{w:World}{k:aU}{u:Value}(r:aL (kV k) u):(fj P w).is k u=true:=by
 cases k with
 | inl i=>obtain⟨t,e⟩:=(show ∃t,u=Value.int i t from r);subst e;exact QV P w i t
 | inr x=>obtain⟨t,e⟩:=(show ∃t,u=Value.str x t from r);subst e;exact QU P w x t
theorem II{P:Program}{w:World}:∀{ks:List aU} {us:List Value},aB (ks.map kV) us->ItemsAre (fj P w) ks us
 | [],_,r=>by rw [List.map_nil] at r;cases r;exact .nil
 | k::ks,_,r=>by
   rw [bR] at r
   cases r with
   | cons h t=>exact .cons (lF h) (II t)
abbrev KT(H:Hp):List (List aU × V)->List (List aU × Addr × Value)->Prop:=Paired λp q=>p.1=q.1/\H q.2.1=some (.tup (p.1.map kV))/\aL p.2 q.2.2
theorem KT.val{H:Hp}{kvs:List (List aU × V)}{xs:List (List aU × Addr × Value)}(r:KT H kvs xs)(k:List aU):fc (aZ kvs k) ((atKey xs k).map (·.2)):=by
 induction r with
 | nil=>exact True.intro
 | @cons p q ps qs h t ih =>
   obtain⟨h1,_,h2⟩:=h
   by_cases e:p.1=k
   ·have e':q.1=k:=h1.symm.trans e
    have b:atKey (q::qs) k=some q.2:=by simp [atKey,qr,e']
    rw [gU e,b];exact h2
   ·have e':¬ q.1=k:=λz=>e (h1.trans z)
    have b:atKey (q::qs) k=atKey qs k:=by simp [atKey,qr,e']
    rw [gF e,b];exact ih
theorem KT.repl{H:Hp}{kvs:List (List aU × V)}{xs:List (List aU × Addr × Value)}(r:KT H kvs xs)(k:List aU){y:V}{u:Value}(ry:aL y u):
 KT H (kvs.map λkv=>if kv.1=k then (kv.1,y) else kv) (xs.map (putAt k u)):=by
 induction r with
 | nil=>exact .nil
 | @cons p q ps qs h t ih =>
   rw [bR,bR]
   refine .cons ?_ ih
   obtain⟨h1,h2,h3⟩:=h
   unfold putAt
   by_cases e:p.1=k
   ·rw [if_pos e,if_pos (h1.symm.trans e)];exact⟨h1,h2,ry⟩
   ·rw [if_neg e,if_neg (λz=>e (h1.trans z))];exact⟨h1,h2,h3⟩
theorem KT.put{H:Hp}{kvs:List (List aU × V)}{xs:List (List aU × Addr × Value)}(r:KT H kvs xs)(k:List aU){b:Addr}{y:V}{u:Value}(hb:H b=some (.tup (k.map kV)))(ry:aL y u):
 KT H (cE kvs k y) (storedH xs k b u):=by
 have e:(kvs.any λkv=>decide (kv.1=k))=(atKey xs k).isSome:=by
  rw [ow,(r.val k).isSome_eq,Option.isSome_map]
 unfold cE storedH
 rw [e]
 by_cases q:(atKey xs k).isSome=true
 ·rw [if_pos q,if_pos q];exact r.repl k ry
 ·rw [if_neg q,if_neg q];exact Paired.snoc r ⟨rfl,hb,ry⟩
theorem KT.keeps{H H':Hp}{kvs:List (List aU × V)}{xs:List (List aU × Addr × Value)}(r:KT H kvs xs)(ht:∀b ys,H b=some (.tup ys)->H' b=some (.tup ys)):KT H' kvs xs :=
 Paired.mapP r λ_ _ z=>⟨z.1,ht _ _ z.2.1,z.2.2⟩
section
variable {P:Program} {w:World} {H:Hp} {h:Heap} {a:Addr}
theorem GG{u:HO}(ok:bZ P w H h)(e:Rd H a u):cc P w H h a u:=e.ok ok
theorem lR{kvs:List (aU × V)}(ok:bZ P w H h)(e:Rd H a (.dK kvs)):kvs.length<=sizeLine/\(a == sysModules)=false/\∃vs,KV kvs vs/\h.DictOf (fj P w) a vs :=
 show cc P w H h a (.dK kvs) from GG ok e
theorem Jk{kvs:List (aU × V)}(ok:bZ P w H h)(e:H a=some (.dK kvs)):kvs.length<=sizeLine/\(a == sysModules)=false/\∃vs,KV kvs vs/\h.DictOf (fj P w) a vs:=lR ok (.inl e)
theorem nt{ks:List aU}(ok:bZ P w H h)(e:H a=some (.tup (ks.map kV))):(tupleKind (fj P w)).is h ks a:=by
 obtain⟨_,its,r,o,h1,h2,n,h3⟩:=(show cc P w H h a (.tup (ks.map kV)) from ok a _ e)
 exact⟨o,its.toArray,n,h1,h2,h3,by simpa using II r⟩
theorem lQ{kvs:List (List aU × V)}(ok:bZ P w H h)(e:Rd H a (.dT kvs)):kvs.length<=sizeLine/\(a == sysModules)=false/\
 ∃xs,KT H kvs xs/\h.DictOfH (tupleKind (fj P w)) a xs:=by
 obtain⟨z,y,xs,r,o,es,ep,h1,h2,h3,h4,h5⟩:=(show cc P w H h a (.dT kvs) from GG ok e)
 refine⟨z,y,xs,r,o,es,ep,h1,h2,h3,h4,λx hx=>?_,h5⟩
 have all:∀{l:List (List aU × V)} {m:List (List aU × Addr × Value)},KT H l m->∀x ∈ m,(tupleKind (fj P w)).is h x.1 x.2.1:=by
  intro l m q
  induction q with
  | nil=>intro x hx;exact nomatch hx
  | @cons p q ps qs hq t ih =>
    intro x hx
    rcases bE.mp hx with e | hx
    ·subst e
     exact nt ok (by rw [← hq.1];exact hq.2.1)
    ·exact ih x hx
 exact all r x hx
theorem SQ{kvs:List (List aU × V)}(ok:bZ P w H h)(e:H a=some (.dT kvs)):kvs.length<=sizeLine/\(a == sysModules)=false/\
 ∃xs,KT H kvs xs/\h.DictOfH (tupleKind (fj P w)) a xs:=lQ ok (.inl e)
end
noncomputable def eW(H:Hp)(a:Addr)(y:V)(r:Option V):Prop :=
 (∃kvs k,Rd H a (.dK kvs)/\y=kV k/\r=aZ kvs k)\/∃kvs k b,Rd H a (.dT kvs)/\y=.ref b/\H b=some (.tup (k.map kV))/\r=aZ kvs k
noncomputable def jw(H:Hp)(a:Addr)(y v:V)(H':Hp):Prop :=
 (∃kvs k,H a=some (.dK kvs)/\y=kV k/\kvs.length<sizeLine/\H'=ai H a (.dK (cE kvs k v)))\/
 ∃kvs k b,H a=some (.dT kvs)/\y=.ref b/\H b=some (.tup (k.map kV))/\kvs.length<sizeLine/\H'=ai H a (.dT (cE kvs k v))
theorem eW.k{H:Hp}{a:Addr}{kvs:List (aU × V)}{k:aU}(e:H a=some (.dK kvs)):eW H a (kV k) (aZ kvs k):=.inl ⟨kvs,k,.inl e,rfl,rfl⟩
theorem eW.t{H:Hp}{a b:Addr}{kvs:List (List aU × V)}{k:List aU}(e:H a=some (.dT kvs))(eb:H b=some (.tup (k.map kV))):eW H a (.ref b) (aZ kvs k):=.inr ⟨kvs,k,b,.inl e,rfl,eb,rfl⟩
theorem jw.k{H:Hp}{a:Addr}{kvs:List (aU × V)}{k:aU}{v:V}(e:H a=some (.dK kvs))(hl:kvs.length<sizeLine):jw H a (kV k) v (ai H a (.dK (cE kvs k v))):=.inl ⟨kvs,k,e,rfl,hl,rfl⟩
theorem jw.t{H:Hp}{a b:Addr}{kvs:List (List aU × V)}{k:List aU}{v:V}(e:H a=some (.dT kvs))(eb:H b=some (.tup (k.map kV)))(hl:kvs.length<sizeLine):
 jw H a (.ref b) v (ai H a (.dT (cE kvs k v))):=.inr ⟨kvs,k,b,e,rfl,eb,hl,rfl⟩
section
variable {X:Cx} {pins:List (Addr × Obj)} {σ:St} {H:Hp} {s:Shared} {a:Addr} {y v:V} {u r:Value} {o:Option V} {A:Around} {E:Value->Shared->Prop}
theorem T5{Q:Value->Shared->Prop}(hu:A.units+1<cLine)(I:ae X pins σ H s)(g:eW H a y (some v))(ry:aL y u)(h:∀w' s',ae X pins σ H s'->aL v w'->Q w' s'):
 wpAny (model X.prog X.w) A (getItem (.ref a) u) Q E s:=by
 rcases g with⟨kvs,k,e,ey,l⟩ | ⟨kvs,k,b,e,ey,eb,l⟩
 ·subst ey
  obtain⟨z,hd,vs,rel,dd⟩:=lR I.hok e
  obtain⟨w',hw,rw'⟩:=fc.some_of (v:=v) (o:=valueAt vs k) (by rw [l];exact rel.val k)
  exact wpAny_getItem_of (lF ry) dd.mapOf hw (h w' _ (I.tok _) rw')
 ·subst ey
  cases (show u=Value.ref b from ry)
  obtain⟨z,hd,xs,rel,dd⟩:=lQ I.hok e
  obtain⟨w',hw,rw'⟩:=fc.some_of (v:=v) (o:=(atKey xs k).map (·.2)) (by rw [l];exact rel.val k)
  obtain⟨p,hp,hp2⟩:=xr.mp hw
  refine wpAny_getItem_heap (tupleKind_room_in1 hu) (nt I.hok eb) dd hp ?_
  rw [hp2]
  exact h w' _ (I.tok _) rw'
theorem T4{Q:Value->Shared->Prop}(hu:A.units+1<cLine)(I:ae X pins σ H s)(g:eW H a y o)(ry:aL y u)(h:∀s',ae X pins σ H s'->Q (.bool (!o.isSome)) s'):
 wpAny (model X.prog X.w) A (compareOp .NotIn u (.ref a)) Q E s:=by
 rcases g with⟨kvs,k,e,ey,l⟩ | ⟨kvs,k,b,e,ey,eb,l⟩
 ·subst ey
  obtain⟨z,hd,vs,rel,dd⟩:=lR I.hok e
  refine wpAny_notIn_of (lF ry) hd dd.mapOf ?_
  rw [← (rel.val k).isSome_eq,← l]
  exact h _ (I.tok _)
 ·subst ey
  cases (show u=Value.ref b from ry)
  obtain⟨z,hd,xs,rel,dd⟩:=lQ I.hok e
  refine wpAny_notIn_heap (tupleKind_room_in1 hu) (nt I.hok eb) hd dd ?_
  have q:=(rel.val k).isSome_eq
  rw [Option.isSome_map] at q
  rw [← q,← l]
  exact h _ (I.tok _)
theorem BV{h':Heap}{t':Nat}{ob:HO}(I:ae X pins σ H s)(mu:qj (H a))(hs:Heap.SameBut a s.heap h')(he:∃q,h'.get? a=some q)(new:cc X.prog X.w (ai H a ob) h' a ob):
 ae X pins σ (ai H a ob) { s with heap:=h',toks:=t' } :=
 I.write (x:=a) (e:=a) mu (.inl rfl) (λb q hb z=>(hs.2 b hb).trans z) he new
theorem Jl{P:Program}{w:World}{H':Hp}{h':Heap}{kvs:List (aU × V)}{vs:List (aU × Value)}(z:kvs.length<=sizeLine)(hd:(a == sysModules)=false)(rel:KV kvs vs)(dd:h'.DictOf (fj P w) a vs):
 cc P w H' h' a (.dK kvs):=⟨z,hd,vs,rel,dd⟩
theorem SY{H':Hp}{Q:Unit->Shared->Prop}(hu:A.units+1<cLine)(I:ae X pins σ H s)(g:jw H a y v H')(ry:aL y u)(rv:aL v r)(h:∀s',ae X pins σ H' s'->Q () s'):
 wpAny (model X.prog X.w) A (setItem (.ref a) u r) Q E s:=by
 rcases g with⟨kvs,k,e,ey,l,eH⟩ | ⟨kvs,k,b,e,ey,eb,l,eH⟩
 ·subst ey eH
  obtain⟨z,hd,vs,rel,dd⟩:=Jk I.hok e
  have hz:vs.length<=sizeLine:=by rw [← rel.length];exact z
  have hl:(cE kvs k v).length<=sizeLine:=by have:=BA kvs k v;omega
  refine wpAny_setItem_pairs (hsz:=hz) (lF ry) dd λh' dd' hs=>h _ ?_
  have he:∃q,h'.get? a=some q:=let ⟨q,_,_,hq,_⟩:=dd';⟨q,hq⟩
  exact BV I (by rw [e];exact True.intro) hs he (Jl hl hd (rel.put k rv) dd')
 ·subst ey eH
  cases (show u=Value.ref b from ry)
  obtain⟨z,hd,xs,rel,dd⟩:=SQ I.hok e
  have hz:xs.length<=sizeLine:=by rw [← Paired.length rel];exact z
  have hl:(cE kvs k v).length<=sizeLine:=by have:=BA kvs k v;omega
  refine wpAny_setItem_heap (hsz:=hz) (tupleKind_room_in1 hu) (nt I.hok eb) dd λh' dd' hs=>h _ ?_
  obtain⟨q,es,ep,hq,h2,h3,h4,_,h5⟩:=dd'
  refine BV I (by rw [e];exact True.intro) hs ⟨q,hq⟩ ⟨hl,hd,_,(rel.put k eb rv).keeps λc ys ec=>?_,q,es,ep,hq,h2,h3,h4,h5⟩
  rw [au (Bi ec e (λz=>nomatch z))]
  exact ec
end
section
variable {X:Cx} {pins:List (Addr × Obj)} {σ:St} {H:Hp} {s:Shared} {a:Addr} {kvs:List (aU × V)} {k:aU} {u:Value} {A:Around} {E:Value->Shared->Prop}
theorem T2{v:V}{more:List Value}{Q:Value->Shared->Prop}(I:ae X pins σ H s)(e:H a=some (.dK kvs))(ry:aL (kV k) u)(l:aZ kvs k=some v)(hm:more=[]\/∃x,more=[x])
 (h:∀w' s',ae X pins σ (ai H a (.dK (gK kvs k))) s'->aL v w'->Q w' s'):wpAny (model X.prog X.w) A (call (.builtin "dict.pop") (.ref a::u::more)) Q E s:=by
 obtain⟨z,hd,vs,rel,dd⟩:=Jk I.hok e
 obtain⟨w',hw,rw'⟩:=fc.some_of (v:=v) (o:=valueAt vs k) (by rw [← l];exact rel.val k)
 have hp:(keyPart u).isSome=true:=by
  cases k with
  | inl i=>obtain⟨t,q⟩:=(show ∃t,u=Value.int i t from ry);subst q;rfl
  | inr x=>obtain⟨t,q⟩:=(show ∃t,u=Value.str x t from ry);subst q;rfl
 have ha:argsOk "dict.pop" ⟨.ref a::u::more,[]⟩:=by
  rcases hm with q | ⟨x,q⟩
  ·subst q;exact PySem.F.args_dict_pop_2 _ _
  ·subst q;exact PySem.F.args_dict_pop_3 _ _ _
 refine call_meetsIn PySem.F.slot_dict_pop dd.typeIs PySem.F.entry_dict_pop ha (meets_dict_pop_there (fj X.prog X.w) a (lF ry) more hm hp)
  ⟨vs,w',dd,by rw [← rel.length];exact z,hw,λh' dd' hs=>h w' _ ?_ rw'⟩
 have he:∃q,h'.get? a=some q:=let ⟨q,_,_,hq,_⟩:=dd';⟨q,hq⟩
 exact BV I (by rw [e];exact True.intro) hs he (Jl (c7 (Ji kvs k) z) hd (rel.drop k) dd')
end
noncomputable def Ki(i:Expr):Prop:=∀ov iv,subscripted i false ov iv=operate [ov,iv] (getItem ov iv)
theorem Mr{prog:Program}{w:World}{A:Around}{E:Value->Shared->Prop}{s:Shared}{env:Env}{value slice:Expr}{pos:Pos}{T id:String}{Q:Value->Shared->Prop}
 (hl:typeLookup (.type T) "__getitem__" = pure (some (.builtin id))) (hs:Ki slice)
 (h:wpAny (model prog w) A (eval value env) (λo s₁=>wpAny (model prog w) A (eval slice env) (λi s₂=>s₂.TypeIs o T/\wpAny (model prog w) A (getItem o i) Q E s₂) E s₁) E s):
 wpAny (model prog w) A (eval (.Subscript value slice pos) env) Q E s:=by
 refine Subscript_ (wpAny_mono h (λo s₁ h₁=>wpAny_mono h₁ (λi s₂ h₂=>?_) λ_ _ x=>x) λ_ _ x=>x)
 obtain⟨hT,h₂⟩:=h₂
 unfold subscriptTail
 refine wpAny_bind ?_
 rw [getitemInPython_of_ne hT.not_modules]
 refine wpAny_bind (wpAny_specialOf hT hl ?_)
 have fin:wpAny (model prog w) A (subscripted slice false o i) (λr s₃=>wpAny (model prog w) A (letTemporaryGo value o r >>= λ_=>pure r) Q E s₃) E s₂:=by
  rw [hs o i]
  exact wpAny_operating (wpAny_mono h₂ (λr s₃ h₃=>wpAny_bind (wpAny_letTemporaryGo (wpAny_pure h₃))) λ_ _ x=>x)
 first
  | exact wpAny_pure (wpAny_bind fin)
  | exact wpAny_bind (wpAny_pure (wpAny_bind fin))
  | exact wpAny_bind fin
theorem SU{X:Cx}{pins:List (Addr × Obj)}{σ:St}{H:Hp}{s:Shared}{a:Addr}{y:V}{o:Option V}(I:ae X pins σ H s)(g:eW H a y o):s.TypeIs (.ref a) "dict":=by
 rcases g with⟨kvs,k,e,_,_⟩ | ⟨kvs,k,b,e,_,_,_⟩
 ·obtain⟨_,_,vs,_,dd⟩:=lR I.hok e
  exact dd.typeIs
 ·obtain⟨_,_,xs,_,dd⟩:=lQ I.hok e
  exact dd.typeIs
noncomputable def DV(td ty:TE):TE:=λσ H Q=>td σ H λx H1=>ty σ H1 λy H2=>∃a v,x=.ref a/\eW H2 a y (some v)/\Q v H2
noncomputable def Mg(ty td:TE):TE:=λσ H Q=>ty σ H λy H1=>td σ H1 λx H2=>∃a o,x=.ref a/\eW H2 a y o/\Q (.bl (!o.isSome)) H2
noncomputable def NB(td ty tv:TE):TS:=λD σ H=>tv σ H λv H1=>td σ H1 λx H2=>ty σ H2 λy H3=>∃a H4,x=.ref a/\jw H3 a y v H4/\D.nx σ H4
section
variable {X:Cx} {o i e value:Expr} {pos pos' tpos:Pos} {td ty tv:TE}
theorem AR(hu:X.A.units+1<cLine)(ho:PE X o td)(hi:PE X i ty)(hs:Ki i):PE X (.Subscript o i pos) (DV td ty):=by
 intro pins s σ H Q I h
 refine Mr PySem.F.slot_dict_getitem.lookup hs (av (ho pins s σ H _ I h) λu s1 ⟨x,H1,I1,rx,q1⟩=>av (hi pins s1 σ H1 _ I1 q1) λiv s2 ⟨y,H2,I2,ry,a,v,ex,g,q2⟩=>?_)
 subst ex
 obtain rfl:u=Value.ref a:=rx
 exact⟨SU I2 g,T5 hu I2 g ry λw' s3 I3 rw'=>⟨v,H2,I3,rw',q2⟩⟩
theorem AV(hu:X.A.units+1<cLine)(hi:PE X i ty)(ho:PE X o td):PC X .NotIn i o (Mg ty td):=by
 intro pins s σ H Q I h
 refine av (hi pins s σ H _ I h) λiv s1 ⟨y,H1,I1,ry,q1⟩=>av (ho pins s1 σ H1 _ I1 q1) λu s2 ⟨x,H2,I2,rx,a,ov,ex,g,q2⟩=>?_
 subst ex
 obtain rfl:u=Value.ref a:=rx
 exact T4 hu I2 g ry λs3 I3=>⟨.bl (!ov.isSome),H2,I3,rfl,q2⟩
theorem rL(hu:X.A.units+1<cLine)(ho:PE X o td)(hi:PE X i ty)(hv:PE X value tv)(hs:swapsWith value (some (.Subscript o i pos')) pos.line X.env=pure false):
 PS X (.Assign [.Subscript o i pos'] value pos) (NB td ty tv):=by
 intro pins s σ H D I h
 refine wpAny_Assign_Subscript (av (hv pins s σ H _ I h) λr s1 ⟨v,H1,I1,rv,q1⟩=>av (ho pins s1 σ H1 _ I1 q1) λu s2 ⟨x,H2,I2,rx,q2⟩=>av (hi pins s2 σ H2 _ I2 q2) λiv s3 ⟨y,H3,I3,ry,a,H4,ex,g,q3⟩=>?_) hs
 subst ex
 obtain rfl:u=Value.ref a:=rx
 exact SY hu I3 g ry rv λs4 I4=>⟨σ,H4,I4,q3⟩
end
section
variable {X:Cx} {pos:Pos}
end
structure M1(X:Cx)(o:Expr)(m:Str)(apos:Pos)(e:Expr)(cpos:Pos):Prop where
 base:attributeBase o m X.env (eval o X.env)=eval o X.env
 few:((backTo cpos (starEach [e] X.env)).all (λx=>!x.1) && (backToKw cpos (keywordEach [] X.env)).all (λx=>x.1.isSome)
  && decide (([e]:List Expr).length+([]:List Keyword).length+(if ([]:List Keyword).isEmpty then 0 else 1)<30))=true
 line:(apos.endLine == cpos.line)=true
 trees:backTo cpos (starEach [e] X.env)=[(false,eval e X.env)]
structure M2(X:Cx)(o:Expr)(m:Str)(apos:Pos)(e f:Expr)(cpos:Pos):Prop where
 base:attributeBase o m X.env (eval o X.env)=eval o X.env
 few:((backTo cpos (starEach [e,f] X.env)).all (λx=>!x.1) && (backToKw cpos (keywordEach [] X.env)).all (λx=>x.1.isSome)
  && decide (([e,f]:List Expr).length+([]:List Keyword).length+(if ([]:List Keyword).isEmpty then 0 else 1)<30))=true
 line:(apos.endLine == cpos.line)=true
 trees:backTo cpos (starEach [e,f] X.env)=[(false,eval e X.env),(false,eval f X.env)]
noncomputable def xQ(H:Hp)(a:Addr):Prop:=(∃kvs,Rd H a (.dK kvs))\/∃kvs,Rd H a (.dT kvs)
theorem BI{X:Cx}{pins:List (Addr × Obj)}{σ:St}{H:Hp}{s:Shared}{a:Addr}(I:ae X pins σ H s)(d:xQ H a):
 s.TypeIs (.ref a) "dict" /\ (∀b,Value.ref a=.ref b->∃ob,s.heap.get? b=some ob/\ob.dict=none)/\(a == sysModules)=false:=by
 rcases d with⟨kvs,e⟩ | ⟨kvs,e⟩
 ·obtain⟨_,hd,vs,_,dd⟩:=lR I.hok e
  refine⟨dd.typeIs,λb q=>?_,hd⟩
  cases q
  obtain⟨ob,_,_,h1,h2,_⟩:=dd
  exact⟨ob,h1,h2.2.1⟩
 ·obtain⟨_,hd,xs,_,dd⟩:=lQ I.hok e
  refine⟨dd.typeIs,λb q=>?_,hd⟩
  cases q
  obtain⟨ob,_,_,h1,h2,_⟩:=dd
  exact⟨ob,h1,h2.2.1⟩
section
variable {X:Cx} {pins:List (Addr × Obj)} {σ:St} {H:Hp} {s:Shared} {a:Addr} {y d:V} {u r:Value} {o:Option V} {A:Around} {E:Value->Shared->Prop}
theorem T7{Q:Value->Shared->Prop}(hu:A.units+1<cLine)(I:ae X pins σ H s)(g:eW H a y o)(ry:aL y u)(h:∀w' s',ae X pins σ H s'->aL (o.getD .non) w'->Q w' s'):
 wpAny (model X.prog X.w) A (call (.builtin "dict.get") [.ref a,u]) Q E s:=by
 rcases g with⟨kvs,k,e,ey,l⟩ | ⟨kvs,k,b,e,ey,eb,l⟩
 ·subst ey
  obtain⟨z,hd,vs,rel,dd⟩:=lR I.hok e
  refine call_meetsIn m7 dd.typeIs xo (Kc _ _) (meets_dict_get (fj X.prog X.w) a (lF ry) hd) ⟨_,dd.mapOf,h _ _ (I.tok _) ?_⟩
  rw [l]
  exact(rel.val k).getD rfl
 ·subst ey
  cases (show u=Value.ref b from ry)
  obtain⟨z,hd,xs,rel,dd⟩:=lQ I.hok e
  refine call_meetsIn m7 dd.typeIs xo (Kc _ _) (meetsH_dict_get (tupleKind (fj X.prog X.w)) a b hd) ⟨tupleKind_room_in1 hu,k,xs,nt I.hok eb,dd,h _ _ (I.tok _) ?_⟩
  rw [l]
  exact(rel.val k).getD rfl
theorem T6{Q:Value->Shared->Prop}(hu:A.units+1<cLine)(I:ae X pins σ H s)(g:eW H a y o)(ry:aL y u)(rd:aL d r)(h:∀w' s',ae X pins σ H s'->aL (o.getD d) w'->Q w' s'):
 wpAny (model X.prog X.w) A (call (.builtin "dict.get") [.ref a,u,r]) Q E s:=by
 rcases g with⟨kvs,k,e,ey,l⟩ | ⟨kvs,k,b,e,ey,eb,l⟩
 ·subst ey
  obtain⟨z,hd,vs,rel,dd⟩:=lR I.hok e
  refine call_meetsIn m7 dd.typeIs xo (PySem.F.args_dict_get_3 _ _ _) (meets_dict_get_default (fj X.prog X.w) a (lF ry) hd r) ⟨_,dd.mapOf,h _ _ (I.tok _) ?_⟩
  rw [l]
  exact(rel.val k).getD rd
 ·subst ey
  cases (show u=Value.ref b from ry)
  obtain⟨z,hd,xs,rel,dd⟩:=lQ I.hok e
  refine call_meetsIn m7 dd.typeIs xo (PySem.F.args_dict_get_3 _ _ _) (meetsH_dict_get_default (tupleKind (fj X.prog X.w)) a b hd r) ⟨tupleKind_room_in1 hu,k,xs,nt I.hok eb,dd,h _ _ (I.tok _) ?_⟩
  rw [l]
  exact(rel.val k).getD rd
end
noncomputable def Mj(td ty:TE):TE:=λσ H Q=>td σ H λx H1=>∃a,x=.ref a/\xQ H1 a/\ty σ H1 λy H2=>∃o,eW H2 a y o/\Q (o.getD .non) H2
noncomputable def Mi(td ty tx:TE):TE:=λσ H Q=>td σ H λx H1=>∃a,x=.ref a/\xQ H1 a/\ty σ H1 λy H2=>tx σ H2 λz H3=>∃o,eW H3 a y o/\Q (o.getD z) H3
noncomputable def Mf(td ty:TE):TE:=λσ H Q=>td σ H λx H1=>∃a,x=.ref a/\xQ H1 a/\ty σ H1 λy H2=>∃kvs k v,H2 a=some (.dK kvs)/\y=kV k/\aZ kvs k=some v/\Q v (ai H2 a (.dK (gK kvs k)))
section
variable {X:Cx} {o e f:Expr} {apos cpos:Pos} {td ty tx:TE}
theorem OH(hu:X.A.units+1<cLine)(ho:PE X o td)(he:PE X e ty)(m:M1 X o "get" apos e cpos):PE X (.Call (.Attribute o "get" apos) [e] [] cpos) (Mj td ty):=by
 intro pins s σ H Q I h
 refine wpAny_Call_method m.base m.few m.line Cg m7 PySem.F.type_dict_get (av (ho pins s σ H _ I h) λu s1 ⟨x,H1,I1,rx,a,ex,d,q1⟩=>?_)
 subst ex
 obtain rfl:u=Value.ref a:=rx
 obtain⟨t1,t2,_⟩:=BI I1 d
 refine⟨t1,t2,?_⟩
 rw [m.trees]
 refine my rfl (oh (j3 (av (he pins s1 σ H1 _ I1 q1) λiv s2 ⟨y,H2,I2,ry,ov,g,q2⟩=>jx ?_)))
 exact T7 hu I2 g ry λw' s3 I3 rw'=>⟨_,H2,I3,rw',q2⟩
theorem OG(hu:X.A.units+1<cLine)(ho:PE X o td)(he:PE X e ty)(hf:PE X f tx)(m:M2 X o "get" apos e f cpos):PE X (.Call (.Attribute o "get" apos) [e,f] [] cpos) (Mi td ty tx):=by
 intro pins s σ H Q I h
 refine wpAny_Call_method m.base m.few m.line Cg m7 PySem.F.type_dict_get (av (ho pins s σ H _ I h) λu s1 ⟨x,H1,I1,rx,a,ex,d,q1⟩=>?_)
 subst ex
 obtain rfl:u=Value.ref a:=rx
 obtain⟨t1,t2,_⟩:=BI I1 d
 refine⟨t1,t2,?_⟩
 rw [m.trees]
 refine my rfl (oh (j3 (av (he pins s1 σ H1 _ I1 q1) λiv s2 ⟨y,H2,I2,ry,q2⟩ =>
  j3 (av (hf pins s2 σ H2 _ I2 q2) λfv s3 ⟨z,H3,I3,rz,ov,g,q3⟩=>jx ?_))))
 exact T6 hu I3 g ry rz λw' s4 I4 rw'=>⟨_,H3,I4,rw',q3⟩
theorem OF(ho:PE X o td)(he:PE X e ty)(m:M1 X o "pop" apos e cpos):PE X (.Call (.Attribute o "pop" apos) [e] [] cpos) (Mf td ty):=by
 intro pins s σ H Q I h
 refine wpAny_Call_method m.base m.few m.line Cg PySem.F.slot_dict_pop PySem.F.type_dict_pop (av (ho pins s σ H _ I h) λu s1 ⟨x,H1,I1,rx,a,ex,d,q1⟩=>?_)
 subst ex
 obtain rfl:u=Value.ref a:=rx
 obtain⟨t1,t2,_⟩:=BI I1 d
 refine⟨t1,t2,?_⟩
 rw [m.trees]
 refine my rfl (oh (j3 (av (he pins s1 σ H1 _ I1 q1) λiv s2 ⟨y,H2,I2,ry,kvs,k,v,ea,ey,l,q2⟩=>jx ?_)))
 subst ey
 exact T2 I2 ea ry l (.inl rfl) λw' s3 I3 rw'=>⟨v,_,I3,rw',q2⟩
end
section
variable {X:Cx} {pins:List (Addr × Obj)} {σ:St} {H:Hp} {s:Shared} {a:Addr} {kvs:List (aU × V)} {A:Around} {E:Value->Shared->Prop}
end
section
variable {X:Cx} {pins:List (Addr × Obj)} {σ:St} {H:Hp} {s:Shared} {a:Addr} {y:V} {u:Value} {A:Around} {E:Value->Shared->Prop}
end
end L2
namespace L2
open PySem PySem.Spec PyProof.Rows
section
variable {X:Cx}
end
section
variable {κ:Type} [DecidableEq κ]
end
end L2
namespace L2
open PySem PySem.Spec PyProof.Rows
section
variable {X:Cx} {pins:List (Addr × Obj)} {σ:St} {H:Hp} {s:Shared} {h':Heap}
theorem ae.turned2{t':Nat}{i1 i2:Addr}(I:ae X pins σ H s)(k:∀b o,b ≠ i1->b ≠ i2->s.heap.get? b=some o->h'.get? b=some o)(f1:gT X pins H i1)(f2:gT X pins H i2):ae X pins σ H { s with heap:=h',toks:=t' }:=by
 obtain⟨a0,a1,a2,a3,a4,a5⟩:=f1
 obtain⟨b0,b1,b2,b3,b4,b5⟩:=f2
 have n1:∀b u,H b=some u->b ≠ i1:=λb u e z=>by rw [z,a0] at e;cases e
 have n2:∀b u,H b=some u->b ≠ i2:=λb u e z=>by rw [z,b0] at e;cases e
 refine I.step (g':=s.gens) (d':=s.drawn) (ch:=[i1,i2]) (λb hb=>?_) (λb o _ _ hc e _=>k b o (λz=>hc (by simp [z])) (λz=>hc (by simp [z])) e) (λb o _ _ hc e _=>⟨o.slots,k b o (λz=>hc (by simp [z])) (λz=>hc (by simp [z])) e⟩) (λ_ _ _ _ n=>n)
  (λb o hc e=>⟨o,k b o (λz=>hc (by simp [z])) (λz=>hc (by simp [z])) e⟩) (λ_ _ e=>e) (λ_ _ _ e=>e) (λb ps e=>⟨#[],by rw [e];simp⟩) (λm hm=>?_) (λb u e=>?_) I.bare
 ·rcases bE.mp hb with e | e
  ·subst e;exact⟨a3,a1,a4,a5⟩
  ·have e:=bx.mp e
   subst e;exact⟨b3,b1,b4,b5⟩
 ·obtain⟨o,es,ep,ho,r⟩:=hm
  exact⟨o,es,ep,k _ o (dG a1) (dG b1) ho,r⟩
 ·refine(I.hok b u e).stay (λc v hc q=>k c v ?_ ?_ q) (λ_ q=>q) λ_ _ q=>q
  ·rcases hc with z | z
   ·rw [z];exact n1 b u e
   ·exact n1 c _ z
  ·rcases hc with z | z
   ·rw [z];exact n2 b u e
   ·exact n2 c _ z
end
noncomputable def qu(z:Str):It:=⟨λi _=>i<z.length,λi H x H'=>∃p c,H p=none/\H'=ai H p (.tup [.int (i:Int),.str ⟨#[c]⟩])/\z.cps.toList[i]?=some c/\x=.ref p,λi _=>z.length<=i⟩
theorem LP{P:Program}{w:World}{K:Frag}{elts:List Expr}{k}{tpos:Pos}{ty:String}(e it:Addr)(z:Str)(t:Tok)(hei:e ≠ it)
 (D:∀A:Around,A.handled=none->Draws P w A it [it] z.cps.size (λi v=>∃c u,z.cps[i]?=some c/\v=.str ⟨#[c]⟩ u) (λi h=>h.IsStrIter it ty z t i)):
 jQ P w K (.Tuple elts k tpos) (qu z) [e,it] e (λi h=>(∃old,IsEnum h e it (i:Int) old)/\h.IsStrIter it ty z t i/\i<=z.cps.size) where
 mem:=by simp
 obj:=λi h st b hb=>by
  obtain⟨⟨old,he⟩,⟨o,ho,_,hd⟩,_⟩:=st
  rcases bE.mp hb with q | q
  ·subst q;exact⟨_,he,λv q=>by cases q⟩
  ·have q:=bx.mp q
   subst q;exact⟨o,ho,λv q=>by rw [hd] at q;cases q⟩
 keep:=λi h h' st kk=>by
  obtain⟨⟨old,he⟩,⟨o,ho,r⟩,hle⟩:=st
  exact⟨⟨old,kk e (by simp) _ he⟩,⟨o,kk it (by simp) o ho,r⟩,hle⟩
 item:=by
  intro X hP hw hK hc i pins s σ H E I hf st hg
  subst hP hw hK
  obtain⟨⟨old,he⟩,hit,_⟩:=st
  have hg':i<z.cps.size:=hg
  have helt:e<s.heap.objs.size:=bj he
  obtain⟨oi,hoi,_⟩:=id hit
  have hilt:it<s.heap.objs.size:=bj hoi
  have hef:e ∉ [it]:=λq=>hei (bx.mp q)
  refine wpAny_pyNext_enum_itemD (D X.A.in1 (I.ok.hd hc)) he hit hg' hei hef λx h1 tk hPx heo hst hT hsz hk=>?_
  obtain⟨c,u,hcz,rfl⟩:=hPx
  refine⟨_,rfl,?_⟩
  refine wpAny_letOwnedTupleGo_enum (s:={ s with heap:=h1,toks:=tk+1 }) heo λh2 he2 hs2=>?_
  replace hs2:Heap.SameBut e h1 h2:=hs2
  have hpn:H s.heap.objs.size=none:=I.hok.fresh (aI _)
  have hTe:s.heap.objs.size ≠ e:=Nat.ne_of_gt helt
  have hT2:h2.get? s.heap.objs.size=some { cls:=.type "tuple",data:=.seq #[.int i tk,.str ⟨#[c]⟩ u] }:=(hs2.2 _ hTe).trans hT
  have I1:ae X pins σ H { s with heap:=h2,toks:=tk+1 }:=I.turned2 (λb o h1 h2 q=>(hs2.2 b h1).trans (hk b o h1 h2 q)) (hf e (by simp)) (hf it (by simp))
  have f:=I.fpOk (H':=H) (aI _) hpn
  have I2:ae X pins σ (ai H s.heap.objs.size (.tup [.int (i:Int),.str ⟨#[c]⟩])) { s with heap:=h2,toks:=tk+1 }:=by
   refine I1.adopt hpn ?_ (dG f.2.1) f.2.2.2.2.1 f.2.2.2.2.2 ⟨by show 2<=sizeLine;decide,[.int i tk,.str ⟨#[c]⟩ u],.cons ⟨_,rfl⟩ (.cons ⟨_,rfl⟩ .nil),?_⟩
   ·cases q:X.s₀.heap.get? s.heap.objs.size with
    | none=>rfl
    | some o=>exact absurd (dZ (bj q) I.sz) (i4 _)
   ·exact⟨_,hT2,rfl,_,rfl⟩
  refine⟨.ref s.heap.objs.size,_,I2,rfl,⟨_,c,hpn,rfl,by rw [mz];exact hcz,rfl⟩,⟨⟨_,by simpa using he2⟩,?_,hg'⟩,λb hb=>?_⟩
  ·obtain⟨o,ho,r⟩:=hst
   exact⟨o,(hs2.2 it (dG hei)).trans ho,r⟩
  ·rcases bE.mp hb with q | q
   ·subst q;rw [au (cG helt)];exact(hf _ (by simp)).1
   ·have q:=bx.mp q
    subst q;rw [au (cG hilt)];exact(hf _ (by simp)).1
 done:=by
  intro X hP hw hK hc i pins s σ H E I hf st hg
  subst hP hw hK
  obtain⟨⟨old,he⟩,hit,hle⟩:=st
  have hg':z.cps.size<=i:=hg
  have e1:i=z.cps.size:=Nat.le_antisymm hle hg'
  subst e1
  obtain⟨f0,f1,f2,f3,f4,f5⟩:=hf it (by simp)
  exact wpAny_pyNext_enum_endD (D X.A.in1 (I.ok.hd hc)) he hit λh' eb=>⟨rfl,I.turned (t':=s.toks) (λb o hb e=>eb b o hb e) f0 f1 f3 f4 f5⟩
 self:=λA i s Q E st h=>wpAny_pyIter_enum st.1.choose_spec h
section
variable {X:Cx}
noncomputable def Sa(te:TE):TI:=λσ H R=>te σ H λx H1=>∃l,x=vt l/\R (qu (tx l)) H1
theorem Om{e:Expr}{te:TE}{elts:List Expr}{k}{tpos p2 pos:Pos}(hg:Gl X "enumerate")(hm:X.mg "enumerate" = none)(hv:bootBuiltins "enumerate" = some (.type "enumerate"))(he:PE X e te)
 (hs2:starEach [e] X.env=[(false,eval e X.env)]:=by rfl):PI X (.Tuple elts k tpos) (.Call (.Name "enumerate" p2) [e] [] pos) (Sa te):=by
 intro pins s σ H R I h
 refine wpAny_Call_Name_kw (iR I hg hm hv ?_ (by decide) (by decide))
 refine m8 (rest:=[]) ?_ hs2 rfl
 rw [hs2]
 show wpAny _ _ (spliced ((false,eval e X.env)::backTo pos [])) _ _ s
 refine j3 (av (he pins s σ H _ I h) λu s1 ⟨y,H1,I1,r1,l,el,q1⟩=>?_)
 subst el
 obtain⟨t,rfl⟩:=r1
 refine jx ?_
 refine call_enumerate_str λh' hen hit hsz hk=>?_
 refine wpAny_pyIter_enum (s:={ s1 with heap:=h' }) hen ?_
 have I2:ae X pins σ H1 { s1 with heap:=h' }:=I1.kept (t':=s1.toks) hk
 have hei:s1.heap.objs.size+1 ≠ s1.heap.objs.size:=Nat.succ_ne_self _
 have fp:∀b ∈ [s1.heap.objs.size+1,s1.heap.objs.size],gT X pins H1 b:=λb hb=>by
  have hle:s1.heap.objs.size<=b:=by
   rcases bE.mp hb with q | q
   ·rw [q];exact nP _
   ·rw [bx.mp q];exact aI _
  exact I1.fpOk hle (I1.hok.fresh hle)
 have D:∀A:Around,A.handled=none->Draws X.prog X.w A s1.heap.objs.size [s1.heap.objs.size] (tx l).cps.size (λi v=>∃c u,(tx l).cps[i]?=some c/\v=.str ⟨#[c]⟩ u) (λi h=>h.IsStrIter s1.heap.objs.size (strIterType (tx l)) (tx l) t i):=λA hA=>by
  unfold strIterType
  cases (tx l).cps.all (·<128)
  ·exact Draws.strWide hA _ _ _
  ·exact Draws.strAscii hA _ _ _
 exact⟨s1.heap.objs.size+1,[s1.heap.objs.size+1,s1.heap.objs.size],_,_,H1,rfl,I2,LP _ _ (tx l) t hei D,⟨⟨_,hen⟩,hit,cU _⟩,fp,q1⟩
theorem Sz{l:List Nat}{K:Frag}{a b:Nat}{tb:TS}{D:ie}{σ:St}{H:Hp}(Pv:Nat->St->Hp->Prop)(h0:Pv 0 σ H)
 (hs:∀i c σ H p,l[i]?=some c->Pv i σ H->H p=none->tb { D with nx:=Pv (i+1),ct:=Pv (i+1),bk:=D.nx } ((σ.set a (some (.int (i:Int)))).set b (some (vt [c]))) (ai H p (.tup [.int (i:Int),vt [c]]))) (hd:∀σ H,Pv l.length σ H->D.nx σ H):
 ∃W:Nat->Nat->St->Hp->Prop,(∃m,W 0 m σ H)/\∀i m σ H,W i m σ H->
   ((qu (tx l)).stop i H/\D.nx σ H)\/((qu (tx l)).go i H/\∃N:St->Hp->Prop,(∀σ' H',N σ' H'->∃m',m'<m/\W (i+1) m' σ' H')/\∀x H',(qu (tx l)).yld i H x H'->BJ K 2 (pH (f9 a) (pH (f9 b) BK)) x σ H' λσ2 H2=>tb { D with nx:=N,ct:=N,bk:=D.nx } σ2 H2):=by
 have hz:(tx l).length=l.length:=cV l
 refine⟨λi m σ H=>m=l.length-i/\i<=l.length/\Pv i σ H,⟨l.length,by simp,cU _,h0⟩,?_⟩
 rintro i m σ H ⟨rfl,hi,p⟩
 by_cases hlt:i<l.length
 ·refine .inr ⟨by show i<(tx l).length;omega,Pv (i+1),λσ' H' p'=>⟨l.length-(i+1),by omega,rfl,hlt,p'⟩,?_⟩
  rintro x H' ⟨q,c,hq,rfl,hc,rfl⟩
  exact⟨q,_,rfl,aG.of aA,rfl,_,_,rfl,_,_,rfl,rfl,hs i c σ H q hc p hq⟩
 ·have e:i=l.length:=by omega
  subst e
  exact .inl ⟨by show (tx l).length<=l.length;omega,hd σ H p⟩
end
end L2
namespace L2
open PySem PySem.Spec PyProof.Rows
section
variable {X:Cx}
noncomputable def GU:V->List V->Hp->VK->Prop:=λx vs H Q=>∃l c,x=vt l/\vs=[vt [c]]/\c ∈ l/\∀j:Nat,l[j]?=some c->Q (.int (j:Int)) H
theorem pf:gP X "str.index" GU:=by
 intro pins s σ H x vs v us Q I rx rs h
 obtain⟨l,c,rfl,rfl,hc,q⟩:=h
 obtain⟨t,rfl⟩:=rx
 obtain⟨u,rfl,ru⟩:=eX rs
 obtain⟨t2,rfl⟩:=ru
 have hf:=StrLaws.found_one (tx l) c
 rw [show (tx l).cps.toList=l from rfl,decide_eq_true hc] at hf
 cases ho:Builtin.Str.occurrences (tx l) (tx [c]) 0 (tx l).length 1 with
 | nil =>
   have:(Builtin.Str.occurrences (tx l) ⟨#[c]⟩ 0 (tx l).length 1)=[]:=ho
   rw [this] at hf;cases hf
 | cons i rest =>
   have hi:i ∈ Builtin.Str.occurrences (tx l) ⟨#[c]⟩ 0 (tx l).length 1:=by
    rw [show Builtin.Str.occurrences (tx l) ⟨#[c]⟩ 0 (tx l).length 1=i::rest from ho];exact bO
   have hat:=(StrLaws.subAt_one (tx l) c i).mp (StrLaws.occ_spec _ _ _ _ _ i hi)
   exact call_gives qf (typeIs_str _ _ _) PySem.F.entry_str_index (PySem.F.args_str_index_2 _ _) (gives_str_index (tx l) (tx [c]) t t2 i rest ho) ⟨.int i,H,I.tok _,⟨_,rfl⟩,q i hat⟩
noncomputable def GX(K:Frag):V->V->Hp->VK->Prop:=λx y H Q=>∃p xs i v,x=.ref p/\y=.int i/\aD K H p xs/\0<=i/\dz xs i=some v/\Q v H
theorem J3:Kh X (GX X.K):=by
 intro pins s σ H x y v u Q I rx ry h
 obtain⟨p,xs,i,z,rfl,rfl,hq,h0,he,q⟩:=h
 cases rx
 obtain⟨t,rfl⟩:=ry
 obtain⟨its,r,pl,hz⟩:=I.list hq
 obtain⟨j,h1,h2,h3,h4,h5⟩:=va he
 obtain⟨w,ew,rw'⟩:=r.get h2
 have hl:=r.length
 have hn:=n9
 have hj:i.toNat=j:=by
  rw [seqIndex_of h0 h5] at h1
  exact dS h1
 exact wpAny_getItem_list pl.isList h0 (by omega) (by rw [hj];simpa using ew) ⟨z,H,I,rw',q⟩
end
end L2
namespace L2
open PySem PySem.Spec PyProof.Rows
structure Lj(o:Obj)(es:Array DictEntry)(ep:Nat):Prop where
 ex:o.ExactDict
 da:o.data=.dict es ep
section
variable {prog:Program} {w:World} {A:Around} {E:Value->Shared->Prop} {s:Shared} {o:Obj} {es:Array DictEntry} {ep:Nat} {it d:Addr} {i:Nat}
theorem Lj.typeIs(D:Lj o es ep)(ho:s.heap.get? d=some o):s.TypeIs (.ref d) "dict":=⟨o,ho,D.ex.1⟩
end
section
variable {X:Cx}
end
end L2
namespace L2
open PySem PySem.Spec PyProof.Rows
section
variable {X:Cx}
theorem TX(hc:X.calm=true):dO X (.builtin "min") (λxs H Q=>∃(p:Addr) (ns:List Int),xs=[.ref p]/\aD X.K H p (ns.map V.int)/\ns ≠ []/\∀m,m ∈ ns->(∀a,a ∈ ns->m<=a)->Q (.int m) H):=by
 intro pins s σ H vs us Q I r h
 obtain⟨p,ns,rfl,hp,hne0,q⟩:=h
 obtain⟨u,rfl,ru⟩:=eX r
 cases (show u=Value.ref p from ru)
 obtain⟨its,rv,pl,_⟩:=I.list hp
 have hlen:its.toArray.size=ns.length:=by have:=rv.length;rw [aT] at this;simp [this]
 have hl:=pl.isList
 obtain⟨o,ho,_⟩:=id hl
 have hne:p ≠ s.heap.objs.size:=cG (bj ho)
 have hh:=I.ok.hd hc
 have hpos:0<ns.length:=List.length_pos_iff.mpr hne0
 have W:=(Walks.list (prog:=X.prog) (w:=X.w) (A:=X.A.in1) hh s.heap.objs.size p hne its.toArray)
 rw [hlen] at W
 refine call_min_walk (wpAny_pyIter_list hl ?_)
 refine⟨s.heap.objs.size,_,_,_,_,_,_,rfl,W,⟨⟨_,cM _ rfl,rfl,rfl⟩,hl.push _⟩,λb hb=>?_,hpos,CmpOf.ints_lt (λj=>ns.getD j 0) (λi v hP=>qN rv i v (by simpa using hP)),λv h' tk hP hk=>?_⟩
 ·rcases bE.mp hb with rfl | hb
  ·exact bj (cM _ rfl)
  ·obtain rfl:=bx.mp hb
   exact bj (bP _ ho)
 ·obtain⟨h1,h2⟩:=argBest_lt (λj=>ns.getD j 0) (ns.length-1)
  obtain⟨t,rfl⟩:=qN rv _ v ((List.getElem?_toArray (xs:=its)).symm.trans hP)
  refine⟨.int _,H,I.kept (t':=tk) λb u e=>hk b u (λhb=>absurd (bj e) ((bx.mp hb) ▸ i4 _)) (bP _ e),⟨_,rfl⟩,q _ (getD_mem (by omega)) λa ha=>?_⟩
  obtain⟨j,hj,rfl⟩:=mem_getD ha
  exact h2 j (by omega)
noncomputable def TY(hc:X.calm=true):=(TH (X:=X) hc).or (TX hc)
end
end L2
namespace L2
open PySem PySem.Spec PyProof.Rows
section
variable {X:Cx}
theorem QJ:gP X "list.pop" GN:=QK (X:=X)
end
end L2
namespace L2
open PySem PySem.Spec PyProof.Rows
section
variable {prog:Program} {w:World} {A:Around} {E:Value->Shared->Prop} {s:Shared} {it t:Addr} {i:Nat} {items:Array Value} {x:Value}
structure Uy(z TI TO i1 i2:Addr):Prop where
 a1:TI ≠ z
 a2:TO ≠ z
 a3:i1 ≠ z
 a4:i2 ≠ z
 a5:TI ≠ TO
 a6:TI ≠ i1
 a7:TI ≠ i2
 a8:TO ≠ i1
 a9:TO ≠ i2
 a0:i1 ≠ i2
end
section
variable {X:Cx} {pins:List (Addr × Obj)} {σ:St} {H:Hp} {s:Shared} {h':Heap}
end
section
variable {X:Cx}
theorem zn{n:Nat}{a b:Nat}(h:a ≠ b):n+a ≠ n+b:=by omega
end
end L2
namespace L2
open PySem PySem.Spec PyProof.Rows
section
variable {X:Cx}
noncomputable def S4(ta:TA):TI:=λσ H R=>ta σ H λvs H1=>∃i:Int,vs=[.int i,.int (-1),.int (-1)]/\(-1<=i/\i<2^60)/\R (o4 i (-1) (i+1).toNat) H1
theorem NJ{i:Int}(h1:-1<=i)(h2:i<2^60):Builtin.Range.rangeSize i (-1) (-1)=i+1/\Builtin.Range.small i (-1) (-1)=true:=by
 have e:Builtin.Range.rangeSize i (-1) (-1)=i+1:=by
  unfold Builtin.Range.rangeSize
  rw [if_neg (by decide)]
  split<;>(try simp)<;>omega
 refine⟨e,?_⟩
 unfold Builtin.Range.small
 rw [e]
 simp only [Builtin.Range.rangeFitsLong,fZ,qG,decide_eq_true_eq,beq_iff_eq]
 simp
 omega
variable {tg:Expr}
theorem Oh{a b c:Expr}{ta:TA}{p pos:Pos}(hg:Gl X "range")(hm:X.mg "range" = none)(ha:PA X [a,b,c] ta)(hs:starEach [a,b,c] X.env=(false,eval a X.env)::starEach [b,c] X.env:=by rfl)(hs2:(backTo pos (starEach [b,c] X.env)).any (·.1)=false:=by rfl):
 PI X tg (.Call (.Name "range" p) [a,b,c] [] pos) (S4 ta):=by
 intro pins s σ H R I h
 refine Call_ (iR I hg hm boot_range (m8 (av (ha pos pins s σ H _ I h) λus s1 ⟨vs,H1,I1,r1,q1⟩=>?_) hs hs2))
 obtain⟨i,e,⟨h1,h2⟩,q⟩:=q1
 subst e
 cases r1 with
 | cons r rr =>
   cases rr with
   | cons r' rr =>
     cases rr with
     | cons r'' rr =>
       cases rr
       obtain⟨t,rfl⟩:=r
       obtain⟨t',rfl⟩:=r'
       obtain⟨t'',rfl⟩:=r''
       have z:=NJ h1 h2
       refine call_range_3 (by decide) ?_ (.inl (PyProof.noPylong_small (by omega)))
       refine wpAny_pyIter_range (IsRange.new ..) z.2 ?_
       have I2:ae X pins σ H1 { s1 with heap:=s1.heap.push { cls:=.type "range",data:=.fields #[.int i t,.int (-1) t',.int (-1) t''] },toks:=s1.toks }:=I1.kept λb o e=>bP _ e
       refine⟨(s1.heap.push { cls:=.type "range",data:=.fields #[.int i t,.int (-1) t',.int (-1) t''] }).objs.size,[(s1.heap.push { cls:=.type "range",data:=.fields #[.int i t,.int (-1) t',.int (-1) t''] }).objs.size],_,_,H1,rfl,
        I2.kept (t':=s1.toks) λb o e=>bP _ e,DL _ i (-1) (i+1).toNat,?_,λb hb=>?_,q⟩
       ·have e1:i+((0:Nat):Int)*(-1)=i:=by simp
        have e2:(((i+1).toNat:Nat):Int)-((0:Nat):Int)=Builtin.Range.rangeSize i (-1) (-1):=by rw [z.1];omega
        show IsRangeIter _ _ (i+((0:Nat):Int)*(-1)) ((((i+1).toNat:Nat):Int)-((0:Nat):Int)) (-1)
        rw [e1,e2]
        exact cM _ rfl
       ·have e:b=(s1.heap.push { cls:=.type "range",data:=.fields #[.int i t,.int (-1) t',.int (-1) t''] }).objs.size:=by simpa using hb
        subst e
        exact I2.fpOk (aI _) (I2.hok.fresh (aI _))
end
end L2
namespace L2
open PySem PySem.Spec PyProof.Rows
section
variable {X:Cx}
theorem Qt(l:List Nat)(c:Nat):∀(m k:Nat) (st:Array Nat × Nat),k+m=l.length+1->st.2<=k->st.1.size<=k->
 ((forIn (List.range' k m) st (StrLaws.occBody (tx l) ⟨#[c]⟩ l.length (l.length+1))).run.fst.size=st.1.size+(l.drop k).count c):=by
 intro m
 induction m with
 | zero =>
   intro k st hk _ _
   rw [xM (by omega)]
   rfl
 | succ m ih =>
   intro k st hk h1 h2
   rw [List.range'_succ,List.forIn_cons]
   have hiff:=StrLaws.subAt_one (tx l) c k
   have e1:(tx l).length=l.length:=cV l
   rw [e1] at hiff
   have e2:(⟨#[c]⟩:Str).length=1:=rfl
   by_cases z:l[k]?=some c
   ·have zz:(tx l).cps.toList[k]?=some c:=z
    obtain⟨a1,a2⟩:=hiff.mpr zz
    have hk':k<l.length:=(bh.mp z).1
    have eb:StrLaws.occBody (tx l) ⟨#[c]⟩ l.length (l.length+1) k st=pure (ForInStep.yield (st.fst.push k,k+1)):=by
     unfold StrLaws.occBody
     rw [if_pos ⟨⟨⟨by omega,h1⟩,a1⟩,a2⟩];rfl
    rw [eb,pure_bind]
    show (Id.run (forIn (List.range' (k+1) m) (st.fst.push k,k+1) (StrLaws.occBody (tx l) ⟨#[c]⟩ l.length (l.length+1)))).fst.size=_
    rw [ih (k+1) _ (by omega) (aI _) (by rw [Array.size_push];omega),Array.size_push]
    have ed:l.drop k=c::l.drop (k+1):=by
     rw [Cs hk',(bh.mp z).2]
    rw [ed,List.count_cons_self];omega
   ·have eb:StrLaws.occBody (tx l) ⟨#[c]⟩ l.length (l.length+1) k st=pure (ForInStep.yield (st.fst,st.snd)):=by
     unfold StrLaws.occBody
     rw [if_neg]
     rintro⟨⟨_,a1⟩,a2⟩
     exact z (hiff.mp ⟨a1,a2⟩)
    rw [eb,pure_bind]
    show (Id.run (forIn (List.range' (k+1) m) (st.fst,st.snd) (StrLaws.occBody (tx l) ⟨#[c]⟩ l.length (l.length+1)))).fst.size=_
    rw [ih (k+1) _ (by omega) (by show st.2<=_;omega) (by show st.1.size<=_;omega)]
    by_cases hk':k<l.length
    ·have ed:l.drop k=l[k]::l.drop (k+1):=Cs hk'
     rw [ed,List.count_cons_of_ne (λe=>z (by rw [bq hk',e]))]
    ·rw [xM (by omega),xM (by omega)]
noncomputable def NT:V->List V->Hp->VK->Prop:=λx vs H Q=>∃l c,x=vt l/\vs=[vt [c]]/\Q (.int ((l.count c:Nat):Int)) H
theorem QM:gP X "str.count" NT:=by
 intro pins s σ H x vs v us Q I rx rs h
 obtain⟨l,c,rfl,rfl,q⟩:=h
 obtain⟨t,rfl⟩:=rx
 obtain⟨u,rfl,ru⟩:=eX rs
 obtain⟨t2,rfl⟩:=ru
 have g:=gives_str_count (tx l) (tx [c]) t t2
 have e:(Builtin.Str.occurrences (tx l) (tx [c]) 0 (tx l).length ((tx l).length+1)).length=l.count c:=by
  rw [StrLaws.occ_eq,cV]
  have:=Qt l c (l.length+1) 0 (#[],0) (by omega) (aI _) (aI _)
  rw [nX] at this
  rw [kT]
  rw [show ((#[],0):Array Nat × Nat).1.size=0 from rfl,Nat.zero_add] at this
  exact this
 rw [e] at g
 exact call_gives PySem.F.slot_str_count (typeIs_str _ _ _) PySem.F.entry_str_count (PySem.F.args_str_count_2 _ _) g ⟨.int _,H,I.tok _,⟨_,rfl⟩,q⟩
end
end L2
namespace L2
open PySem PySem.Spec PyProof.Rows
section
variable {X:Cx}
end
end L2
namespace L2
open PySem PySem.Spec PyProof.Rows
section
variable {X:Cx}
end
end L2
namespace L2
open PySem PySem.Spec PyProof.Rows
end L2
namespace L2
open PySem PySem.Spec PyProof.Rows
section
variable {X:Cx}
end
end L2
namespace L2
open PySem PySem.Spec PyProof.Rows
structure FunD(K:Frag)(x qual:Str)(st:Stmt)(f:Addr)(fd:FuncData)(D:Addr):Prop where
 ex:∃(oc:Value) (od:Option Addr) (kV doc pm:Value) (an:Option Addr) (cdv ct:Value) (osl:Array (Option Value)),
  fd=fnOf x qual (fu st) (dJ st) (ax st) (.ref D) kV doc pm an cdv ct/\K.lookup f=some ⟨oc,od,.func fd,osl⟩/\codeIn K cdv qual=true
 kp:keepIn K (.ref f)=true
section
variable {P:Program} {w:World} {K:Frag} {mg:Str->Option Value} {base:Heap}
theorem FunD.okx{x qual:Str}{st:Stmt}{f D:Addr}{fd:FuncData}{N ps:List Str}{k:Nat}{sp:Sp}(F:FunD K x qual st f fd D)(S:aF N ps (ax st))(len:∀vs H Q E,sp vs H Q E->vs.length=ps.length)
 (hbody:∀(cdv:Value) (A:Around) (outer:List Env) (s:Shared) (H:Hp) (vs:List V) (Q:VK) (E:XK),cb k (A.deeper (envOfC qual (ax st) s.heap.objs.size f cdv))->sp vs H Q E->
  ∃t,eJ (iD (ay P w) P w K mg base N qual (ax st) f cdv A outer s H E) (dJ st) t/\t { nx:=λ_ H'=>Q .non H',rt:=Q } (start N vs) H):ar P w K mg base (ay P w) (k+1) f fd ps sp:=by
 obtain⟨oc,od,kV,doc,pm,an,cdv,ct,osl,rfl,lk,hcd⟩:=F.ex
 refine sI lk hcd S len λA outer s H vs Q E hr hsp=>?_
 exact hbody cdv A outer s H vs Q E hr hsp
theorem FunD.binds{x qual:Str}{st:Stmt}{f D:Addr}{fd:FuncData}{ps:List Str}{ds:List Value}{oc':Value}{od':Option Addr}{items:Array Value}{n:Nat}{sl':Array (Option Value)}(F:FunD K x qual st f fd D)(ld:K.lookup D=some ⟨oc',od',.seq items n,sl'⟩)
 (h:∀(kV doc pm:Value) (an:Option Addr) (cdv ct:Value) (us:List Value),(us++ds).length=ps.length->(∃k,bindArgs (fnOf x qual (fu st) (dJ st) (ax st) (.ref D) kV doc pm an cdv ct) ⟨us,[]⟩=seqItems? (.ref D) >>= k/\k (some items)=pure (ps.zip (us++ds)))\/bindArgs (fnOf x qual (fu st) (dJ st) (ax st) (.ref D) kV doc pm an cdv ct) ⟨us,[]⟩=pure (ps.zip (us++ds))):d9 K fd ps ds:=by
 obtain⟨oc,od,kV,doc,pm,an,cdv,ct,osl,rfl,lk,hcd⟩:=F.ex
 intro s us KX hl
 rcases h kV doc pm an cdv ct us hl with⟨k,h1,h2⟩ | h1
 ·exact BindsTo.of_defaults (T:=D) rfl (KX _ _ ld) rfl h1 h2
 ·exact .of_eq h1
theorem sH{x qual:Str}{st:Stmt}{f D:Addr}{oc:Value}{od an:Option Addr}{osl:Array (Option Value)}{kV doc pm cdv ct:Value}(l:K.lookup f=some ⟨oc,od,.func (fnOf x qual (fu st) (dJ st) (ax st) (.ref D) kV doc pm an cdv ct),osl⟩)
 (c:codeIn K cdv qual=true) (k:keepIn K (.ref f)=true):FunD K x qual st f (fnOf x qual (fu st) (dJ st) (ax st) (.ref D) kV doc pm an cdv ct) D:=⟨⟨oc,od,kV,doc,pm,an,cdv,ct,osl,rfl,l,c⟩,k⟩
end
section
variable {X:Cx}
end
end L2
namespace L2
open PySem PySem.Spec PyProof.Rows
section
variable {X:Cx} {C:Addr} {x:Str} {body:List Stmt} {b₀:Stmt} {suite:List Stmt} {np hpos pos:Pos} {tb:nN->(Value->Shared->Prop)->XS->TS} {th:nN->Value->TS} {bmB:List Value} {newId:String}
end
end L2
namespace L2
open PySem PySem.Spec PyProof.Rows
noncomputable def put(A' H A:Hp):Hp:=λb=>match A' b with
 | some o=>some o
 | none=>match A b with
   | some _=>none
   | none=>H b
theorem fN{A' H A:Hp}{b:Addr}{o:HO}(h:A' b=some o):put A' H A b=some o:=by unfold put;rw [h]
theorem kq{A' H A:Hp}{b:Addr}(h:A' b=none)(h2:A b=none):put A' H A b=H b:=by unfold put;rw [h,h2]
structure xp(A H:Hp):Prop where
 sub:ak A H
 tup:∀b xs,H b=some (.tup xs)->A b=some (.tup xs)
 own:∀a b o,H b=some (.own a)->A a=some o->A b=some (.own a)
 wno:∀a b o,H a=some o->A a=none->(∀xs,o ≠ .lst xs)->H b=some (.own a)->A b=none
structure j5(A A' H:Hp):Prop where
 free:∀b o,H b=some o->A b=none->A' b=none
 tup:∀b xs,A b=some (.tup xs)->A' b=some (.tup xs)
section
variable {P:Program} {w:World} {K:Frag} {mg:Str->Option Value} {base:Heap} {A A' H:Hp} {h h':Heap}
theorem xp.none(p:xp A H){b:Addr}(e:H b=none):A b=none:=by
 cases q:A b with
 | none=>rfl
 | some o=>rw [p.sub b o q] at e;cases e
theorem xp.hok(p:xp A H)(x:bZ P w H h):bZ P w A h:=λa o e =>
 (x a o (p.sub a o e)).stay (λ_ _ _ q=>q) (λb q=>p.own a b o q e) p.tup
theorem j5.sub(x:j5 A A' H):ak A' (put A' H A):=λb o e=>fN e
theorem j5.rest(x:j5 A A' H){b:Addr}{o:HO}(e:H b=some o)(n:A b=none):put A' H A b=some o:=by
 rw [kq (x.free b o e n) n];exact e
theorem K5(x:bZ P w H h){fs:List Addr}(u:Un fs [] A A' h h'):j5 A A' H:=⟨λb o e n=>by
 obtain⟨ob,hob⟩:=(x b o e).there
 exact u.free b ob hob n (by simp),u.tups⟩
end
end L2
namespace L2
open PySem PySem.Spec PyProof.Rows
section
variable {X:Cx}
end
end L2
namespace L2
open PySem PySem.Spec PyProof.Rows
noncomputable def kF:HO->Bool
 | .ins ..=>true
 | .frz _ u=>kF u
 | _=>false
section
variable {P:Program} {w:World} {K:Frag} {mg:Str->Option Value} {base:Heap} {A A' H H':Hp} {h h':Heap}
theorem cc.swap{a:Addr}:∀{o:HO},cc P w H h a o->kF o=false->(∀b xs,H b=some (.tup xs)->H' b=some (.tup xs))->cc P w H' h a o
 | .lst _,x,_,_=>x
 | .tup _,x,_,_=>x
 | .dK _,x,_,_=>x
 | .dT _,x,_,ht=>by
   obtain⟨z,y,xs,r,ob,es,ep,e,c⟩:=x
   exact⟨z,y,xs,Paired.mapP r λp q z=>⟨z.1,ht _ _ z.2.1,z.2.2⟩,ob,es,ep,e,c⟩
 | .set _ _,x,_,_=>x
 | .ins ..,_,h,_=>by cases h
 | .own _,x,_,_=>x
 | .xd _,x,_,_=>x
 | .rng _ _,x,_,_=>x
 | .frz _ u,x,h,ht=>⟨x.1,cc.swap (o:=u) x.2 h ht⟩
 | .tbl _,x,_,_=>x
 | .met _ _,x,_,_=>x
 | .ext _,x,_,_=>x
noncomputable def dI(H:Hp):Hp:=λb=>match H b with
 | some (.own _)=>none
 | o=>o
theorem Qw{b:Addr}{xs:List V}(h:H b=some (.tup xs)):dI H b=some (.tup xs):=by unfold dI;rw [h]
theorem mY{b:Addr}{o:HO}(h:dI H b=some o):H b=some o:=by
 unfold dI at h
 cases q:H b with
 | none=>rw [q] at h;cases h
 | some u=>rw [q] at h;cases u<;>first | exact h | cases h
theorem rV{b x:Addr}(h:dI H b=some (.own x)):False:=by
 have:=mY h
 unfold dI at h
 rw [this] at h;cases h
theorem cc.stay3{a:Addr}{o:HO}(x:cc P w H h a o)(k:∀u,h.get? a=some u->h'.get? a=some u)(ki:kF o=true->∀b u,H b=some (.own a)->h.get? b=some u->h'.get? b=some u)
 (ho:kF o=true->∀b,H b=some (.own a)->H' b=some (.own a)) (ht:∀b xs,H b=some (.tup xs)->H' b=some (.tup xs)):cc P w H' h' a o:=by
 by_cases z:kF o=true
 ·exact x.stay (λb u hb q=>by
   rcases hb with rfl | hb
   ·exact k u q
   ·exact ki z b u hb q) (ho z) ht
 ·have z':kF o=false:=by simpa using z
  have x2:cc P w (dI H) h a o:=x.swap z' λb xs e=>Qw e
  have x3:cc P w (dI H) h' a o:=x2.stay (λb u hb q=>by
   rcases hb with rfl | hb
   ·exact k u q
   ·exact(rV hb).elim) (λb q=>q) λb xs q=>q
  exact x3.swap z' λb xs e=>ht b xs (mY e)
structure jR(A H:Hp):Prop where
 sub:ak A H
 tup:∀b xs,H b=some (.tup xs)->A b=some (.tup xs)
 own:∀a b o,kF o=true->H b=some (.own a)->A a=some o->A b=some (.own a)
 wno:∀a b o,kF o=true->H a=some o->A a=none->H b=some (.own a)->A b=none
noncomputable def frmP(sp:Sp):Sp:=λvs H Q E=>∃A,jR A H/\sp vs A (λv A'=>j5 A A' H->Q v (put A' H A)) (λc x A'=>j5 A A' H->E c x (put A' H A))
theorem jR.none(p:jR A H){b:Addr}(e:H b=none):A b=none:=by
 cases q:A b with
 | none=>rfl
 | some o=>rw [p.sub b o q] at e;cases e
theorem jR.hok(p:jR A H)(x:bZ P w H h):bZ P w A h:=λa o e =>
 (x a o (p.sub a o e)).stay3 (λ_ q=>q) (λ_ _ _ _ q=>q) (λi b q=>p.own a b o i q e) p.tup
theorem DH(p:jR A H)(x:bZ P w H h){fs:List Addr}(u:Un fs [] A A' h h'):Un fs [] H (put A' H A) h h' where
 keep:=λb o q n hb _=>u.keep b o q (p.none n) hb (by simp)
 slot:=λb o q n hb _=>u.slot b o q (p.none n) hb (by simp)
 free:=λb o q n _=>by rw [kq (u.free b o q (p.none n) (by simp)) (p.none n)];exact n
 there:=λb o q _=>u.there b o q (by simp)
 tups:=λb xs q=>fN (u.tups b xs (p.tup b xs q))
 frzs:=λb o v q=>by
  cases e:A b with
  | some o' =>
    have:=p.sub b o' e
    rw [q] at this;cases this
    exact fN (u.frzs b o v e)
  | none =>
    obtain⟨ob,hob⟩:∃ob,h.get? b=some ob:=by obtain⟨e1,_⟩:=x b _ q;exact⟨_,e1⟩
    rw [kq (u.free b ob hob e (by simp)) e];exact q
 tbls:=λb ps q=>by
  cases e:A b with
  | some o' =>
    have:=p.sub b o' e
    rw [q] at this;cases this
    obtain⟨more,hm⟩:=u.tbls b ps e
    exact⟨more,fN hm⟩
  | none =>
    have hob:h.get? b=some { cls:=.none,data:=.fields ps }:=x b _ q
    exact⟨#[],by rw [kq (u.free b _ hob e (by simp)) e,q];simp⟩
theorem IQ(p:jR A H)(x:bZ P w H h){fs:List Addr}(hfs:∀b ∈ fs,H b=none)(u:Un fs [] A A' h h')(y:bZ P w A' h'):bZ P w (put A' H A) h':=λa o e=>by
 have back:∀b v,H b=some v->A b=none->put A' H A b=some v:=λb v q n=>by
  obtain⟨ob,hob⟩:=(x b v q).there
  rw [kq (u.free b ob hob n (by simp)) n];exact q
 cases q:A' a with
 | some o' =>
   rw [fN q] at e
   cases e
   exact(y a o q).stay (λ_ _ _ z=>z) (λb z=>fN z) λb xs z=>fN z
 | none =>
   cases q2:A a with
   | some o'=>unfold L2.put at e;rw [q,q2] at e;cases e
   | none =>
     rw [kq q q2] at e
     have kp:∀b v',H b=some v'->A b=none->∀v,h.get? b=some v->h'.get? b=some v:=λb v' hv nb v z=>u.keep b v z nb (λhf=>by rw [hfs b hf] at hv;cases hv) (by simp)
     exact(x a o e).stay3 (λv z=>kp a _ e q2 v z) (λi b v hb z=>kp b _ hb (p.wno a b o i e q2 hb) v z) (λi b z=>back b _ z (p.wno a b o i e q2 z)) λb xs z=>fN (u.tups b xs (p.tup b xs z))
theorem ar.frmP{k:Nat}{f:Addr}{fd:FuncData}{ps:List Str}{sp:Sp}(F:ar P w K mg base (ay P w) k f fd ps sp):ar P w K mg base (ay P w) k f fd ps (frmP sp) where
 len:=λvs H Q E ⟨A,_,h⟩=>F.len _ _ _ _ h
 run:=λAr outer s H args us vs Q E hr he hb hv ⟨A,p,h⟩=>by
  have he':j2 P w K mg base Ar outer s A:=⟨he.frames,he.mod,λb o e=>⟨(he.bs b o e).1,p.none (he.bs b o e).2⟩,he.bsz,he.funs,λb hb=>p.none (he.frf b hb),p.hok he.hok,he.bare⟩
  refine codeAny_mono (F.run Ar outer s A args us vs _ _ hr he' hb hv h) λr s' hq=>?_
  cases r with
  | error e =>
    obtain⟨a,C,A',rfl,y,hE⟩:=hq
    refine⟨a,C,put A' H A,rfl,⟨y.os,y.bare,DH p he.hok y.un,IQ p he.hok he.frf y.un y.hok,y.new,?_⟩,hE (K5 he.hok y.un)⟩
    obtain⟨B,a0,hf,k1,k2,k3⟩:=y.ex
    refine⟨B,a0,hf,λb o e n hb=>k1 b o e (p.none n) hb,λb o e=>?_,k3⟩
    cases q:A' b with
    | some o'=>exact k2 b o' q
    | none =>
      cases q2:A b with
      | some o'=>unfold L2.put at e;rw [q,q2] at e;cases e
      | none =>
        rw [kq q q2] at e
        obtain⟨ob,hob⟩:=(he.hok b o e).there
        exact k3 b ob hob λhf=>by rw [he.frf b hf] at e;cases e
  | ok fl =>
    cases fl with
    | ret u =>
      obtain⟨v,A',h1,h2,h3,h4,h5,h6⟩:=hq
      exact⟨v,put A' H A,h1,h2,DH p he.hok h3,IQ p he.hok he.frf h3 h4,h5,h6 (K5 he.hok h3)⟩
    | next=>exact False.elim hq
    | brk=>exact False.elim hq
    | cont=>exact False.elim hq
open Classical in
noncomputable def mS(S:List Addr)(H:Hp):Hp:=λb=>if b ∈ S\/∃a,a ∈ S/\H b=some (.own a) then none else H b
theorem gG(S:List Addr)(H:Hp):ak (mS S H) H:=λb o e=>by
 unfold mS at e
 split at e
 ·cases e
 ·exact e
theorem iA{S:List Addr}{b:Addr}(h:b ∈ S):mS S H b=none:=by unfold mS;rw [if_pos (.inl h)]
theorem cm{S:List Addr}{b:Addr}{o:HO}(e:H b=some o)(h:b ∉ S)(n:∀x,o ≠ .own x):mS S H b=some o:=by
 unfold mS
 rw [if_neg ?_]
 ·exact e
 ·rintro(z | ⟨a,_,z⟩)
  ·exact h z
  ·rw [e] at z;exact n a (dS z)
theorem Rr{S:List Addr}{b a:Addr}(e:H b=some (.own a))(h:b ∉ S)(n:a ∉ S):mS S H b=some (.own a):=by
 unfold mS
 rw [if_neg ?_]
 ·exact e
 ·rintro(z | ⟨a',z1,z⟩)
  ·exact h z
  ·rw [e] at z;cases z;exact n z1
noncomputable def Lv(S:List Addr)(H:Hp):Prop:=∀a,a ∈ S->∃o,H a=some o/\(∀xs,o ≠ .tup xs)/\∀x,o ≠ .own x
theorem pB{S:List Addr}(h:Lv S H):jR (mS S H) H where
 sub:=gG S H
 tup:=λb xs e=>cm e (λz=>by
  obtain⟨o,h1,h2,_⟩:=h b z
  rw [e] at h1;cases h1
  exact h2 xs rfl) (λx z=>nomatch z)
 own:=λa b o _ e ea=>Rr e (λz=>by
  obtain⟨o,h1,_,h3⟩:=h b z
  rw [e] at h1;cases h1
  exact h3 a rfl) λz=>by rw [iA z] at ea;cases ea
 wno:=λa b o i e n hb=>by
  have ha:a ∈ S:=by
   refine Classical.byContradiction λz=>?_
   rw [cm e z (λx y=>by rw [y] at i;cases i)] at n
   cases n
  unfold mS
  rw [if_pos (.inr ⟨a,ha,hb⟩)]
theorem pz{S:List Addr}(h:Lv S H)(x:j5 (mS S H) A' H):(∀b,b ∈ S->put A' H (mS S H) b=H b)/\ak A' (put A' H (mS S H)) :=
 ⟨λb hb=>by
  obtain⟨o,h1,_⟩:=h b hb
  exact kq (x.free b o h1 (iA hb)) (iA hb),λb o e=>fN e⟩
theorem Bx{S:List Addr}(h:Lv S H)(x:j5 (mS S H) A' H):ak (dI A') (mS S (put A' H (mS S H))):=λb o e=>by
 have e':=mY e
 refine cm (fN e') (λz=>?_) (λy z=>?_)
 ·obtain⟨o',h1,_⟩:=h b z
  rw [x.free b o' h1 (iA z)] at e';cases e'
 ·subst z;exact rV e
theorem Rp{S:List Addr}{a:Addr}{o:HO}(ha:a ∈ S):mS S (ai H a o)=mS S H:=by
 funext b
 by_cases z:b=a
 ·rw [z,iA ha,iA ha]
 ·unfold mS
  rw [au z]
theorem Rq{S:List Addr}(s:∀b o,H b=some o->b ∉ S->(∀x,o ≠ .own x)->H' b=some o):ak (dI (mS S H)) (mS S H'):=λb o e=>by
 have e':=mY e
 have hb:b ∉ S:=λz=>by rw [iA z] at e';cases e'
 have hn:∀x,o ≠ .own x:=λx z=>by subst z;exact rV e
 exact cm (s b o (gG S H b o e') hb hn) hb hn
end
noncomputable def mB(K:Frag)(H:Hp):Nat->V->V->Prop
 | 0,u,v=>u=v/\(fo u=true\/∃p,u=.ref p)
 | n+1,u,v=>mB K H n u v\/∃p q xs ys,u=.ref p/\v=.ref q/\((aG K H p xs/\aG K H q ys)\/(aD K H p xs/\aD K H q ys))/\xs.length=ys.length/\∀(i:Nat) u' v',xs[i]?=some u'->ys[i]?=some v'->mB K H n u' v'
section
variable {X:Cx}
theorem K4(n:Nat):(List.range n).all (λ_=>true)=true:=by simp
theorem nv{n:Nat}{s:Shared}{A:Around}{H:Hp}{xs ys:List V}{us ws:List Value}(r:aB xs us)(q:aB ys ws)(hz:xs.length=ys.length)
 (hi:∀(i:Nat) u v,xs[i]?=some u->ys[i]?=some v->mB X.K H n u v) (ih:∀u v u' v',aL u u'->aL v v'->mB X.K H n u v->SeqAt.EqAt A s u' v' true) (j:Nat) (h1:j<us.toArray.size) (h2:j<ws.toArray.size):SeqAt.EqAt A s us.toArray[j] ws.toArray[j] true:=by
 have l1:=r.length
 have l2:=q.length
 have h1':j<xs.length:=by simpa [l1] using h1
 have h2':j<ys.length:=by simpa [l2] using h2
 obtain⟨u,hu,ru⟩:=r.get (i:=j) (x:=xs[j]) (bq h1')
 obtain⟨v,hv,rv⟩:=q.get (i:=j) (x:=ys[j]) (bq h2')
 have e1:us.toArray[j]=u:=by
  obtain⟨_,z⟩:=bh.mp hu;simpa using z
 have e2:ws.toArray[j]=v:=by
  obtain⟨_,z⟩:=bh.mp hv;simpa using z
 rw [e1,e2]
 exact ih _ _ _ _ ru rv (hi j _ _ (bq h1') (bq h2'))
theorem lS{pins:List (Addr × Obj)}{s:Shared}{σ:St}{H:Hp}(I:ae X pins σ H s):∀(n:Nat) (A:Around) (u v:V) (u' v':Value),A.units+n<cLine->aL u u'->aL v v'->mB X.K H n u v->SeqAt.EqAt A s u' v' true
 | 0,A,u,v,u',v',hu,ru,rv,h=>by
   obtain⟨rfl,hf⟩:=h
   rcases hf with hf | ⟨p,rfl⟩
   ·have h1:=BQ (A:=A) (s:=s) ru rv hf hf
    have h2:=Je (xs:=[u]) (by simp [hf])
    have h3:eS u u=true:=by simpa [gh] using h2
    rw [h3] at h1;exact h1
   ·cases (show u'=Value.ref p from ru)
    cases (show v'=Value.ref p from rv)
    exact SeqAt.EqAt.same _
 | n+1,A,u,v,u',v',hu,ru,rv,h=>by
   rcases h with h | ⟨p,q,xs,ys,rfl,rfl,hh,hz,hi⟩
   ·exact lS I n A u v u' v' (by omega) ru rv h
   cases (show u'=Value.ref p from ru)
   cases (show v'=Value.ref q from rv)
   by_cases z:p=q
   ·subst z;exact SeqAt.EqAt.same _
   have hu1:A.in1.units+n<cLine:=by rw [units_in1];omega
   rcases hh with⟨h1,h2⟩ | ⟨h1,h2⟩
   ·obtain⟨t1,r1,k1,_⟩:=I.tuple h1
    obtain⟨t2,r2,k2,_⟩:=I.tuple h2
    have m1:=r1.length
    have m2:=r2.length
    have hR:=SeqAt.RcAt.tuples (A:=A) (e:=λ_=>true) k1 k2 (by omega) (nv r1 r2 hz hi λa b a' b' ra rb hab=>lS I n A.in1 a b a' b' hu1 ra rb hab)
    have e:((List.range (min t1.toArray.size t2.toArray.size)).all (λ_=>true) && t1.toArray.size == t2.toArray.size)=true:=by
     simp [← m1,← m2,hz]
    rw [e] at hR
    exact SeqAt.EqAt.of_refs z hR
   ·obtain⟨t1,r1,k1,_⟩:=I.list h1
    obtain⟨t2,r2,k2,_⟩:=I.list h2
    have m1:=r1.length
    have m2:=r2.length
    have hR:=SeqAt.RcAt.lists (A:=A) (e:=λ_=>true) k1.isList k2.isList (by simp [← m1,← m2,hz]) (by omega) (nv r1 r2 hz hi λa b a' b' ra rb hab=>lS I n A.in1 a b a' b' hu1 ra rb hab)
    rw [K4] at hR
    exact SeqAt.EqAt.of_refs z hR
noncomputable def Ha(K:Frag)(b:Bool):R2:=λx y H Q=>∃p q xs ys,x=.ref p/\y=.ref q/\((aG K H p xs/\aG K H q ys)\/(aD K H p xs/\aD K H q ys))/\xs.length=ys.length/\(∀(i:Nat) u' v',xs[i]?=some u'->ys[i]?=some v'->mB K H 3 u' v')/\Q (.bl b) H
theorem P9(hu:X.A.units+9<cLine):bw X (compareOp .Eq) (Ha X.K true):=by
 intro pins s σ H x y v u Q I rx ry h
 obtain⟨p,q,xs,ys,rfl,rfl,hh,hz,hi,qq⟩:=h
 cases (show v=Value.ref p from rx)
 cases (show u=Value.ref q from ry)
 have hu1:X.A.in1.units+3<cLine:=by rw [units_in1];omega
 rcases hh with⟨h1,h2⟩ | ⟨h1,h2⟩
 ·obtain⟨t1,r1,k1,_⟩:=I.tuple h1
  obtain⟨t2,r2,k2,_⟩:=I.tuple h2
  have m1:=r1.length
  have m2:=r2.length
  refine SeqAt.eq_tupleAt (e:=λ_=>true) k1 k2 (by omega) (nv r1 r2 hz hi λa b a' b' ra rb hab=>lS I 3 X.A.in1 a b a' b' hu1 ra rb hab) ⟨.bl true,H,I,?_,qq⟩
  show Value.bool _=Value.bool true
  congr 1
  simp [← m1,← m2,hz]
 ·obtain⟨t1,r1,k1,_⟩:=I.list h1
  obtain⟨t2,r2,k2,_⟩:=I.list h2
  have m1:=r1.length
  have m2:=r2.length
  refine SeqAt.eq_listAt (e:=λ_=>true) k1.isList k2.isList (by simp [← m1,← m2,hz]) (by omega) (nv r1 r2 hz hi λa b a' b' ra rb hab=>lS I 3 X.A.in1 a b a' b' hu1 ra rb hab) ⟨.bl true,H,I,?_,qq⟩
  show Value.bool _=Value.bool true
  rw [K4]
theorem OT(hu:X.A.units+9<cLine):bw X (compareOp .NotEq) (Ha X.K false):=by
 intro pins s σ H x y v u Q I rx ry h
 obtain⟨p,q,xs,ys,rfl,rfl,hh,hz,hi,qq⟩:=h
 cases (show v=Value.ref p from rx)
 cases (show u=Value.ref q from ry)
 have hu1:X.A.in1.units+3<cLine:=by rw [units_in1];omega
 rcases hh with⟨h1,h2⟩ | ⟨h1,h2⟩
 ·obtain⟨t1,r1,k1,_⟩:=I.tuple h1
  obtain⟨t2,r2,k2,_⟩:=I.tuple h2
  have m1:=r1.length
  have m2:=r2.length
  refine SeqAt.RcNeAt.tuples (e:=λ_=>true) k1 k2 (by omega) (nv r1 r2 hz hi λa b a' b' ra rb hab=>lS I 3 X.A.in1 a b a' b' hu1 ra rb hab) X.prog X.w X.xe _ ⟨.bl false,H,I,?_,qq⟩
  show Value.bool _=Value.bool false
  congr 1
  simp [← m1,← m2,hz]
 ·obtain⟨t1,r1,k1,_⟩:=I.list h1
  obtain⟨t2,r2,k2,_⟩:=I.list h2
  have m1:=r1.length
  have m2:=r2.length
  refine SeqAt.RcNeAt.lists (e:=λ_=>true) k1.isList k2.isList (by simp [← m1,← m2,hz]) (by omega) (nv r1 r2 hz hi λa b a' b' ra rb hab=>lS I 3 X.A.in1 a b a' b' hu1 ra rb hab) X.prog X.w X.xe _ ⟨.bl false,H,I,?_,qq⟩
  show Value.bool _=Value.bool false
  congr 1
  simp
theorem gI{A:Around}{k:Nat}(hr:cb k A):A.units+9<cLine:=xD (Nat.add_le_add_left (by decide:9<=64) _) hr.units
noncomputable def I0(hu:X.A.units+9<cLine):=(dR (X:=X) (by omega)).or (P9 hu)
noncomputable def ir(hu:X.A.units+9<cLine):=(fP (X:=X) (by omega)).or (OT hu)
theorem ND(l:List Nat)(u:Tok):Txt.sliceBy (tx l) none none (-1,u)=tx l.reverse:=by
 have h:=step_rev_list (tx l) u
 have hl:(tx l).length=l.length:=cV l
 have e:(Txt.sliceBy (tx l) none none (-1,u)).cps.toList=l.reverse:=by
  rw [h,hl]
  refine jt λi=>?_
  by_cases hi:i<l.length
  ·rw [bS,qp hi,Cq hi]
   have:l.length-1-i<l.length:=by omega
   simp [tx,Array.getD,this]
  ·rw [fe (by simp;omega),fe (by simp;omega)]
 generalize Txt.sliceBy (tx l) none none (-1,u)=z at e
 obtain⟨c⟩:=z
 show (⟨c⟩:Str)=⟨l.reverse.toArray⟩
 congr 1
 rw [← e]
variable {e st:Expr} {te tst:TE} {pos p2:Pos}
noncomputable def LU(te tst:TE):TE:=λσ H Q=>te σ H λx H1=>tst σ H1 λy H2=>∃l,x=vt l/\y=.int (-1)/\l.length<=sizeLine/\Q (vt l.reverse) H2
theorem Ov(he:PE X e te)(hst:PE X st tst):PE X (.Subscript e (.Slice none none (some st) p2) pos) (LU te tst):=by
 intro pins s σ H Q I h
 refine Subscript_ (av (he pins s σ H _ I h) λv s1 ⟨x,H1,I1,r1,q1⟩=>?_)
 refine wpAny_Slice ?_
 rw [evalPart_none]
 refine wpAny_pure (wpAny_pure ?_)
 rw [evalPart_some]
 refine av (hst pins s1 σ H1 _ I1 q1) λvy s2 ⟨y,H2,I2,r2,l,ex,ey,hz,q⟩=>?_
 subst ex ey
 obtain⟨t1,rfl⟩:=r1
 obtain⟨t2,rfl⟩:=r2
 have I4:ae X pins σ H2 { s2 with heap:=s2.heap.push { cls:=.type "slice",data:=.fields #[.none,.none,.int (-1) t2] } }:=I2.kept (t':=s2.toks) λb ob q=>bP _ q
 show wpAny (model X.prog X.w) X.A (subscriptTail e (.Slice none none (some st) p2) (.str (tx l) t1) (.ref s2.heap.objs.size)) (EP X pins σ Q) X.xe { s2 with heap:=s2.heap.push { cls:=.type "slice",data:=.fields #[.none,.none,.int (-1) t2] } }
 have hl:(tx l).length<=sizeLine:=by rw [cV];exact hz
 refine tail_any (ops:=[.ref s2.heap.objs.size,.str (tx l) t1]) (typeIs_str _ _ _) F.slot_str_getitem.lookup (wpAny_getItem_str_slice (l:=none) (u:=none) (st:=some (-1,t2)) ⟨_,cM _ rfl,rfl,rfl⟩ rfl (post_val_or_str ⟨c7 (Txt.sliceBy_le (tx l) _ _ (-1,t2) (show (-1:Int) ≠ 0 by decide)) hl,λt' c=>⟨vt l.reverse,H2,I4.tok c,?_,q⟩⟩)) (by with_unfolding_all rfl)
 show aL (vt l.reverse) (Value.str (Txt.sliceBy (tx l) none none (-1,t2)) t')
 rw [ND]
 exact⟨t',rfl⟩
end
end L2
namespace L2
open PySem PySem.Spec PyProof.Rows
section
variable {X:Cx} {P:Program} {w:World} {k:Nat} {f C:Addr} {fd:FuncData} {ps:List Str} {sp:Sp} {dvs:List V} {ds:List Value} {Φ:XS} {m:Str} {apos pos:Pos} {o e:Expr} {es:List Expr} {t:TA} {ta:TE}
end
end L2
namespace L2
open PySem PySem.Spec PyProof.Rows
section
variable {X:Cx} {o e f:Expr} {apos cpos:Pos} {td ty tx:TE}
end
end L2
namespace L2
open PySem PySem.Spec PyProof.Rows
theorem Jj{P:Program}{w:World}{A:Around}{it:Addr}{fp:List Addr}{n:Nat}{Pv:Nat->Value->Prop}{St:Nat->Heap->Prop}(D:Draws P w A it fp n Pv St):
 Draws P w A it fp (n+1) (λi v=>Pv (i-1) v) (λi h=>1<=i/\St (i-1) h) where
 live:=λi h st=>D.live _ h st.2
 frame:=λi h h' st k=>⟨st.1,D.frame _ h h' st.2 k⟩
 item:=λi s Q E hi st k=>D.item (i-1) s Q E (by have:=st.1;omega) st.2 λx h' tk px st' sb=>k x h' tk px ⟨by omega,by rw [show i+1-1=i-1+1 by have:=st.1;omega];exact st'⟩ sb
 done:=λs Q E st k=>D.done s Q E (by have:=st.2;simpa using this) k
noncomputable def qt(z:Str):It:=⟨λi _=>i<z.length,λi H x H'=>∃p c,H p=none/\H'=ai H p (.tup [.int ((i+1:Nat):Int),.str ⟨#[c]⟩])/\z.cps.toList[i]?=some c/\x=.ref p,λi _=>z.length<=i⟩
theorem LN{P:Program}{w:World}{K:Frag}{elts:List Expr}{k}{tpos:Pos}{ty:String}(e it:Addr)(z:Str)(t:Tok)(hei:e ≠ it)
 (D:∀A:Around,A.handled=none->Draws P w A it [it] z.cps.size (λi v=>∃c u,z.cps[i]?=some c/\v=.str ⟨#[c]⟩ u) (λi h=>h.IsStrIter it ty z t i)):
 jQ P w K (.Tuple elts k tpos) (qt z) [e,it] e (λi h=>(∃old,IsEnum h e it ((i+1:Nat):Int) old)/\h.IsStrIter it ty z t i/\i<=z.cps.size) where
 mem:=by simp
 obj:=λi h st b hb=>by
  obtain⟨⟨old,he⟩,⟨o,ho,_,hd⟩,_⟩:=st
  rcases bE.mp hb with q | q
  ·subst q;exact⟨_,he,λv q=>by cases q⟩
  ·have q:=bx.mp q
   subst q;exact⟨o,ho,λv q=>by rw [hd] at q;cases q⟩
 keep:=λi h h' st kk=>by
  obtain⟨⟨old,he⟩,⟨o,ho,r⟩,hle⟩:=st
  exact⟨⟨old,kk e (by simp) _ he⟩,⟨o,kk it (by simp) o ho,r⟩,hle⟩
 item:=by
  intro X hP hw hK hc i pins s σ H E I hf st hg
  subst hP hw hK
  obtain⟨⟨old,he⟩,hit,_⟩:=st
  have hg':i<z.cps.size:=hg
  have helt:e<s.heap.objs.size:=bj he
  obtain⟨oi,hoi,_⟩:=id hit
  have hilt:it<s.heap.objs.size:=bj hoi
  have hef:e ∉ [it]:=λq=>hei (bx.mp q)
  refine wpAny_pyNext_enum_itemD (i:=i+1) (Jj (D X.A.in1 (I.ok.hd hc))) he ⟨by omega,hit⟩ (by omega) hei hef λx h1 tk hPx heo hst hT hsz hk=>?_
  obtain⟨c,u,hcz,rfl⟩:=hPx
  replace hcz:z.cps[i]?=some c:=hcz
  obtain⟨_,hst⟩:=hst
  replace hst:h1.IsStrIter it ty z t (i+1):=hst
  refine⟨_,rfl,?_⟩
  refine wpAny_letOwnedTupleGo_enum (s:={ s with heap:=h1,toks:=tk+1 }) heo λh2 he2 hs2=>?_
  replace hs2:Heap.SameBut e h1 h2:=hs2
  have hpn:H s.heap.objs.size=none:=I.hok.fresh (aI _)
  have hTe:s.heap.objs.size ≠ e:=Nat.ne_of_gt helt
  have hT2:h2.get? s.heap.objs.size=some { cls:=.type "tuple",data:=.seq #[.int ((i+1:Nat):Int) tk,.str ⟨#[c]⟩ u] }:=(hs2.2 _ hTe).trans hT
  have I1:ae X pins σ H { s with heap:=h2,toks:=tk+1 }:=I.turned2 (λb o h1 h2 q=>(hs2.2 b h1).trans (hk b o h1 h2 q)) (hf e (by simp)) (hf it (by simp))
  have f:=I.fpOk (H':=H) (aI _) hpn
  have I2:ae X pins σ (ai H s.heap.objs.size (.tup [.int ((i+1:Nat):Int),.str ⟨#[c]⟩])) { s with heap:=h2,toks:=tk+1 }:=by
   refine I1.adopt hpn ?_ (dG f.2.1) f.2.2.2.2.1 f.2.2.2.2.2 ⟨by show 2<=sizeLine;decide,[.int ((i+1:Nat):Int) tk,.str ⟨#[c]⟩ u],.cons ⟨_,rfl⟩ (.cons ⟨_,rfl⟩ .nil),?_⟩
   ·cases q:X.s₀.heap.get? s.heap.objs.size with
    | none=>rfl
    | some o=>exact absurd (dZ (bj q) I.sz) (i4 _)
   ·exact⟨_,hT2,rfl,_,rfl⟩
  refine⟨.ref s.heap.objs.size,_,I2,rfl,⟨_,c,hpn,rfl,by rw [mz];exact hcz,rfl⟩,⟨⟨_,by simpa using he2⟩,?_,hg'⟩,λb hb=>?_⟩
  ·obtain⟨o,ho,r⟩:=hst
   exact⟨o,(hs2.2 it (dG hei)).trans ho,r⟩
  ·rcases bE.mp hb with q | q
   ·subst q;rw [au (cG helt)];exact(hf _ (by simp)).1
   ·have q:=bx.mp q
    subst q;rw [au (cG hilt)];exact(hf _ (by simp)).1
 done:=by
  intro X hP hw hK hc i pins s σ H E I hf st hg
  subst hP hw hK
  obtain⟨⟨old,he⟩,hit,hle⟩:=st
  have hg':z.cps.size<=i:=hg
  have e1:i=z.cps.size:=Nat.le_antisymm hle hg'
  subst e1
  obtain⟨f0,f1,f2,f3,f4,f5⟩:=hf it (by simp)
  exact wpAny_pyNext_enum_endD (Jj (D X.A.in1 (I.ok.hd hc))) he ⟨by omega,hit⟩ λh' eb=>⟨rfl,I.turned (t':=s.toks) (λb o hb e=>eb b o hb e) f0 f1 f3 f4 f5⟩
 self:=λA i s Q E st h=>wpAny_pyIter_enum st.1.choose_spec h
theorem LF(a b:Value):checkTypeCall "enumerate" ⟨[a],[("start",b)]⟩=pure ():=by kernel_rfl
theorem QB(a b:Value):checkBuiltinCall "enumerate.__new__" ⟨[.type "enumerate",a],[("start",b)]⟩=pure ():=by kernel_rfl
set_option maxHeartbeats 1000000 in
theorem QY(x:Str)(t u:Tok):
 Meets (Builtin.«enumerate.__new__» ⟨[.type "enumerate",.str x t],[("start",.int 1 u)]⟩) (λ_ R s =>
  R (.ok (.ret (.ref (s.heap.push { cls:=.type (strIterType x),data:=.fields #[.str x t,.int 0 0] }).objs.size)))
    { s with heap:=(s.heap.push { cls:=.type (strIterType x),data:=.fields #[.str x t,.int 0 0] }).push { cls:=.type "enumerate",data:=.fields #[.none,.bool false,.ref s.heap.objs.size,rawInt 1,.none,.none] } }) :=
 .of_wp λprog w A R s h=>by
  obtain⟨hp,g,d,tk,os⟩:=s
  have hsub:=sub_enumerate
  wp_walk
  refine wpAny_stack_any λst=>wpAny_pure ?_
  split
  ·rename_i c _ _ _ _ _
   cases (c == Value.type "enumerate")
   ·wp_walk using wpAny_pyIter_strU
    exact⟨_,rfl,h⟩
   ·wp_walk using wpAny_pyIter_strU
    exact⟨_,rfl,h⟩
  ·wp_walk using wpAny_pyIter_strU
   exact⟨_,rfl,h⟩
section
variable {pr:Program} {wl:World} {B:Around} {Ex:Value->Shared->Prop} {z:Shared}
theorem Uh(a b c:Value):argsOk "object.__init__" ⟨[a,b],[("start",c)]⟩:=by
 unfold argsOk
 rw [signature?_of (id := "object.__init__") (n:=['_','_','t','i','n','i','_','_']) (o:=['t','c','e','j','b','o']) (by kernel_rfl) F.owner_object]
 kernel_rfl
theorem S0{T nid:String}{self a c:Value}(hl:typeLookup (.type T) "__init__" = pure (some (.builtin "object.__init__")))
 (hm:Bind.madeBy (.type T)=pure (some nid)) (hne:(some nid != some "object.__new__")=true):
 Meets (Builtin.«object.__init__» ⟨[self,a],[("start",c)]⟩) (λ_ R s=>s.TypeIs self T/\R (.ok (.ret .none)) s):=by
 refine Meets.of_wp λ_ _ _ R s ⟨hT,hq⟩=>?_
 repeat (any_goals (first | assumption | wp_step))
 exact⟨_,rfl,hq⟩
theorem Tx{T nid:String}{Bn:Builtin}{a c:Value}{S:PySem.Spec}{Q:Value->Shared->Prop}(ft:TypeCalled T nid "object.__init__")
 (hne:(some nid != some "object.__new__")=true) (hct:checkTypeCall T ⟨[a],[("start",c)]⟩=pure ()) (hcn:checkBuiltinCall nid ⟨[.type T,a],[("start",c)]⟩=pure ())
 (en:entryFor table nid=some Bn) (g:Meets (Bn ⟨[.type T,a],[("start",c)]⟩) S)
 (h:S B.in1 (wants (λob s1=>s1.TypeIs ob T/\Q ob s1) Ex) z):wpAny (model pr wl) B (call (.type T) [a] [("start",c)]) Q Ex z:=by
 obtain⟨k,tl,hmro⟩:=ft.mro
 have m1:=ft.made
 have m2:=ft.sub
 have m3:=ft.notType
 have m4:=ft.canCreate
 refine wpAny_call (codeAny_of_tree ?_)
 show wpAny _ _ (PySem.callAny (.type T) _) _ _ _
 refine wpAny_pure ⟨Code.quiet_builtin _ (by decide +kernel),codeAny_builtin F.entry_type_call ?_⟩
 rw [Around.under_plain (weight_type_call_type T _ _) (units_type_call_type T _ _)]
 repeat (any_goals (first | assumption | wp_step))
 refine codeAny_mono (codeAny_call_builtin ft.plain en (wpAny_of_eq hcn (g pr wl B.in1 _ z h))) λr s1 hr=>?_
 cases r with
 | error e=>exact hr
 | ok fl =>
   cases fl with
   | ret ob =>
     obtain⟨hT,hQ⟩:=hr
     have n1:=ft.init.lookup
     have n2:=ft.init.bind ob
     repeat (any_goals (first | assumption | wp_step))
     refine codeAny_mono (codeAny_call_builtin ft.init.plain F.entry_object_init (ft.init.check _ _ _ _ _ _ _ _ hT (Uh ob a c) ((S0 ft.init.lookup ft.made hne) pr wl B.in1 (wants (λr s2=>r=.none/\Q ob s2) Ex) s1 ⟨hT,rfl,hQ⟩))) λr2 s2 hr2=>?_
     cases r2 with
     | error e=>exact hr2
     | ok fl2 =>
       cases fl2 with
       | ret r =>
         obtain⟨rfl,hq⟩:=hr2
         repeat (any_goals (first | assumption | wp_step))
       | _=>exact hr2.elim
   | _=>exact hr.elim
end
section
variable {pr:Program} {wl:World} {B:Around} {Ex:Value->Shared->Prop} {z:Shared}
noncomputable def lM(x:Str)(t:Tok):Obj:={ cls:=.type (strIterType x),data:=.fields #[.str x t,.int 0 0] }
noncomputable def pO(a:Addr):Obj:={ cls:=.type "enumerate",data:=.fields #[.none,.bool false,.ref a,rawInt 1,.none,.none] }
theorem TR{x:Str}{t u:Tok}{Q:Value->Shared->Prop}
 (h:∀g,IsEnum g (z.heap.objs.size+1) z.heap.objs.size 1 .none->g.IsStrIter z.heap.objs.size (strIterType x) x t 0->
  (∀b o,z.heap.get? b=some o->g.get? b=some o)->Q (.ref (z.heap.objs.size+1)) { z with heap:=g }):
 wpAny (model pr wl) B (call (.type "enumerate") [.str x t] [("start",.int 1 u)]) Q Ex z:=by
 refine Tx PySem.F.called_enumerate (by decide) (LF _ _) (QB _ _) PySem.F.entry_enumerate_new (QY x t u) ?_
 have e1:(z.heap.push (lM x t)).objs.size=z.heap.objs.size+1:=qy ..
 have e2:((z.heap.push (lM x t)).push (pO z.heap.objs.size)).get? (z.heap.objs.size+1)=some (pO z.heap.objs.size):=by
  rw [← e1];exact cM _ rfl
 show _/\Q (.ref (z.heap.push (lM x t)).objs.size) { z with heap:=(z.heap.push (lM x t)).push (pO z.heap.objs.size) }
 rw [e1]
 have e3:((z.heap.push (lM x t)).push (pO z.heap.objs.size)).get? (z.heap.push (lM x t)).objs.size=some (pO z.heap.objs.size):=cM _ rfl
 exact⟨⟨_,e3,rfl⟩,h _ e2 ⟨lM x t,bP _ (cM _ rfl),rfl,rfl⟩ λb o y=>bP _ (bP _ y)⟩
end
section
variable {X:Cx}
noncomputable def S9(te t2:TE):TI:=λσ H R=>te σ H λx H1=>t2 σ H1 λy H2=>∃l,x=vt l/\y=.int 1/\R (qt (tx l)) H2
theorem TU{M:Model}{A:Around}{E:Value->Shared->Prop}{s:Shared}{pos:Pos}{T:String}{args:List (Bool × Sem Value)}{kws:List (Option Str × Sem Value)}{Q:Value->Shared->Prop}
 (hplain:(args.any (·.1) || kws.any (·.1.isNone))=false)
 (h:wpAny M A (evalArgs (.type T) true args kws) (λa s₁=>wpAny M A (call (.type T) a.pos a.kw) Q E s₁) E s):
 wpAny M A (callWith pos (.type T) [] args kws) Q E s:=by
 unfold callWith
 refine wpAny_bind (wpAny_holding (wpAny_mono h (λa s₁ h₁=>wpAny_bind (wpAny_standAt ?_)) λ_ _ x=>x))
 simp only [hplain]
 refine wpAny_bind (wpAny_pure ?_)
 exact wpAny_bind (wpAny_mono h₁ (λr s₂ hr=>wpAny_bind (wpAny_holding (wpAny_point (wpAny_pure hr)))) λ_ _ x=>x)
theorem Ol{e v:Expr}{te t2:TE}{elts:List Expr}{k}{tpos p2 p4 pos:Pos}(hg:Gl X "enumerate")(hm:X.mg "enumerate" = none)(hv:bootBuiltins "enumerate" = some (.type "enumerate"))(he:PE X e te)(h2:PE X v t2)
 (hs2:starEach [e] X.env=[(false,eval e X.env)]:=by rfl):PI X (.Tuple elts k tpos) (.Call (.Name "enumerate" p2) [e] [⟨some "start",v,p4⟩] pos) (S9 te t2):=by
 intro pins s σ H R I h
 refine wpAny_Call_Name_kw (iR I hg hm hv ?_ (by decide) (by decide))
 refine TU (by rw [hs2];rfl) ?_
 refine evalArgs_kw2 rfl ?_ hs2
 rw [hs2]
 show wpAny _ _ (spliced ((false,eval e X.env)::backTo pos [])) _ _ s
 refine j3 (av (he pins s σ H _ I h) λu s1 ⟨y,H1,I1,r1,q1⟩=>?_)
 refine jx ?_
 refine kwAll_cons (av (h2 pins s1 σ H1 _ I1 q1) λu2 s2 ⟨y2,H2,I2,r2,l,el,e2,q2⟩=>kwAll_nil ?_)
 subst el e2
 obtain⟨t,rfl⟩:=r1
 obtain⟨t',rfl⟩:=r2
 show wpAny _ _ (call (.type "enumerate") [.str (tx l) t] [("start",.int 1 t')]) _ _ s2
 refine TR λh' hen hit hk=>?_
 refine wpAny_pyIter_enum (s:={ s2 with heap:=h' }) hen ?_
 have I3:ae X pins σ H2 { s2 with heap:=h' }:=I2.kept (t':=s2.toks) hk
 have hei:s2.heap.objs.size+1 ≠ s2.heap.objs.size:=Nat.succ_ne_self _
 have fp:∀b ∈ [s2.heap.objs.size+1,s2.heap.objs.size],gT X pins H2 b:=λb hb=>by
  have hle:s2.heap.objs.size<=b:=by
   rcases bE.mp hb with q | q
   ·rw [q];exact nP _
   ·rw [bx.mp q];exact aI _
  exact I2.fpOk hle (I2.hok.fresh hle)
 have D:∀A:Around,A.handled=none->Draws X.prog X.w A s2.heap.objs.size [s2.heap.objs.size] (tx l).cps.size (λi v=>∃c u,(tx l).cps[i]?=some c/\v=.str ⟨#[c]⟩ u) (λi h=>h.IsStrIter s2.heap.objs.size (strIterType (tx l)) (tx l) t i):=λA hA=>by
  unfold strIterType
  cases (tx l).cps.all (·<128)
  ·exact Draws.strWide hA _ _ _
  ·exact Draws.strAscii hA _ _ _
 exact⟨s2.heap.objs.size+1,[s2.heap.objs.size+1,s2.heap.objs.size],_,_,H2,rfl,I3,LN _ _ (tx l) t hei D,⟨⟨_,hen⟩,hit,cU _⟩,fp,q2⟩
theorem Sy{l:List Nat}{K:Frag}{a b:Nat}{tb:TS}{D:ie}{σ:St}{H:Hp}(Pv:Nat->St->Hp->Prop)(h0:Pv 0 σ H)
 (hs:∀i c σ H p,l[i]?=some c->Pv i σ H->H p=none->tb { D with nx:=Pv (i+1),ct:=Pv (i+1),bk:=D.nx } ((σ.set a (some (.int ((i+1:Nat):Int)))).set b (some (vt [c]))) (ai H p (.tup [.int ((i+1:Nat):Int),vt [c]]))) (hd:∀σ H,Pv l.length σ H->D.nx σ H):
 ∃W:Nat->Nat->St->Hp->Prop,(∃m,W 0 m σ H)/\∀i m σ H,W i m σ H->
   ((qt (tx l)).stop i H/\D.nx σ H)\/((qt (tx l)).go i H/\∃N:St->Hp->Prop,(∀σ' H',N σ' H'->∃m',m'<m/\W (i+1) m' σ' H')/\∀x H',(qt (tx l)).yld i H x H'->BJ K 2 (pH (f9 a) (pH (f9 b) BK)) x σ H' λσ2 H2=>tb { D with nx:=N,ct:=N,bk:=D.nx } σ2 H2):=by
 have hz:(tx l).length=l.length:=cV l
 refine⟨λi m σ H=>m=l.length-i/\i<=l.length/\Pv i σ H,⟨l.length,by simp,cU _,h0⟩,?_⟩
 rintro i m σ H ⟨rfl,hi,p⟩
 by_cases hlt:i<l.length
 ·refine .inr ⟨by show i<(tx l).length;omega,Pv (i+1),λσ' H' p'=>⟨l.length-(i+1),by omega,rfl,hlt,p'⟩,?_⟩
  rintro x H' ⟨q,c,hq,rfl,hc,rfl⟩
  exact⟨q,_,rfl,aG.of aA,rfl,_,_,rfl,_,_,rfl,rfl,hs i c σ H q hc p hq⟩
 ·have e:i=l.length:=by omega
  subst e
  exact .inl ⟨by show (tx l).length<=l.length;omega,hd σ H p⟩
noncomputable def NO:V->List V->Hp->VK->Prop:=λx vs H Q=>∃(l:List Nat) (n c:Nat),x=vt l/\vs=[.int (n:Int),vt [c]]/\n<=1000/\Q (vt (l++List.replicate (n-l.length) c)) H
theorem Ht{n:Nat}(h:n<=1000):PadOk (n:Int)=true:=by
 unfold PadOk fitsSsize
 have h1:Builtin.Str.tooLong ((n:Int).toNat)=false:=by
  unfold Builtin.Str.tooLong
  exact decide_eq_false (by rw [sizeLine_eq,eK];omega)
 rw [h1]
 have h2:decide ((n:Int)< -(2^63:Int))=false:=decide_eq_false (by omega)
 have h3:decide ((n:Int)>=2^63)=false:=decide_eq_false (by omega)
 simp [h2,h3]
 omega
theorem LJ(l:List Nat)(n c:Nat):Txt.ljustF (tx l) (n:Int) c=tx (l++List.replicate (n-l.length) c):=by
 unfold Txt.ljustF
 have hl:=cV l
 by_cases h:n<=l.length
 ·rw [if_pos (by rw [hl];omega),Nat.sub_eq_zero_of_le h,Co,gw]
 ·rw [if_neg (by rw [hl];omega),hl,eK]
  unfold Builtin.Str.padded tx
  congr 1
  simp
theorem QL:gP X "str.ljust" NO:=by
 intro pins s σ H x vs v us Q I rx rs h
 obtain⟨l,n,c,rfl,rfl,hn,q⟩:=h
 obtain⟨t,rfl⟩:=rx
 cases rs with
 | cons r rr =>
   cases rr with
   | cons r' rr =>
     cases rr
     obtain⟨t2,rfl⟩:=r
     obtain⟨t3,rfl⟩:=r'
     refine ljust_fill (Ht hn) (cV [c]) λt' k=>?_
     refine⟨vt (l++List.replicate (n-l.length) c),H,I.tok _,⟨t',?_⟩,q⟩
     show Value.str (Txt.ljustF (tx l) (n:Int) c) t'=_
     rw [LJ]
noncomputable def NK:V->List V->Hp->VK->Prop:=λx vs H Q=>∃(l:List Nat) (n:Nat),x=vt l/\vs=[.int (n:Int)]/\n<=1000/\(∀c ∈ l,48<=c/\c<=57)/\Q (vt (List.replicate (n-l.length) 48++l)) H
theorem LH(l:List Nat)(n:Nat)(hd:∀c ∈ l,48<=c/\c<=57):Txt.zfill (tx l) (n:Int)=tx (List.replicate (n-l.length) 48++l):=by
 unfold Txt.zfill
 have hl:=cV l
 by_cases h:n<=l.length
 ·rw [if_pos (by rw [hl];omega),Nat.sub_eq_zero_of_le h,Co,List.nil_append]
 ·rw [if_neg (by rw [hl];omega),hl,eK]
  have hz:zfilled (tx l) (n-l.length)=Builtin.Str.padded (tx l) (n-l.length) 0 48:=by
   unfold zfilled
   cases l with
   | nil=>rfl
   | cons c l =>
     have:=hd c bO
     have e:(tx (c::l)).cps[0]?=some c:=by simp [tx]
     rw [e]
     split
     ·rename_i z;cases z;omega
     ·rename_i z;cases z;omega
     ·rfl
  rw [hz]
  unfold Builtin.Str.padded tx
  congr 1
  simp
theorem QI:gP X "str.zfill" NK:=by
 intro pins s σ H x vs v us Q I rx rs h
 obtain⟨l,n,rfl,rfl,hn,hd,q⟩:=h
 obtain⟨t,rfl⟩:=rx
 obtain⟨u,rfl,ru⟩:=eX rs
 obtain⟨t2,rfl⟩:=ru
 refine SC.zfill (Ht hn) λt' k=>?_
 refine⟨vt (List.replicate (n-l.length) 48++l),H,I.tok _,⟨t',?_⟩,q⟩
 show Value.str (Txt.zfill (tx l) (n:Int)) t'=_
 rw [LH l n hd]
noncomputable def kK(l:List Nat):Nat:=l.foldl (λacc c=>acc*10+(c-48)) 0
theorem JF:dO X (.type "int") (λxs H Q=>∃l:List Nat,xs=[vt l]/\l ≠ []/\l.length<=640/\(∀c ∈ l,48<=c/\c<=57)/\Q (.int ((kK l:Nat):Int)) H):=by
 intro pins s σ H xs us Q I r h
 obtain⟨l,rfl,h1,h2,h3,q⟩:=h
 obtain⟨u,rfl,t,rfl⟩:=eX r
 have e:=PySem.intText_digits (x:=tx l) h3 h1 (by rw [cV];omega)
 exact PySem.W.KIN.call_text e (by rw [cV];exact h2) ⟨.int _,H,I.tok _,⟨_,rfl⟩,q⟩
end
end L2
namespace L2
open PySem PySem.Spec PyProof.Rows
theorem Jw{c:Nat}:∀{a b R S:List Nat},c ∉ a->c ∉ b->a++c::R=b++c::S->a=b/\R=S
 | [],[],R,S,_,_,e=>⟨rfl,(mj e).2⟩
 | [],y::b,R,S,_,hb,e=>absurd (bE.mpr (.inl (mj e).1)) hb
 | x::a,[],R,S,ha,_,e=>absurd (bE.mpr (.inl (mj e).1.symm)) ha
 | x::a,y::b,R,S,ha,hb,e=>by
   obtain⟨h1,h2⟩:=Jw (λz=>ha (df _ z)) (λz=>hb (df _ z)) (mj e).2
   exact⟨by rw [(mj e).1,h1],h2⟩
theorem gk(c:Nat)(x y:List Nat)(r:List (List Nat)):bT [c] (x::y::r)=x++c::bT [c] (y::r):=by
 rw [bT];rw [gA];rfl
theorem JY{c:Nat}:∀{ws vs:List (List Nat)},ws ≠ []->vs ≠ []->(∀w ∈ ws,c ∉ w)->(∀v ∈ vs,c ∉ v)->bT [c] ws=bT [c] vs->ws=vs
 | [],_,h,_,_,_,_=>absurd rfl h
 | _,[],_,h,_,_,_=>absurd rfl h
 | [x],[y],_,_,_,_,e=>by rw [show x=y from e]
 | [x],y::z::r,_,_,h,_,e=>by
   rw [gk] at e
   exact absurd (by rw [show x=_ from e];simp) (h x bO)
 | x::z::r,[y],_,_,_,h,e=>by
   rw [gk] at e
   exact absurd (by rw [show y=_ from e.symm];simp) (h y bO)
 | x::x2::r,y::y2::q,_,_,h,g,e=>by
   rw [gk,gk] at e
   obtain⟨h1,h2⟩:=Jw (h x bO) (g y bO) e
   rw [h1,JY (Ct _ _) (Ct _ _) (λw hw=>h w (df _ hw)) (λw hw=>g w (df _ hw)) h2]
theorem IE(c:Nat):∀S:List Str,(Str.join (tx [c]) S).cps.toList=bT [c] (S.map λz=>z.cps.toList)
 | []=>rfl
 | [x]=>rfl
 | x::y::r=>by
   have ih:=IE c (y::r)
   rw [bR] at ih
   rw [bR,bR,gk,← ih]
   show (x++tx [c]++Str.join (tx [c]) (y::r)).cps.toList=_
   show ((x.cps++(tx [c]).cps)++(Str.join (tx [c]) (y::r)).cps).toList=_
   rw [Array.toList_append,Array.toList_append,gA];rfl
theorem DI{c:Nat}{ws:List (List Nat)}(hn:ws ≠ [])(hc:∀w ∈ ws,c ∉ w):Txt.split (tx (bT [c] ws)) (tx [c])=ws.map tx:=by
 have h1:=StrLaws.join_split (tx (bT [c] ws)) (tx [c])
 have h2:=StrLaws.split_free (tx (bT [c] ws)) c
 have h3:=split_pos (tx (bT [c] ws)) (tx [c])
 change ∀p ∈ Txt.split (tx (bT [c] ws)) (tx [c]),_ at h2
 generalize Txt.split (tx (bT [c] ws)) (tx [c])=S at h1 h2 h3
 have e:=IE c S
 rw [h1,oy] at e
 have:=JY hn (vs:=S.map λz=>z.cps.toList) (by intro z;rw [List.map_eq_nil_iff] at z;rw [z] at h3;simp at h3) hc (λv hv=>by
  obtain⟨p,hp,rfl⟩:=i7.mp hv
  exact h2 p hp) e
 rw [this,d7]
 exact(List.map_id _).symm
theorem Dz:∀(l:List (Str × Tok)) (ws:List (List Nat)),l.map (·.1)=ws.map tx->aB (ws.map vt) (strValues l)
 | [],[],_=>.nil
 | [],_::_,e=>nomatch e
 | _::_,[],e=>nomatch e
 | (x,t)::l,w::ws,e=>by
   have h1:x=tx w:=(mj e).1
   subst h1
   exact .cons ⟨t,rfl⟩ (Dz l ws (mj e).2)
section
variable {X:Cx}
theorem K0{c:Nat}:∀ws:List (List Nat),ws.length<=(bT [c] ws).length+1
 | []=>cU _
 | [x]=>by show 1<=_;omega
 | x::y::r=>by
   have:=K0 (c:=c) (y::r)
   rw [gk,aq,d8 (a:=c),d8 (a:=x)]
   omega
noncomputable def NL:V->List V->Hp->VK->Prop:=λx vs H Q=>∃c ws,x=vt (bT [c] ws)/\vs=[vt [c]]/\ws ≠ []/\(∀w ∈ ws,c ∉ w)/\(bT [c] ws).length<=100000/\∀r,H r=none->Q (.ref r) (ai H r (.lst (ws.map vt)))
theorem Ig:gP X "str.split" NL:=by
 intro pins s σ H x vs v us Q I rx rs h
 obtain⟨c,ws,rfl,rfl,hn,hc,hl,q⟩:=h
 obtain⟨t,rfl⟩:=rx
 obtain⟨u,rfl,ru⟩:=eX rs
 obtain⟨t2,rfl⟩:=ru
 have hsp:=DI hn hc
 have hw:ws.length<=sizeLine:=c7 (K0 (c:=c) ws) (by rw [sizeLine_eq];omega)
 have sz:(tx (bT [c] ws)).length+2<=sizeLine:=by rw [cV,sizeLine_eq];omega
 have fin:∀(l:List (Str × Tok)) (tk:Nat),l.map (·.1)=ws.map tx->EP X pins σ Q (.ref s.heap.objs.size) { s with heap:=s.heap.push { cls:=.type "list",data:=.seq (strValues l).toArray },toks:=tk }:=λl tk e=>by
  refine⟨.ref s.heap.objs.size,_,I.laid (o:=.lst (ws.map vt)) (λb u e=>bP _ e) (aI _) ⟨by rw [aT];exact hw,strValues l,0,Dz l ws e,?_⟩,rfl,q _ (I.hok.fresh (aI _))⟩
  exact cM s.heap rfl
 have hs:=DI hn hc
 unfold Txt.split at hs
 generalize tx (bT [c] ws)=x at hs sz ⊢
 have hnn:(Builtin.Str.partsBetween x (Builtin.Str.occurrences x (tx [c]) 0 x.length (x.length+1)) (tx [c]).length).length<=sizeLine:=by
  have e1:=StrLaws.occ_length_le x (tx [c]) 0 x.length (x.length+1)
  rw [length_partsBetween];omega
 cases h1:(decide (x.length<(tx [c]).length) || decide (Builtin.Str.strKind x<Builtin.Str.strKind (tx [c])))
 ·rw [h1,if_neg (by decide)] at hs
  cases hf:(Builtin.Str.occurrences x (tx [c]) 0 x.length (x.length+1)).isEmpty
  ·rw [hf,if_neg (by decide)] at hs
   refine call_meets xn (typeIs_str _ _ _) Ka (Kb _ _) (meets_str_split_sep x (tx [c]) t t2 h1 rfl hf (by omega) hnn) ?_
   show wants _ _ _ { s with toks:=_,heap:=s.heap.push { cls:=.type "list",data:=.seq (strsFrom s.toks (Builtin.Str.partsBetween x (Builtin.Str.occurrences x (tx [c]) 0 x.length (x.length+1)) (tx [c]).length)).toArray } }
   rw [strsFrom_eq]
   exact fin (numbered s.toks _) _ ((numbered_texts _ _).trans hs)
  ·rw [hf,if_pos rfl] at hs
   exact call_meets xn (typeIs_str _ _ _) Ka (Kb _ _) (meets_str_split_not_found x (tx [c]) t t2 h1 rfl hf) (fin [(x,t)] s.toks hs)
 ·rw [h1,if_pos rfl] at hs
  exact call_meets xn (typeIs_str _ _ _) Ka (Kb _ _) (meets_str_split_cannot_occur x (tx [c]) t t2 h1) (fin [(x,t)] s.toks hs)
theorem Ju{CX:fY}{P:Program}{w:World}{K:Frag}{mg:Str->Option Value}{base:Heap}{N:List Str}{qual:Str}{scope:Scope}{f:Addr}{cd:Value}{A:Around}{outer:List Env}{s:Shared}{H:Hp}{E:XK}:(iD CX P w K mg base N qual scope f cd A outer s H E).K=K:=rfl
theorem Ia:X.nox.K=X.K:=rfl
theorem Jz{N:List Str}{scope:Scope}{c:CP}:(X.compC N scope c).K=X.K:=rfl
noncomputable def sq:List TS->TS->TS
 | [],u=>u
 | t::ts,u=>kZ t (sq ts u)
noncomputable def LZ(X:Cx)(ss:List Stmt):TS:=λD σ H=>∃t,eJ X ss t/\t D σ H
theorem tok{ss:List Stmt}:eJ X ss (LZ X ss):=λpins s σ H D I ⟨_,h,q⟩=>h pins s σ H D I q
structure Lm(K:Frag)(a:Addr)(es:Array DictEntry)(kvs:List (Str × Int)):Prop where
 lo:(a == sysModules)=false
 lk:∃n,K.lookup a=some ⟨.type "dict",none,.dict es n,#[]⟩
 at_:∀p ∈ kvs,∃tk,nsIn K a p.1=some (some (.int p.2 tk))
structure FX(K:Frag)(mg:Str->Option Value)(x:Str)(st:Stmt)(a:Addr)(fd:FuncData)(ps:List Str):Prop where
 F:dN K x x st a fd
 b:d9 K fd ps []
 m:mg x=some (.ref a)
structure MX(K:Frag)(C:Addr)(x qual:Str)(st:Stmt)(a:Addr)(fd:FuncData)(ps:List Str):Prop where
 F:dN K x qual st a fd
 b:d9 K fd ps []
 me:xE K C x a
structure IX(K:Frag)(C:Addr)(qual:Str)(st:Stmt)(a:Addr)(fd:FuncData)(ps:List Str):Prop where
 F:dN K "__init__" qual st a fd
 b:d9 K fd ps []
 mi:Mk K C a
theorem dN.okm{P:Program}{w:World}{K:Frag}{mg:Str->Option Value}{base:Heap}{x qual:Str}{st:Stmt}{f:Addr}{fd:FuncData}{N ps:List Str}{k:Nat}{sp:Sp}(F:dN K x qual st f fd)(S:aF N ps (ax st))
 (hbody:∀(cdv:Value) (A:Around) (outer:List Env) (s:Shared) (H:Hp) (vs:List V) (Q:VK) (E:XK),cb k (A.deeper (envOfC qual (ax st) s.heap.objs.size f cdv))->sp vs H Q E->
  ∃t,eJ (iD (ay P w) P w K mg base N qual (ax st) f cdv A outer s H E).nox (dJ st) t/\t { nx:=λ_ H'=>Q .non H',rt:=Q } (start N vs) H)
 (len:∀vs H Q E,sp vs H Q E->vs.length=ps.length:=by intro _ _ _ _ h;cases h;subst_vars;rfl):ar P w K mg base (ay P w) (k+1) f fd ps sp:=F.okn S len hbody
theorem aJ{N P:List Str}{sc:Scope}(h1:sc.kind=.function:=by rfl)(h2:sc.isCoroutine=false:=by rfl)(h3:sc.isGenerator=false:=by rfl)(h4:N.Nodup:=by decide +kernel)(h5:N.take P.length=P:=by rfl)(h6:∀x ∈ P,sc.names.lookup x=some .local\/sc.names.lookup x=some .cell:=by decide +kernel)(h7:∀y ∈ sc.names,y.2 ≠ .free:=by decide +kernel):aF N P sc:=⟨h1,h2,h3,h4,h5,h6,h7⟩
theorem pc{P:Program}{w:World}{k k':Nat}{f:Addr}{fd:FuncData}{ps:List Str}{sp:Sp}{x:Str}{st:Stmt}{p pos:Pos}{e:Expr}{es:List Expr}{t:TA}(F:ar X.prog X.w X.K X.mg X.base (ay P w) k' f fd ps sp)(hr:cb k X.A)(B:FX X.K X.mg x st f fd ps)(ha:PA X (e::es) t)(hk:k'<=k:=by first | decide | omega)(hg:Gl X x:=by rfl)(hdb:(x == ("__debug__" : Str))=false:=by decide)
 (he:starEach (e::es) X.env=(false,eval e X.env)::starEach es X.env:=by rfl) (hpl:(backTo pos (starEach es X.env)).any (·.1)=false:=by rfl):PE X (.Call (.Name x p) (e::es) [] pos) (yn sp [] E0 t):=jD (F.mono hk) hr hg B.m B.F.kp B.b .nil g8 ha hdb he hpl
theorem a1{e:Expr}{te:TE}(ha:PE X e te)(hs:starEach [e] X.env=(false,eval e X.env)::starEach [] X.env:=by rfl):PA X [e] (ig te gX):=AW ha lp hs
theorem a2{e e2:Expr}{te t2:TE}(ha:PE X e te)(hb:PE X e2 t2)(hs:starEach [e,e2] X.env=(false,eval e X.env)::starEach [e2] X.env:=by rfl)(h2:starEach [e2] X.env=(false,eval e2 X.env)::starEach [] X.env:=by rfl):PA X [e,e2] (ig te (ig t2 gX)):=AW ha (a1 hb h2) hs
theorem aK(i:Nat){x:Str}{p q r:Pos}{j:Int}{c:Nat}(hN:X.N[i]?=some x:=by rfl)(hv:qc X.env.scope x:=by first | exact Or.inl rfl | exact Or.inr (Or.inl rfl) | exact Or.inr (Or.inr rfl))(hd:(x == ("__debug__" : Str))=false:=by decide)(hc:(x == ("__classdict__" : Str))=false:=by decide):PE X (.Subscript (.Name x p) (.Constant (.int j) c q) r) (iM (lg X.K) (gW i) (tC (.int j))):=Hs IG (pv i hN hv hd hc) aw (λ_ _=>rfl)
theorem cA{a b:Expr}{ta tb:TE}{pos:Pos}(ha:PE X a ta)(hb:PE X b tb)(hs:Ke b:=by intro _ _;rfl):PE X (.Subscript a b pos) (iM (lg X.K) ta tb):=Hs IG ha hb hs
theorem aC(i:Nat){x:Str}{e:Expr}{te:TE}{p q:Pos}(hN:X.N.Nodup)(he:PE X e te)(hi:X.N[i]?=some x:=by rfl)(hx:mf X.env.scope x:=by exact Or.inl rfl)(hs:swapsWith e (some (.Name x q)) p.line X.env=pure false:=by rfl)(hf:X.fn x=true\/X.env.scope.names.lookup x=some .local:=by first | exact .inl rfl | exact .inr rfl | assumption):PS X (.Assign [.Name x q] e p) (yo te (f9 i)):=Hd hN hi hx he hs hf
theorem bB(i:Nat){x:Str}{p:Pos}(hN:X.N.Nodup)(hi:X.N[i]?=some x:=by rfl)(hx:mf X.env.scope x:=by exact Or.inl rfl)(hf:X.fn x=true\/X.env.scope.names.lookup x=some .local:=by first | exact .inl rfl | exact .inr rfl | assumption):PG X (.Name x p) (f9 i):=Oo hN hi hx hf
theorem cC(v:V){x:Str}{u:Value}{p:Pos}(hm:X.mg x=some u)(hg:Gl X x:=by rfl)(r:aL v u:=by exact⟨_,rfl⟩)(hd:(x == ("__debug__" : Str))=false:=by decide):PE X (.Name x p) (tC v):=ja hg hm r hd
theorem cq{p q:Pos}{e:Expr}{te:TE}(hm:X.mg "len" = none)(he:PE X e te)(hg:Gl X "len":=by rfl)(hs:starEach [e] X.env=(false,eval e X.env)::starEach [] X.env:=by rfl):PE X (.Call (.Name "len" p) [e] [] q) (qZ (λxs H Q=>∃x n,xs=[x]/\Cu X.K x H n/\Q (.int n) H) (ig te gX)):=dB TL hg hm (by decide +kernel) (a1 he hs) (by decide) (by decide) hs rfl
theorem jB{p q:Pos}{e:Expr}{te:TE}(hm:X.mg "str" = none)(he:PE X e te)(hg:Gl X "str":=by rfl)(hs:starEach [e] X.env=(false,eval e X.env)::starEach [] X.env:=by rfl):PE X (.Call (.Name "str" p) [e] [] q) (qZ (λxs H Q=>∃i:Int,xs=[.int i]/\i.natAbs.log2<1920/\Q (.str (Str.ofString (toString i))) H) (ig te gX)):=mW TB hg hm (by decide +kernel) (a1 he hs) (by decide) (by decide) hs rfl
theorem cO{P:Program}{w:World}{k k':Nat}{f C:Addr}{fd:FuncData}{ps:List Str}{sp:Sp}{m qual:Str}{ss:Stmt}{p q:Pos}{e o:Expr}{es:List Expr}{ta:TE}{t:TA}{pl:Sem Bool}(he:PE X o ta)(c:fX X.K C)(B:MX X.K C m qual ss f fd ps)(F:ar X.prog X.w X.K X.mg X.base (ay P w) k' f fd ps sp)(hr:cb k X.A)(ha:PA X (e::es) t)(hk:k'<=k:=by first | decide | omega)
 (h1:starEach (e::es) X.env=(false,eval e X.env)::starEach es X.env:=by rfl) (h2:(backTo p (starEach es X.env)).any (·.1)=false:=by rfl)
 (h3:eval (.Call (.Attribute o m q) (e::es) [] p) X.env=(do
  let ov ← eval o X.env
  standAt q.atName
  let (f,first) ← holding [ov] (getMethod ov m pl)
  callWith p f first (backTo p (starEach (e::es) X.env)) (backToKw p (keywordEach [] X.env))):=by rfl):PE X (.Call (.Attribute o m q) (e::es) [] p) (qW C m sp [] E0 ta t):=Oz he c B.me (F.mono hk) hr B.b .nil g8 ha h1 h2 h3
theorem il{P:Program}{w:World}{k k':Nat}{f C:Addr}{fd:FuncData}{ps:List Str}{sp:Sp}{m qual:Str}{ss:Stmt}{p q:Pos}{o:Expr}{ta:TE}{pl:Sem Bool}(he:PE X o ta)(c:fX X.K C)(B:MX X.K C m qual ss f fd ps)(F:ar X.prog X.w X.K X.mg X.base (ay P w) k' f fd ps sp)(hr:cb k X.A)(hk:k'<=k:=by first | decide | omega)
 (h3:eval (.Call (.Attribute o m q) [] [] p) X.env=(do
  let ov ← eval o X.env
  standAt q.atName
  let (f,first) ← holding [ov] (getMethod ov m pl)
  callWith p f first (backTo p (starEach [] X.env)) (backToKw p (keywordEach [] X.env))):=by rfl):PE X (.Call (.Attribute o m q) [] [] p) (qW C m sp [] E0 ta gX):=Oy he c B.me (F.mono hk) hr B.b .nil g8 h3
theorem iB(N:List Str)(cap:List (Option Nat)){scope:Scope}{tg elt iter:Expr}{p:Pos}{wi:TI}{g:CP->TG}{te:CP->TE}(hi:PI X tg iter wi)(hg:∀c,N.Nodup->PG (X.compC N scope c) tg (g c))(he:∀c,PE (X.compC N scope c) elt (te c))(S:uW X.N X.env.scope N scope cap=true:=by kernel_rfl)(hn:N.Nodup:=by decide +kernel)(hc:X.calm=true:=by rfl)(hs:∀x,foldedSetIterable iter X.env x=pure x:=by intro _;rfl):
 PE X (.ListComp elt [⟨tg,iter,[],0⟩] scope p) (qX cap wi g (λ_=>jA) te):=OB (Jy S) hc hi ⟨λc=>hg c hn,λ_=>Hr,he⟩ hs
theorem Ga(i:Nat)(hN:X.N.Nodup)(N:List Str)(cap:List (Option Nat)){scope:Scope}{tg elt iter:Expr}{y:Str}{p q r:Pos}{wi:TI}{g:CP->TG}{te:CP->TE}(ht:PI X tg iter wi)(hg:∀c,N.Nodup->PG (X.compC N scope c) tg (g c))(he:∀c,PE (X.compC N scope c) elt (te c))(hi:X.N[i]?=some y:=by rfl)(hy:X.env.kindOf y=some .local:=by rfl)(S:uW X.N X.env.scope N scope cap=true:=by kernel_rfl)(hn:N.Nodup:=by decide +kernel)(hc:X.calm=true:=by rfl)
 (hw:swapsWith (.ListComp elt [⟨tg,iter,[],0⟩] scope p) (some (.Name y q)) r.line X.env=pure true:=by rfl) (hs:∀x,foldedSetIterable iter X.env x=pure x:=by intro _;rfl):
 PS X (.Assign [.Name y q] (.ListComp elt [⟨tg,iter,[],0⟩] scope p) r) (λD σ H=>qX cap wi g (λ_=>jA) te σ H λv H1=>D.nx (σ.set i (some v)) H1):=NZ hN hi hy (Jy S) hc ht ⟨λc=>hg c hn,λ_=>Hr,he⟩ hw hs
theorem bo{op:CmpOp}{a b:Expr}{ta tb:TE}{r:R2}{p:Pos}(ho:bw X (compareOp op) r)(ha:PE X a ta)(hb:PE X b tb)(hm:behindInMarks op b=false:=by exact Ib _):PT X (.Compare a [op] [b] p) (oz (iM r ta tb)):=AG ho ha hb hm
theorem lN{op:CmpOp}{a b:Expr}{ta tb:TE}{r:R2}{p:Pos}(ho:bw X (compareOp op) r)(ha:PE X a ta)(hb:PE X b tb)(hm:behindInMarks op b=false:=by exact Ib _):PE X (.Compare a [op] [b] p) (iM r ta tb):=mV ho ha hb hm
variable {o e:Expr} {apos cpos:Pos} {td ty:TE}
noncomputable def Ml(X:Cx)(td ty:TE):TE:=λσ H Q=>td σ H λx H1=>∃a es kvs,x=.ref a/\Lm X.K a es kvs/\KeysLit X.w.params es.toList/\ty σ H1 λy H2=>∃k i,y=.str k/\(k,i) ∈ kvs/\Q (.int i) H2
theorem OI(hu:X.A.units+1<cLine)(ho:PE X o td)(he:PE X e ty)(m:M1 X o "get" apos e cpos):PE X (.Call (.Attribute o "get" apos) [e] [] cpos) (Ml X td ty):=by
 intro pins s σ H Q I h
 refine wpAny_Call_method m.base m.few m.line Cg m7 PySem.F.type_dict_get (av (ho pins s σ H _ I h) λu s1 ⟨x,H1,I1,rx,a,es,kvs,ex,cd,kl,q1⟩=>?_)
 subst ex
 obtain rfl:u=Value.ref a:=rx
 obtain⟨n,lk⟩:=cd.lk
 have mo:=λ {h:Heap} (z:X.K.In h)=>PySem.W.mapOf_K (prog:=X.prog) (w:=X.w) z lk kl
 refine⟨(mo I1.kIn).typeIs,?_,?_⟩
 ·intro b q
  cases q
  exact⟨_,I1.kIn _ _ lk,rfl⟩
 rw [m.trees]
 refine my rfl (oh (j3 (av (he pins s1 σ H1 _ I1 q1) λiv s2 ⟨y,H2,I2,ry,k,i,ey,hk,q2⟩=>jx ?_)))
 subst ey
 obtain⟨tk,rfl⟩:=ry
 obtain⟨tk2,hn⟩:=cd.at_ _ hk
 refine call_meetsIn m7 (mo I2.kIn).typeIs xo (Kc _ _) (meets_dict_get (strKind X.prog X.w) a (strKind_is X.prog X.w k tk) cd.lo) ⟨_,mo I2.kIn,?_⟩
 rw [PySem.W.find_K lk hn]
 exact⟨.int i,H2,I2.tok _,⟨tk2,rfl⟩,q2⟩
end
end L2
set_option genInjectivity false
namespace Bp
noncomputable def bM(a b:Int):Int:=(Nat.gcd a.natAbs b.natAbs:Nat)
theorem Sq(a:Int)(h:0<=a):bM a 0=a:=by
 unfold bM
 rw [Int.natAbs_zero,Nat.gcd_zero_right]
 omega
theorem Sr{a b:Int}(ha:0<=a)(hb:0<b):bM b (a % b)=bM a b:=by
 unfold bM
 have e:(a % b).natAbs=a.natAbs % b.natAbs:=by
  obtain⟨m,rfl⟩:=iJ ha
  obtain⟨n,rfl⟩:=iJ (cx hb)
  rfl
 rw [e,Nat.gcd_comm a.natAbs b.natAbs,Nat.gcd_rec b.natAbs a.natAbs,Nat.gcd_comm]
theorem sG{a b:Int}(h:b ≠ 0):0<bM a b:=by
 unfold bM
 have:=Nat.gcd_pos_of_pos_right a.natAbs (show 0<b.natAbs by omega)
 omega
theorem Ss{a b:Int}(h:b ≠ 0):(bM a b).natAbs<=b.natAbs:=by
 unfold bM
 have:=Nat.gcd_le_right a.natAbs (show 0<b.natAbs by omega)
 omega
theorem Sv(a b:Int):bM a b ∣ a:=by
 unfold bM
 exact Int.ofNat_dvd_left.mpr (Nat.gcd_dvd_left _ _)
theorem Su(a b:Int):bM a b ∣ b:=by
 unfold bM
 exact Int.ofNat_dvd_left.mpr (Nat.gcd_dvd_right _ _)
theorem Sw(a b:Int):bM (if a<0 then -a else a) (if b<0 then -b else b)=bM a b:=by
 unfold bM
 have e1:(if a<0 then -a else a).natAbs=a.natAbs:=by split<;>omega
 have e2:(if b<0 then -b else b).natAbs=b.natAbs:=by split<;>omega
 rw [e1,e2]
noncomputable def sgn(b:Int):Int:=if b<0 then -1 else 1
noncomputable def cn(t b:Int):Int:=t.fdiv (sgn b*bM t b)
noncomputable def cI(t b:Int):Int:=b.fdiv (sgn b*bM t b)
theorem sN{a d q:Int}(h:d ≠ 0)(e:a=d*q):a.fdiv d=q:=by
 rw [e];exact Int.mul_fdiv_cancel_left q h
theorem p9{t b:Int}(h:b ≠ 0):∃n d g,cn t b=n/\cI t b=d/\t=g*n/\b=g*d/\0<d/\Nat.gcd n.natAbs d.natAbs=1/\g.natAbs=(bM t b).natAbs:=by
 have gp:=sG (a:=t) h
 obtain⟨n,hn⟩:=Sv t b
 obtain⟨d,hd⟩:=Su t b
 have gg:((Nat.gcd t.natAbs b.natAbs:Nat):Int)=bM t b:=rfl
 have cop:∀n d:Int,t.natAbs=(bM t b).natAbs*n.natAbs->b.natAbs=(bM t b).natAbs*d.natAbs->Nat.gcd n.natAbs d.natAbs=1:=by
  intro n d e1 e2
  have k:Nat.gcd t.natAbs b.natAbs=(bM t b).natAbs:=by omega
  have z:Nat.gcd ((bM t b).natAbs*n.natAbs) ((bM t b).natAbs*d.natAbs)=(bM t b).natAbs:=by rw [← e1,← e2];exact k
  rw [Nat.gcd_mul_left] at z
  have gp':0<(bM t b).natAbs:=by omega
  exact Nat.eq_of_mul_eq_mul_left gp' (by omega)
 by_cases hb:b<0
 ·refine⟨-n,-d,-bM t b,?_,?_,?_,?_,?_,?_,?_⟩
  ·unfold cn sgn;rw [if_pos hb];exact sN (by omega) (by rw [Int.neg_one_mul,Cy];exact hn)
  ·unfold cI sgn;rw [if_pos hb];exact sN (by omega) (by rw [Int.neg_one_mul,Cy];exact hd)
  ·rw [Cy];exact hn
  ·rw [Cy];exact hd
  ·rcases (by omega:d<0\/d=0\/0<d) with z | z | z
   ·omega
   ·rw [z] at hd;omega
   ·have:=cK gp z;omega
  ·have:=cop n d (by rw [← k7,← hn]) (by rw [← k7,← hd])
   simpa using this
  ·omega
 ·refine⟨n,d,bM t b,?_,?_,hn,hd,?_,?_,rfl⟩
  ·unfold cn sgn;rw [if_neg hb];exact sN (by omega) (by rw [mq];exact hn)
  ·unfold cI sgn;rw [if_neg hb];exact sN (by omega) (by rw [mq];exact hd)
  ·rcases (by omega:d<0\/d=0\/0<d) with z | z | z
   ·have:=Int.mul_neg_of_pos_of_neg gp z;omega
   ·rw [z] at hd;omega
   ·exact z
  ·exact cop n d (by rw [← k7,← hn]) (by rw [← k7,← hd])
theorem gj{t b:Int}(h:b ≠ 0):0<cI t b:=by
 obtain⟨n,d,g,e1,e2,_,_,p,_⟩:=p9 (t:=t) h
 omega
theorem iw{t b:Int}(h:b ≠ 0):cn t b*b=t*cI t b:=by
 obtain⟨n,d,g,e1,e2,e3,e4,p,_⟩:=p9 (t:=t) h
 rw [e1,e2]
 conv=>lhs;rw [e4]
 conv=>rhs;rw [e3]
 rw [← cg,cS n g]
theorem jH{t b:Int}(h:b ≠ 0):bM (cn t b) (cI t b)=1:=by
 obtain⟨n,d,g,e1,e2,e3,e4,p,c,_⟩:=p9 (t:=t) h
 unfold bM
 rw [e1,e2,c];rfl
theorem Ie{a g n:Int}(hg:g ≠ 0)(e:a=g*n):n.natAbs<=a.natAbs:=by
 rw [e,k7]
 exact Nat.le_mul_of_pos_left _ (by omega)
theorem rT{t b:Int}(h:b ≠ 0):(cn t b).natAbs<=t.natAbs:=by
 obtain⟨n,d,g,e1,e2,e3,e4,p,c,e5⟩:=p9 (t:=t) h
 have gp:=sG (a:=t) h
 rw [e1];exact Ie (by omega) e3
theorem uT{t b:Int}(h:b ≠ 0):(cI t b).natAbs<=b.natAbs:=by
 obtain⟨n,d,g,e1,e2,e3,e4,p,c,e5⟩:=p9 (t:=t) h
 have gp:=sG (a:=t) h
 rw [e2];exact Ie (by omega) e4
end Bp
namespace Bp
open PySem PySem.Spec PyProof.Rows L2
noncomputable def top(i:Nat):Stmt:=PySem.Challenge.pw_boughpress_k84_whole_from_rows_to_rows.main.body.getD i (.Pass ⟨0,0,0,0⟩)
abbrev zx:Stmt:=top 21
abbrev A2:Stmt:=top 22
abbrev zm:Stmt:=top 23
abbrev zj:Stmt:=top 24
abbrev zZ:Stmt:=top 25
abbrev zw:Stmt:=top 26
abbrev zT:Stmt:=top 27
abbrev zO:Stmt:=top 28
abbrev zi:Stmt:=top 29
abbrev zN:Stmt:=top 31
abbrev zS:Stmt:=top 33
abbrev zM:Stmt:=top 34
abbrev zY:Stmt:=top 35
abbrev Ax:Stmt:=top 39
abbrev zu:Stmt:=top 40
abbrev yK:Stmt:=top 41
abbrev yU:Stmt:=top 42
abbrev yN:Stmt:=top 43
abbrev yL:Stmt:=top 44
abbrev zh:Stmt:=top 45
abbrev yT:Stmt:=top 46
abbrev yS:Stmt:=top 48
abbrev yR:Stmt:=top 49
abbrev Ah:Stmt:=top 51
abbrev zK:Stmt:=top 52
abbrev yO:Stmt:=top 53
abbrev yZ:Stmt:=top 58
abbrev yQ:Stmt:=top 60
abbrev zf:Stmt:=top 64
abbrev Aq:Stmt:=top 65
abbrev Ag:Stmt:=top 66
abbrev ze:Stmt:=top 67
abbrev zX:Stmt:=top 68
abbrev zd:Stmt:=top 69
abbrev Af:Stmt:=top 71
abbrev mM:Stmt:=top 72
abbrev zJ:Stmt:=top 73
abbrev mP:Stmt:=top 74
abbrev mO:Stmt:=top 77
abbrev mN:Stmt:=top 78
abbrev z9:Stmt:=top 86
abbrev zr:Stmt:=top 87
abbrev yJ:Stmt:=top 88
abbrev zI:Stmt:=top 89
abbrev Ap:Stmt:=top 90
abbrev As:Stmt:=top 91
abbrev zW:Stmt:=top 92
abbrev Ae:Stmt:=top 93
abbrev yY:Stmt:=top 94
abbrev zR:Stmt:=top 96
abbrev z8:Stmt:=top 97
abbrev Ad:Stmt:=top 98
abbrev z7:Stmt:=top 100
abbrev zH:Stmt:=top 101
abbrev zq:Stmt:=top 108
abbrev Ac:Stmt:=top 109
abbrev zG:Stmt:=top 110
abbrev yX:Stmt:=top 111
abbrev Aw:Stmt:=top 112
abbrev Ao:Stmt:=top 113
abbrev yP:Stmt:=top 114
abbrev zF:Stmt:=top 115
abbrev zE:Stmt:=top 117
abbrev yW:Stmt:=top 118
abbrev yV:Stmt:=top 121
abbrev zD:Stmt:=top 123
abbrev z6:Stmt:=top 124
abbrev Ab:Stmt:=top 125
abbrev zQ:Stmt:=top 126
abbrev zC:Stmt:=top 127
abbrev Aa:Stmt:=top 128
abbrev zA:Stmt:=top 129
abbrev Av:Stmt:=top 130
abbrev yM:Stmt:=top 131
abbrev zV:Stmt:=fC (top 59) 0
abbrev A9:Stmt:=fC (top 59) 1
abbrev Au:Stmt:=fC (top 59) 2
abbrev Am:Stmt:=fC (top 59) 3
abbrev Ak:Stmt:=fC (top 59) 4
abbrev Ay:Stmt:=fC (top 59) 5
abbrev zU:Stmt:=fC (top 59) 6
abbrev Aj:Stmt:=fC (top 59) 7
abbrev A8:Stmt:=fC (top 62) 0
abbrev A7:Stmt:=fC (top 62) 1
abbrev A6:Stmt:=fC (top 62) 2
abbrev A5:Stmt:=fC (top 62) 3
abbrev Al:Stmt:=fC (top 62) 4
abbrev zy:Stmt:=fC (top 119) 0
abbrev zo:Stmt:=fC (top 119) 1
abbrev zP:Stmt:=fC (top 119) 2
abbrev Ai:Stmt:=fC (top 119) 3
theorem N0:aF ["thing"] ["thing"] (ax zx):=aJ
theorem Nh:aF ["text"] ["text"] (ax A2):=aJ
theorem MY:aF ["thing"] ["thing"] (ax zm):=aJ
theorem MW:aF ["thing"] ["thing"] (ax zj):=aJ
theorem Ng:aF ["thing"] ["thing"] (ax zZ):=aJ
theorem MZ:aF ["thing"] ["thing"] (ax zw):=aJ
theorem Nb:aF ["letters", "depth"] ["letters", "depth"] (ax zT):=aJ
theorem N9:aF ["frame", "thing"] ["frame", "thing"] (ax zO):=aJ
theorem yC:aF ["frame", "text", "letters", "sign"] ["frame", "text"] (ax zi):=aJ
theorem rB:aF ["frame", "text", "at", "first_letter", "depth", "near"] ["frame", "text", "at"] (ax zN):=aJ
theorem Gs:aF ["frame", "text", "at", "path"] ["frame", "text", "at"] (ax zS):=aJ
theorem N8:aF ["frame"] ["frame"] (ax zM):=aJ
theorem mL:aF ["frame", "text", "letters", "table", "at", "sign", "knot"] ["frame", "text"] (ax zY):=aJ
theorem rF:aF ["one", "other", "rest"] ["one", "other"] (ax Ax):=aJ
theorem yD:aF ["top", "bottom", "divisor"] ["top", "bottom"] (ax zu):=aJ
theorem Gk:aF ["one", "other"] ["one", "other"] (ax yK):=aJ
theorem Gn:aF ["one", "other"] ["one", "other"] (ax yU):=aJ
theorem ML:aF ["one"] ["one"] (ax yN):=aJ
theorem MK:aF ["one", "other"] ["one", "other"] (ax yL):=aJ
theorem rm:aF ["many", "told", "one"] ["many"] (ax zh):=aJ
theorem MO:aF ["one", "other"] ["one", "other"] (ax yT):=aJ
theorem MN:aF ["counts", "place"] ["counts", "place"] (ax yS):=aJ
theorem kc:aF ["counts", "top", "count", "ahead", "bottom"] ["counts"] (ax yR):=aJ
theorem Np:aF ["frame", "knot"] ["frame", "knot"] (ax Ah):=aJ
theorem rA:aF ["frame", "table", "knot", "leaf", "branches", "branching"] ["frame", "table", "knot"] (ax zK):=aJ
theorem MM:aF ["frame", "text"] ["frame", "text"] (ax yO):=aJ
theorem Gp:aF ["counts", "place", "told"] ["counts", "place"] (ax yZ):=aJ
theorem yB:aF ["frame", "text", "growth", "sign"] ["frame", "text"] (ax yQ):=aJ
theorem MV:aF ["thing"] ["thing"] (ax zf):=aJ
theorem oN:aF ["bits", "told", "sign"] ["bits"] (ax Aq):=aJ
theorem rD:aF ["number", "many", "signs", "turn"] ["number", "many"] (ax Ag):=aJ
theorem rk:aF ["bits", "parts", "sign"] ["bits"] (ax ze):=aJ
theorem Nf:aF ["low", "parts"] ["low", "parts"] (ax zX):=aJ
theorem ke:aF ["low", "width", "end", "many", "parts"] ["low", "width"] (ax zd):=aJ
theorem oM:aF ["growth", "sign", "letters", "told", "letter"] ["growth", "sign"] (ax Af):=aJ
theorem mI:aF ["frame", "text", "ahead", "growth", "whole", "low", "sign"] ["frame", "text", "ahead"] (ax mM):=aJ
theorem oK:aF ["growth", "low", "point", "letters", "letter", "high"] ["growth", "low", "point"] (ax zJ):=aJ
theorem l8:aF ["frame", "many", "point", "ahead", "growth", "low", "turn", "found"] ["frame", "many", "point", "ahead"] (ax mP):=aJ
theorem Gm:aF ["frame", "text", "ahead", "told"] ["frame", "text", "ahead"] (ax mO):=aJ
theorem yz:aF ["frame", "many", "bits", "ahead", "low", "text"] ["frame", "many", "bits", "ahead"] (ax mN):=aJ
theorem oJ:aF ["bits", "told", "at", "group"] ["bits"] (ax z9):=aJ
theorem mJ:aF ["body", "total", "place", "sign", "rest"] ["body"] (ax zr):=aJ
theorem rj:aF ["frame", "text", "letters", "bits", "body"] ["frame", "text"] (ax yJ):=aJ
theorem N7:aF ["text", "many"] ["text", "many"] (ax zI):=aJ
theorem Nv:aF ["depth", "letters"] ["depth", "letters"] (ax Ap):=aJ
theorem Gw:aF ["text", "many"] ["text"] (ax As):=aJ
theorem Nd:aF ["groups"] ["groups"] (ax zW):=aJ
theorem Gv:aF ["packet", "body"] ["packet"] (ax Ae):=aJ
theorem kd:aF ["packet", "body", "depth", "length_at", "frame", "groups_at", "many", "text"] ["packet"] (ax yY):=aJ
theorem Na:aF ["letters", "thing", "steps"] ["letters", "thing", "steps"] (ax zR):=aJ
theorem MU:aF ["frame", "thing"] ["frame", "thing"] (ax z8):=aJ
theorem Nn:aF ["frame", "thing"] ["frame", "thing"] (ax Ad):=aJ
theorem MT:aF ["tree"] ["tree"] (ax z7):=aJ
theorem N6:aF ["frame", "tree"] ["frame", "tree"] (ax zH):=aJ
theorem Gq:aF ["row", "words"] ["row"] (ax zq):=aJ
theorem Nm:aF ["word"] ["word"] (ax Ac):=aJ
theorem N5:aF ["word"] ["word"] (ax zG):=aJ
theorem MR:aF ["word"] ["word"] (ax yX):=aJ
theorem yI:aF ["one", "top", "bottom"] ["one"] (ax Aw):=aJ
theorem Nu:aF ["learner", "word"] ["learner", "word"] (ax Ao):=aJ
theorem yA:aF ["learner", "text", "signs", "sign"] ["learner", "text"] (ax yP):=aJ
theorem N4:aF ["learner", "many"] ["learner", "many"] (ax zF):=aJ
theorem N3:aF ["learner"] ["learner"] (ax zE):=aJ
theorem MQ:aF ["learner", "words"] ["learner", "words"] (ax yW):=aJ
theorem MP:aF ["frame", "text"] ["frame", "text"] (ax yV):=aJ
theorem N2:aF ["script", "k"] ["script", "k"] (ax zD):=aJ
theorem MS:aF ["cell", "k"] ["cell", "k"] (ax z6):=aJ
theorem kg:aF ["cell", "some", "at", "letters", "k", "place"] ["cell"] (ax Ab):=aJ
theorem l9:aF ["cell", "some", "name", "k", "other"] ["cell"] (ax zQ):=aJ
theorem mK:aF ["script", "letters", "way", "most", "text", "k", "at"] ["script", "letters", "way", "most"] (ax zC):=aJ
theorem yF:aF ["found", "part", "sign"] ["found"] (ax Aa):=aJ
theorem yE:aF ["desk", "name", "second", "found", "row"] ["desk", "name", "second"] (ax zA):=aJ
theorem yH:aF ["desk", "name", "frame", "text", "gone", "left", "due"] ["desk", "name", "frame", "text", "gone"] (ax Av):=aJ
theorem g6:aF ["script", "head", "letters", "depth", "name", "other", "text", "cut", "first", "second", "desk", "told", "bits", "frame", "gone"] ["script"] (ax yM):=aJ
theorem Nc:aF ["self", "frame"] ["self", "frame"] (ax zV):=aJ
theorem Nl:aF ["self", "knot"] ["self", "knot"] (ax A9):=aJ
theorem yG:aF ["self", "knot", "changed", "weights", "letter"] ["self", "knot", "changed"] (ax Au):=aJ
theorem j8:aF ["self", "sign", "place", "path", "told", "size", "knot", "entry", "worth", "weight"] ["self", "sign"] (ax Am):=aJ
theorem Nr:aF ["self"] ["self"] (ax Ak):=aJ
theorem Nw:aF ["self", "sign"] ["self", "sign"] (ax Ay):=aJ
theorem rC:aF ["self", "sign", "changed", "knot", "entry"] ["self", "sign"] (ax zU):=aJ
theorem rE:aF ["self", "earlier", "knot", "entry"] ["self"] (ax Aj):=aJ
theorem Nk:aF ["self", "frame"] ["self", "frame"] (ax A8):=aJ
theorem Nj:aF ["self", "sign"] ["self", "sign"] (ax A7):=aJ
theorem Gu:aF ["self", "many", "turn"] ["self", "many"] (ax A6):=aJ
theorem Ni:aF ["self"] ["self"] (ax A5):=aJ
theorem Nt:aF ["self"] ["self"] (ax Al):=aJ
theorem N1:aF ["self"] ["self"] (ax zy):=aJ
theorem rq:aF ["self", "row", "words", "name", "told"] ["self", "row"] (ax zo):=aJ
theorem Gr:aF ["self", "name", "frame", "text", "learner"] ["self", "name", "frame", "text"] (ax zP):=aJ
theorem Nq:aF ["self", "name"] ["self", "name"] (ax Ai):=aJ
theorem JP:bootBuiltins "abs" = some (.builtin "abs"):=by decide +kernel
theorem nI:bootBuiltins "all" = some (.builtin "all"):=by decide +kernel
theorem U7:bootBuiltins "bool" = some (.type "bool"):=by decide +kernel
theorem JO:bootBuiltins "enumerate" = some (.type "enumerate"):=by decide +kernel
theorem C6:bootBuiltins "int" = some (.type "int"):=by decide +kernel
theorem jP:bootBuiltins "isinstance" = some (.builtin "isinstance"):=by decide +kernel
theorem U6:bootBuiltins "len" = some (.builtin "len"):=by decide +kernel
theorem U5:bootBuiltins "list" = some (.type "list"):=by decide +kernel
theorem U4:bootBuiltins "max" = some (.builtin "max"):=by decide +kernel
theorem U3:bootBuiltins "min" = some (.builtin "min"):=by decide +kernel
theorem JN:bootBuiltins "ord" = some (.builtin "ord"):=by decide +kernel
theorem JM:bootBuiltins "reversed" = some (.type "reversed"):=by decide +kernel
theorem U2:bootBuiltins "set" = some (.type "set"):=by decide +kernel
theorem nH:bootBuiltins "str" = some (.type "str"):=by decide +kernel
theorem JL:bootBuiltins "sum" = some (.builtin "sum"):=by decide +kernel
theorem JK:bootBuiltins "tuple" = some (.type "tuple"):=by decide +kernel
set_option genInjectivity false in
set_option genSizeOf false in
structure Lo where
 vM:Addr
 tM:FuncData
 wz:Addr
 uh:FuncData
 vG:Addr
 tG:FuncData
 vF:Addr
 tF:FuncData
 wy:Addr
 ug:FuncData
 vL:Addr
 tL:FuncData
 wg:Addr
 ua:FuncData
 w9:Addr
 tZ:FuncData
 vE:Addr
 tE:FuncData
 vZ:Addr
 tY:FuncData
 we:Addr
 u9:FuncData
 vY:Addr
 tX:FuncData
 wx:Addr
 uf:FuncData
 xg:Addr
 uM:FuncData
 vK:Addr
 tK:FuncData
 pZ:Addr
 pI:FuncData
 qb:Addr
 pL:FuncData
 vf:Addr
 sS:FuncData
 vd:Addr
 sR:FuncData
 vD:Addr
 tD:FuncData
 qa:Addr
 pK:FuncData
 vk:Addr
 sY:FuncData
 vj:Addr
 sX:FuncData
 wN:Addr
 uz:FuncData
 lY:Addr
 lK:FuncData
 vg:Addr
 sT:FuncData
 vv:Addr
 t7:FuncData
 vi:Addr
 sW:FuncData
 vC:Addr
 tw:FuncData
 wZ:Addr
 uH:FuncData
 wM:Addr
 uy:FuncData
 vB:Addr
 tu:FuncData
 wu:Addr
 ue:FuncData
 vA:Addr
 tq:FuncData
 wL:Addr
 ux:FuncData
 lT:Addr
 sP:FuncData
 vX:Addr
 tW:FuncData
 lX:Addr
 tm:FuncData
 lV:Addr
 sV:FuncData
 lU:Addr
 sQ:FuncData
 vz:Addr
 tf:FuncData
 vJ:Addr
 tJ:FuncData
 vc:Addr
 sO:FuncData
 vW:Addr
 tV:FuncData
 wY:Addr
 uG:FuncData
 x6:Addr
 uI:FuncData
 wq:Addr
 ud:FuncData
 wK:Addr
 uw:FuncData
 vq:Addr
 t6:FuncData
 lZ:Addr
 lL:FuncData
 vx:Addr
 t9:FuncData
 wJ:Addr
 uv:FuncData
 lW:Addr
 lJ:FuncData
 vV:Addr
 tU:FuncData
 vI:Addr
 tI:FuncData
 wI:Addr
 uu:FuncData
 vU:Addr
 tT:FuncData
 vo:Addr
 t5:FuncData
 xf:Addr
 uL:FuncData
 wX:Addr
 uF:FuncData
 vh:Addr
 sU:FuncData
 vT:Addr
 tS:FuncData
 vS:Addr
 tR:FuncData
 vn:Addr
 t4:FuncData
 vm:Addr
 sZ:FuncData
 vR:Addr
 tQ:FuncData
 vw:Addr
 t8:FuncData
 wH:Addr
 ur:FuncData
 wc:Addr
 u7:FuncData
 vQ:Addr
 tP:FuncData
 wG:Addr
 uq:FuncData
 vP:Addr
 tO:FuncData
 x9:Addr
 uK:FuncData
 ve:Addr
 pJ:FuncData
 dt_span:Addr
 kt_span:Tok
 dt_text_at:Addr
 kt_text_at:Tok
 dt_press:Addr
 kt_press:Tok
 dt_read:Addr
 kt_read:Tok
 wk:Addr
 uc:FuncData
 wF:Addr
 uo:FuncData
 x8:Addr
 uJ:FuncData
 wW:Addr
 uE:FuncData
 wR:Addr
 uC:FuncData
 xh:Addr
 uN:FuncData
 wj:Addr
 ub:FuncData
 wQ:Addr
 uB:FuncData
 wD:Addr
 um:FuncData
 wC:Addr
 uk:FuncData
 wB:Addr
 uj:FuncData
 wA:Addr
 ui:FuncData
 wV:Addr
 uD:FuncData
 vO:Addr
 tN:FuncData
 vH:Addr
 tH:FuncData
 wa:Addr
 u6:FuncData
 wO:Addr
 uA:FuncData
 aS:Addr
 bC:Addr
 cJ:Addr
 q_NOUGHT:Addr
 q_ONE:Addr
 q_ROW_SIZES:Addr
 e_ROW_SIZES:Array DictEntry
 k_PER_CENT:Tok
 k_FEWEST_LETTERS:Tok
 k_MOST_LETTERS:Tok
 k_GREATEST_DEPTH:Tok
 k_FIGURES:Tok
 k_COUNTS:Tok
 k_WORTH:Tok
 k_WEIGHT:Tok
 k_MOST_SIGNS:Tok
 k_GROUP_SIGNS:Tok
 k_GROUP_SIZE:Tok
 k_CHECK_SIGNS:Tok
 k_CHECK_SIZE:Tok
 k_CHECK_DIVISOR:Tok
 k_LENGTH_SIZE:Tok
 k_NAME_SIGNS:Tok
 k_LONGEST_NAME:Tok
 k_MOST_FIGURES:Tok
 k_DONE:Tok
structure Txt(K:Frag)(mg:Str->Option Value)(t:Lo):Prop where
 xX:FX K mg "is_whole" zx t.vM t.tM ["thing"]
 D0:FX K mg "are_figures" A2 t.wz t.uh ["text"]
 CL:FX K mg "is_sign" zm t.vG t.tG ["thing"]
 CK:FX K mg "is_text" zj t.vF t.tF ["thing"]
 CZ:FX K mg "are_letters" zZ t.wy t.ug ["thing"]
 CN:FX K mg "is_depth" zw t.vL t.tL ["thing"]
 xZ:FX K mg "make_frame" zT t.wg t.ua ["letters", "depth"]
 CU:FX K mg "is_letter" zO t.w9 t.tZ ["frame", "thing"]
 o7:FX K mg "checked" zi t.vE t.tE ["frame", "text"]
 CT:FX K mg "elders_at" zN t.vZ t.tY ["frame", "text", "at"]
 KS:FX K mg "path_knots" zS t.we t.u9 ["frame", "text", "at"]
 CS:FX K mg "no_counts" zM t.vY t.tX ["frame"]
 KW:FX K mg "count_table" zY t.wx t.uf ["frame", "text"]
 Li:FX K mg "greatest_divisor" Ax t.xg t.uM ["one", "other"]
 j1:FX K mg "fraction" zu t.vK t.tK ["top", "bottom"]
 mr:FX K mg "plus" yK t.pZ t.pI ["one", "other"]
 qB:FX K mg "times" yU t.qb t.pL ["one", "other"]
 qA:FX K mg "half" yN t.vf t.sS ["one"]
 CD:FX K mg "over" yL t.vd t.sR ["one", "other"]
 CJ:FX K mg "product" zh t.vD t.tD ["many"]
 CG:FX K mg "under" yT t.qa t.pK ["one", "other"]
 Kw:FX K mg "share" yS t.vk t.sY ["counts", "place"]
 Kv:FX K mg "worth" yR t.vj t.sX ["counts"]
 L8:FX K mg "best_of_none" Ah t.wN t.uz ["frame", "knot"]
 CQ:FX K mg "best_from" zK t.lY t.lK ["frame", "table", "knot"]
 Ku:FX K mg "best" yO t.vg t.sT ["frame", "text"]
 KA:FX K mg "raised" yZ t.vv t.t7 ["counts", "place"]
 xV:FX K mg "grown" yQ t.vi t.sW ["frame", "text"]
 KH:FX K mg "is_bits" zf t.vC t.tw ["thing"]
 D7:FX K mg "number_in_twos" Aq t.wZ t.uH ["bits"]
 D5:FX K mg "bits_in_twos" Ag t.wM t.uy ["number", "many"]
 CI:FX K mg "stretch" ze t.vB t.tu ["bits"]
 CY:FX K mg "first_place" zX t.wu t.ue ["low", "parts"]
 KG:FX K mg "bits_of" zd t.vA t.tq ["low", "width"]
 L7:FX K mg "weight_ahead" Af t.wL t.ux ["growth", "sign"]
 F_span:FunD K "span" "span" mM t.lT t.sP t.dt_span
 b_span:d9 K t.sP ["frame", "text", "ahead"] []
 bd_span:d9 K t.sP ["frame", "text", "ahead"] [.str (Str.ofString "") t.kt_span]
 R5:mg "span" = some (.ref t.lT)
 KQ:FX K mg "letter_at" zJ t.vX t.tW ["growth", "low", "point"]
 F_Qte:FunD K "text_at" "text_at" mP t.lX t.tm t.dt_text_at
 b_text_at:d9 K t.tm ["frame", "many", "point", "ahead"] []
 Uc:d9 K t.tm ["frame", "many", "point", "ahead"] [.str (Str.ofString "") t.kt_text_at]
 Il:mg "text_at" = some (.ref t.lX)
 F_Qwa:FunD K "press" "press" mO t.lV t.sV t.dt_press
 b_press:d9 K t.sV ["frame", "text", "ahead"] []
 Ub:d9 K t.sV ["frame", "text", "ahead"] [.str (Str.ofString "") t.kt_press]
 rZ:mg "press" = some (.ref t.lV)
 F_read:FunD K "read" "read" mN t.lU t.sQ t.dt_read
 b_read:d9 K t.sQ ["frame", "many", "bits", "ahead"] []
 bd_read:d9 K t.sQ ["frame", "many", "bits", "ahead"] [.str (Str.ofString "") t.kt_read]
 R7:mg "read" = some (.ref t.lU)
 KD:FX K mg "grouped" z9 t.vz t.tf ["bits"]
 CM:FX K mg "check_of" zr t.vJ t.tJ ["body"]
 CC:FX K mg "wrap" yJ t.vc t.sO ["frame", "text"]
 xY:FX K mg "number_in" zI t.vW t.tV ["text", "many"]
 Ld:FX K mg "unpacked_frame" Ap t.wY t.uG ["depth", "letters"]
 Le:FX K mg "unpacked_length" As t.x6 t.uI ["text"]
 KU:FX K mg "filled_bits" zW t.wq t.ud ["groups"]
 L6:FX K mg "checked_body" Ae t.wK t.uw ["packet"]
 Kz:FX K mg "unwrap" yY t.vq t.t6 ["packet"]
 CW:FX K mg "is_tree_of" zR t.lZ t.lL ["letters", "thing", "steps"]
 KC:FX K mg "is_tree" z8 t.vx t.t9 ["frame", "thing"]
 L5:FX K mg "checked_tree" Ad t.wJ t.uv ["frame", "thing"]
 CH:FX K mg "written" z7 t.lW t.lJ ["tree"]
 KP:FX K mg "show_tree" zH t.vV t.tU ["frame", "tree"]
 KI:FX K mg "words_of" zq t.vI t.tI ["row"]
 L4:FX K mg "checked_name" Ac t.wI t.uu ["word"]
 KO:FX K mg "is_number" zG t.vU t.tT ["word"]
 xW:FX K mg "number" yX t.vo t.t5 ["word"]
 Lh:FX K mg "written_fraction" Aw t.xf t.uL ["one"]
 Lc:FX K mg "checked_letter" Ao t.wX t.uF ["learner", "word"]
 CF:FX K mg "learn" yP t.vh t.sU ["learner", "text"]
 KN:FX K mg "take_back" zF t.vT t.tS ["learner", "many"]
 KL:FX K mg "best_tree" zE t.vS t.tR ["learner"]
 Ky:FX K mg "answer" yW t.vn t.t4 ["learner", "words"]
 Kx:FX K mg "weight" yV t.vm t.sZ ["frame", "text"]
 o9:FX K mg "_law_cell_at" zD t.vR t.tQ ["script", "k"]
 ic:FX K mg "_law_mixed" z6 t.vw t.t8 ["cell", "k"]
 L3:FX K mg "_law_letters_by" Ab t.wH t.ur ["cell"]
 KR:FX K mg "_law_names_by" zQ t.wc t.u7 ["cell"]
 KJ:FX K mg "_law_text_by" zC t.vQ t.tP ["script", "letters", "way", "most"]
 L0:FX K mg "_law_is_written" Aa t.wG t.uq ["found"]
 qC:FX K mg "_law_answers" zA t.vP t.tO ["desk", "name", "second"]
 Lg:FX K mg "_law_back_and_forth" Av t.x9 t.uK ["desk", "name", "frame", "text", "gone"]
 Kt:FX K mg "law" yM t.ve t.pJ ["script"]
 qE:IX K t.aS "Growth.__init__" zV t.wk t.uc ["self", "frame"]
 y0:MX K t.aS "entry" "Growth.entry" A9 t.wF t.uo ["self", "knot"]
 Lf:MX K t.aS "branching" "Growth.branching" Au t.x8 t.uJ ["self", "knot", "changed"]
 D6:MX K t.aS "changes" "Growth.changes" Am t.wW t.uE ["self", "sign"]
 oe:MX K t.aS "weight" "Growth.weight" Ak t.wR t.uC ["self"]
 D8:MX K t.aS "weight_with" "Growth.weight_with" Ay t.xh t.uN ["self", "sign"]
 qD:MX K t.aS "grow" "Growth.grow" zU t.wj t.ub ["self", "sign"]
 La:MX K t.aS "shrink" "Growth.shrink" Aj t.wQ t.uB ["self"]
 D1:IX K t.bC "Learner.__init__" A8 t.wD t.um ["self", "frame"]
 KZ:MX K t.bC "take" "Learner.take" A7 t.wC t.uk ["self", "sign"]
 KY:MX K t.bC "back" "Learner.back" A6 t.wB t.uj ["self", "many"]
 oa:MX K t.bC "held" "Learner.held" A5 t.wA t.ui ["self"]
 Lb:MX K t.bC "weighs" "Learner.weighs" Al t.wV t.uD ["self"]
 CO:IX K t.cJ "Desk.__init__" zy t.vO t.tN ["self"]
 gD:MX K t.cJ "say" "Desk.say" zo t.vH t.tH ["self", "row"]
 CV:MX K t.cJ "place" "Desk.place" zP t.wa t.u6 ["self", "name", "frame", "text"]
 L9:MX K t.cJ "standing" "Desk.standing" Ai t.wO t.uA ["self", "name"]
 bY:fX K t.aS
 na_Growth_frame:gM K t.aS "frame"
 na_Growth_replaced:gM K t.aS "replaced"
 na_Growth_table:gM K t.aS "table"
 na_Growth_text:gM K t.aS "text"
 dX:fX K t.bC
 na_Learner_frame:gM K t.bC "frame"
 na_Learner_growth:gM K t.bC "growth"
 eG:fX K t.cJ
 na_Desk_learners:gM K t.cJ "learners"
 Iq:mg "abs" = none
 n5:mg "all" = none
 Rb:mg "bool" = none
 Ip:mg "enumerate" = none
 Bs:mg "int" = none
 jJ:mg "isinstance" = none
 ck:mg "len" = none
 Ra:mg "list" = none
 R9:mg "max" = none
 R8:mg "min" = none
 m_ord:mg "ord" = none
 iQ:mg "range" = none
 Io:mg "reversed" = none
 R6:mg "set" = none
 g9:mg "str" = none
 Im:mg "sum" = none
 Ik:mg "tuple" = none
 Iu:mg "Growth" = some (.ref t.aS)
 Rk:mg "Learner" = some (.ref t.bC)
 Rn:mg "Desk" = some (.ref t.cJ)
 Rg:mg "PER_CENT" = some (.int 37 t.k_PER_CENT)
 m_FEWEST_LETTERS:mg "FEWEST_LETTERS" = some (.int 2 t.k_FEWEST_LETTERS)
 Ri:mg "MOST_LETTERS" = some (.int 6 t.k_MOST_LETTERS)
 m_GREATEST_DEPTH:mg "GREATEST_DEPTH" = some (.int 6 t.k_GREATEST_DEPTH)
 Rm:mg "FIGURES" = some (.str "0123456789" t.k_FIGURES)
 Iv:mg "COUNTS" = some (.int 0 t.k_COUNTS)
 Rc:mg "WORTH" = some (.int 1 t.k_WORTH)
 sd:mg "WEIGHT" = some (.int 2 t.k_WEIGHT)
 Ir:mg "MOST_SIGNS" = some (.int 100 t.k_MOST_SIGNS)
 Bv:mg "GROUP_SIGNS" = some (.str "abcdefghijklmnopqrstuvwxyz234567" t.k_GROUP_SIGNS)
 sf:mg "GROUP_SIZE" = some (.int 5 t.k_GROUP_SIZE)
 Iw:mg "CHECK_SIGNS" = some (.str "ABCDEFGHIJ" t.k_CHECK_SIGNS)
 Ro:mg "CHECK_SIZE" = some (.int 2 t.k_CHECK_SIZE)
 m_CHECK_DIVISOR:mg "CHECK_DIVISOR" = some (.int 97 t.k_CHECK_DIVISOR)
 Bu:mg "LENGTH_SIZE" = some (.int 3 t.k_LENGTH_SIZE)
 Rh:mg "NAME_SIGNS" = some (.str "abcdefghijklmnopqrstuvwxyz" t.k_NAME_SIGNS)
 Rl:mg "LONGEST_NAME" = some (.int 8 t.k_LONGEST_NAME)
 Rj:mg "MOST_FIGURES" = some (.int 3 t.k_MOST_FIGURES)
 Bw:mg "DONE" = some (.str "ok" t.k_DONE)
 Bt:mg "NOUGHT" = some (.ref t.q_NOUGHT)
 tc_NOUGHT:∃(o:Obj) (its:Array Value) (n:Nat),K.lookup t.q_NOUGHT=some o/\o.cls=.type "tuple" /\ o.data=.seq its n/\its.size<=sizeLine/\aB [.int 0,.int 1] its.toList
 pq:mg "ONE" = some (.ref t.q_ONE)
 tc_ONE:∃(o:Obj) (its:Array Value) (n:Nat),K.lookup t.q_ONE=some o/\o.cls=.type "tuple" /\ o.data=.seq its n/\its.size<=sizeLine/\aB [.int 1,.int 1] its.toList
 Rf:mg "ROW_SIZES" = some (.ref t.q_ROW_SIZES)
 cd_ROW_SIZES:Lm K t.q_ROW_SIZES t.e_ROW_SIZES [("frame",4),("learn",3),("back",3),("held",2),("weight",2),("chance",3),("tree",2),("press",3),("read",4),("wrap",2),("unwrap",3)]
 bl:∀(s:Shared) (v:Value),BindsTo s t.pJ ⟨[v],[]⟩ [("script",v)]
section
variable {K:Frag}
abbrev kJ(x qual:Str)(st:Stmt)(kV doc pm:Value)(an:Option Addr)(cdv ct:Value):FuncData:=fnOf x qual (fu st) (dJ st) (ax st) .none kV doc pm an cdv ct
noncomputable def Fx(K:Frag)(x:Str)(st:Stmt)(a:Addr)(fd:FuncData):Prop:=dN K x x st a fd/\nsIn K mainGlobals x=some (some (.ref a))
noncomputable def Mx(K:Frag)(x qual:Str)(st:Stmt)(c a:Addr)(fd:FuncData):Prop:=dN K x qual st a fd/\PySem.W.findIn K (.ref c) x=some (some (.ref a))/\isFn K (.ref a)=true
theorem fx{x:Str}{st:Stmt}{a:Addr}{oc kV doc pm cdv ct:Value}{od an:Option Addr}{osl:Array (Option Value)}(n:nsIn K mainGlobals x=some (some (.ref a)))(l:K.lookup a=some ⟨oc,od,.func (fnOf x x (fu st) (dJ st) (ax st) .none kV doc pm an cdv ct),osl⟩)
 (c:codeIn K cdv x=true) (k:keepIn K (.ref a)=true):Fx K x st a (fnOf x x (fu st) (dJ st) (ax st) .none kV doc pm an cdv ct):=⟨J4 l c k,n⟩
theorem mx{x qual:Str}{st:Stmt}{b a:Addr}{oc kV doc pm cdv ct:Value}{od an:Option Addr}{osl:Array (Option Value)}(n:PySem.W.findIn K (.ref b) x=some (some (.ref a)))(i:isFn K (.ref a)=true)(l:K.lookup a=some ⟨oc,od,.func (fnOf x qual (fu st) (dJ st) (ax st) .none kV doc pm an cdv ct),osl⟩)
 (c:codeIn K cdv qual=true) (k:keepIn K (.ref a)=true):Mx K x qual st b a (fnOf x qual (fu st) (dJ st) (ax st) .none kV doc pm an cdv ct):=⟨J4 l c k,n,i⟩
variable {x qual:Str} {st:Stmt} {f:Addr} {fd:FuncData}
theorem b1{p0:Str}(F:dN K x qual st f fd)(h:∀(kV doc pm:Value) (an:Option Addr) (cdv ct u0:Value),bindArgs (kJ x qual st kV doc pm an cdv ct) ⟨[u0],[]⟩=pure [(p0,u0)]):d9 K fd [p0] []:=F.binds λ_ _ _ _ _ _ us hl=>match us,hl with | [_],_=>h ..
theorem b2{p0 p1:Str}(F:dN K x qual st f fd)(h:∀(kV doc pm:Value) (an:Option Addr) (cdv ct u0 u1:Value),bindArgs (kJ x qual st kV doc pm an cdv ct) ⟨[u0,u1],[]⟩=pure [(p0,u0),(p1,u1)]):d9 K fd [p0,p1] []:=F.binds λ_ _ _ _ _ _ us hl=>match us,hl with | [_,_],_=>h ..
theorem b3{p0 p1 p2:Str}(F:dN K x qual st f fd)(h:∀(kV doc pm:Value) (an:Option Addr) (cdv ct u0 u1 u2:Value),bindArgs (kJ x qual st kV doc pm an cdv ct) ⟨[u0,u1,u2],[]⟩=pure [(p0,u0),(p1,u1),(p2,u2)]):d9 K fd [p0,p1,p2] []:=F.binds λ_ _ _ _ _ _ us hl=>match us,hl with | [_,_,_],_=>h ..
theorem b4{p0 p1 p2 p3:Str}(F:dN K x qual st f fd)(h:∀(kV doc pm:Value) (an:Option Addr) (cdv ct u0 u1 u2 u3:Value),bindArgs (kJ x qual st kV doc pm an cdv ct) ⟨[u0,u1,u2,u3],[]⟩=pure [(p0,u0),(p1,u1),(p2,u2),(p3,u3)]):d9 K fd [p0,p1,p2,p3] []:=F.binds λ_ _ _ _ _ _ us hl=>match us,hl with | [_,_,_,_],_=>h ..
theorem b5{p0 p1 p2 p3 p4:Str}(F:dN K x qual st f fd)(h:∀(kV doc pm:Value) (an:Option Addr) (cdv ct u0 u1 u2 u3 u4:Value),bindArgs (kJ x qual st kV doc pm an cdv ct) ⟨[u0,u1,u2,u3,u4],[]⟩=pure [(p0,u0),(p1,u1),(p2,u2),(p3,u3),(p4,u4)]):d9 K fd [p0,p1,p2,p3,p4] []:=F.binds λ_ _ _ _ _ _ us hl=>match us,hl with | [_,_,_,_,_],_=>h ..
theorem b6{p0 p1 p2 p3 p4 p5:Str}(F:dN K x qual st f fd)(h:∀(kV doc pm:Value) (an:Option Addr) (cdv ct u0 u1 u2 u3 u4 u5:Value),bindArgs (kJ x qual st kV doc pm an cdv ct) ⟨[u0,u1,u2,u3,u4,u5],[]⟩=pure [(p0,u0),(p1,u1),(p2,u2),(p3,u3),(p4,u4),(p5,u5)]):d9 K fd [p0,p1,p2,p3,p4,p5] []:=F.binds λ_ _ _ _ _ _ us hl=>match us,hl with | [_,_,_,_,_,_],_=>h ..
theorem b0(F:dN K x qual st f fd)(h:∀(kV doc pm:Value) (an:Option Addr) (cdv ct:Value),bindArgs (kJ x qual st kV doc pm an cdv ct) ⟨[],[]⟩=pure []):d9 K fd [] []:=F.binds λ_ _ _ _ _ _ us hl=>match us,hl with | [],_=>h ..
theorem U8{p0:Str}(F:dN K x qual st f fd)(h:∀(kV doc pm:Value) (an:Option Addr) (cdv ct u0:Value),bindArgs (kJ x qual st kV doc pm an cdv ct) ⟨[u0],[]⟩=pure [(p0,u0)])(s:Shared)(v:Value):BindsTo s fd ⟨[v],[]⟩ [(p0,v)]:=by
 obtain⟨oc,od,kV,doc,pm,an,cdv,ct,osl,rfl,lk,hcd⟩:=F.ex
 exact .of_eq (h ..)
end
theorem LG{K:Frag}{h:Heap}{mg:Str->Option Value}(X:K.In h)(G:h.Ns mainGlobals mg)
 {vM:Addr} {tM:FuncData}
 {wz:Addr} {uh:FuncData}
 {vG:Addr} {tG:FuncData}
 {vF:Addr} {tF:FuncData}
 {wy:Addr} {ug:FuncData}
 {vL:Addr} {tL:FuncData}
 {wg:Addr} {ua:FuncData}
 {w9:Addr} {tZ:FuncData}
 {vE:Addr} {tE:FuncData}
 {vZ:Addr} {tY:FuncData}
 {we:Addr} {u9:FuncData}
 {vY:Addr} {tX:FuncData}
 {wx:Addr} {uf:FuncData}
 {xg:Addr} {uM:FuncData}
 {vK:Addr} {tK:FuncData}
 {pZ:Addr} {pI:FuncData}
 {qb:Addr} {pL:FuncData}
 {vf:Addr} {sS:FuncData}
 {vd:Addr} {sR:FuncData}
 {vD:Addr} {tD:FuncData}
 {qa:Addr} {pK:FuncData}
 {vk:Addr} {sY:FuncData}
 {vj:Addr} {sX:FuncData}
 {wN:Addr} {uz:FuncData}
 {lY:Addr} {lK:FuncData}
 {vg:Addr} {sT:FuncData}
 {vv:Addr} {t7:FuncData}
 {vi:Addr} {sW:FuncData}
 {vC:Addr} {tw:FuncData}
 {wZ:Addr} {uH:FuncData}
 {wM:Addr} {uy:FuncData}
 {vB:Addr} {tu:FuncData}
 {wu:Addr} {ue:FuncData}
 {vA:Addr} {tq:FuncData}
 {wL:Addr} {ux:FuncData}
 {lT:Addr} {oc_span kV_span dc_span pm_span cd_span ct_span:Value} {od_span an_span:Option Addr} {sl_span:Array (Option Value)}
 {vX:Addr} {tW:FuncData}
 {lX:Addr} {oc_text_at kV_text_at dc_text_at pm_text_at cd_text_at ct_text_at:Value} {od_text_at an_text_at:Option Addr} {sl_text_at:Array (Option Value)}
 {lV:Addr} {oc_press kV_press dc_press pm_press cd_press ct_press:Value} {od_press an_press:Option Addr} {sl_press:Array (Option Value)}
 {lU:Addr} {oc_read kV_read dc_read pm_read cd_read ct_read:Value} {od_read an_read:Option Addr} {sl_read:Array (Option Value)}
 {vz:Addr} {tf:FuncData}
 {vJ:Addr} {tJ:FuncData}
 {vc:Addr} {sO:FuncData}
 {vW:Addr} {tV:FuncData}
 {wY:Addr} {uG:FuncData}
 {x6:Addr} {uI:FuncData}
 {wq:Addr} {ud:FuncData}
 {wK:Addr} {uw:FuncData}
 {vq:Addr} {t6:FuncData}
 {lZ:Addr} {lL:FuncData}
 {vx:Addr} {t9:FuncData}
 {wJ:Addr} {uv:FuncData}
 {lW:Addr} {lJ:FuncData}
 {vV:Addr} {tU:FuncData}
 {vI:Addr} {tI:FuncData}
 {wI:Addr} {uu:FuncData}
 {vU:Addr} {tT:FuncData}
 {vo:Addr} {t5:FuncData}
 {xf:Addr} {uL:FuncData}
 {wX:Addr} {uF:FuncData}
 {vh:Addr} {sU:FuncData}
 {vT:Addr} {tS:FuncData}
 {vS:Addr} {tR:FuncData}
 {vn:Addr} {t4:FuncData}
 {vm:Addr} {sZ:FuncData}
 {vR:Addr} {tQ:FuncData}
 {vw:Addr} {t8:FuncData}
 {wH:Addr} {ur:FuncData}
 {wc:Addr} {u7:FuncData}
 {vQ:Addr} {tP:FuncData}
 {wG:Addr} {uq:FuncData}
 {vP:Addr} {tO:FuncData}
 {x9:Addr} {uK:FuncData}
 {ve:Addr} {pJ:FuncData}
 {wk:Addr} {uc:FuncData}
 {wF:Addr} {uo:FuncData}
 {x8:Addr} {uJ:FuncData}
 {wW:Addr} {uE:FuncData}
 {wR:Addr} {uC:FuncData}
 {xh:Addr} {uN:FuncData}
 {wj:Addr} {ub:FuncData}
 {wQ:Addr} {uB:FuncData}
 {wD:Addr} {um:FuncData}
 {wC:Addr} {uk:FuncData}
 {wB:Addr} {uj:FuncData}
 {wA:Addr} {ui:FuncData}
 {wV:Addr} {uD:FuncData}
 {vO:Addr} {tN:FuncData}
 {vH:Addr} {tH:FuncData}
 {wa:Addr} {u6:FuncData}
 {wO:Addr} {uA:FuncData}
 {dt_span:Addr} {kt_span:Tok} {odt_span:Option Addr} {nnt_span:Nat} {slt_span:Array (Option Value)}
 {dt_text_at:Addr} {kt_text_at:Tok} {odt_text_at:Option Addr} {nnt_text_at:Nat} {slt_text_at:Array (Option Value)}
 {dt_press:Addr} {kt_press:Tok} {odt_press:Option Addr} {nnt_press:Nat} {slt_press:Array (Option Value)}
 {dt_read:Addr} {kt_read:Tok} {odt_read:Option Addr} {nnt_read:Nat} {slt_read:Array (Option Value)}
 {aS:Addr}
 {bC:Addr}
 {cJ:Addr}
 {q_NOUGHT:Addr} {od_NOUGHT:Option Addr} {sl_NOUGHT:Array (Option Value)} {nn_NOUGHT:Nat} {i0_NOUGHT i1_NOUGHT:Tok}
 {q_ONE:Addr} {od_ONE:Option Addr} {sl_ONE:Array (Option Value)} {nn_ONE:Nat} {i0_ONE i1_ONE:Tok}
 {k_PER_CENT:Tok}
 {k_FEWEST_LETTERS:Tok}
 {k_MOST_LETTERS:Tok}
 {k_GREATEST_DEPTH:Tok}
 {k_FIGURES:Tok}
 {k_COUNTS:Tok}
 {k_WORTH:Tok}
 {k_WEIGHT:Tok}
 {k_MOST_SIGNS:Tok}
 {k_GROUP_SIGNS:Tok}
 {k_GROUP_SIZE:Tok}
 {k_CHECK_SIGNS:Tok}
 {k_CHECK_SIZE:Tok}
 {k_CHECK_DIVISOR:Tok}
 {k_LENGTH_SIZE:Tok}
 {k_NAME_SIGNS:Tok}
 {k_LONGEST_NAME:Tok}
 {k_MOST_FIGURES:Tok}
 {k_DONE:Tok}
 {q_ROW_SIZES:Addr} {e_ROW_SIZES:Array DictEntry} {nn_ROW_SIZES:Nat} {d0_ROW_SIZES d1_ROW_SIZES d2_ROW_SIZES d3_ROW_SIZES d4_ROW_SIZES d5_ROW_SIZES d6_ROW_SIZES d7_ROW_SIZES d8_ROW_SIZES d9_ROW_SIZES d10_ROW_SIZES:Tok} {w:World}
 (f_Qrw:Fx K "is_whole" zx vM tM)
 (f_Qmd:Fx K "are_figures" A2 wz uh)
 (f_Qsx:Fx K "is_sign" zm vG tG)
 (f_Qsy:Fx K "is_text" zj vF tF)
 (f_Qme:Fx K "are_letters" zZ wy ug)
 (f_Qrx:Fx K "is_depth" zw vL tL)
 (f_Qnt:Fx K "make_frame" zT wg ua)
 (f_Qpy:Fx K "is_letter" zO w9 tZ)
 (f_Qsz:Fx K "checked" zi vE tE)
 (f_Qpz:Fx K "elders_at" zN vZ tY)
 (f_Qnu:Fx K "path_knots" zS we u9)
 (f_Qqa:Fx K "no_counts" zM vY tX)
 (f_Qmf:Fx K "count_table" zY wx uf)
 (f_Qdo:Fx K "greatest_divisor" Ax xg uM)
 (f_Qry:Fx K "fraction" zu vK tK)
 (f_plus:Fx K "plus" yK pZ pI)
 (f_Qvv:Fx K "times" yU qb pL)
 (f_half:Fx K "half" yN vf sS)
 (f_over:Fx K "over" yL vd sR)
 (f_Qta:Fx K "product" zh vD tD)
 (f_Qvw:Fx K "under" yT qa pK)
 (f_Qvx:Fx K "share" yS vk sY)
 (f_Qvy:Fx K "worth" yR vj sX)
 (f_Qju:Fx K "best_of_none" Ah wN uz)
 (f_Qqb:Fx K "best_from" zK lY lK)
 (f_best:Fx K "best" yO vg sT)
 (f_Qva:Fx K "raised" yZ vv t7)
 (f_Qvz:Fx K "grown" yQ vi sW)
 (f_Qtb:Fx K "is_bits" zf vC tw)
 (f_Qgi:Fx K "number_in_twos" Aq wZ uH)
 (f_Qjv:Fx K "bits_in_twos" Ag wM uy)
 (f_Qtc:Fx K "stretch" ze vB tu)
 (f_Qmg:Fx K "first_place" zX wu ue)
 (f_Qtd:Fx K "bits_of" zd vA tq)
 (f_Qjw:Fx K "weight_ahead" Af wL ux)
 (n_span:nsIn K mainGlobals "span" = some (some (.ref lT)))
 (l_span:K.lookup lT=some ⟨oc_span,od_span,.func (fnOf "span" "span" (fu mM) (dJ mM) (ax mM) (.ref dt_span) kV_span dc_span pm_span an_span cd_span ct_span),sl_span⟩)
 (ld_span:K.lookup dt_span=some ⟨.type "tuple",odt_span,.seq #[.str (Str.ofString "") kt_span] nnt_span,slt_span⟩)
 (o_span:codeIn K cd_span "span" = true)
 (k_span:keepIn K (.ref lT)=true)
 (f_Qqc:Fx K "letter_at" zJ vX tW)
 (n_text_at:nsIn K mainGlobals "text_at" = some (some (.ref lX)))
 (l_text_at:K.lookup lX=some ⟨oc_text_at,od_text_at,.func (fnOf "text_at" "text_at" (fu mP) (dJ mP) (ax mP) (.ref dt_text_at) kV_text_at dc_text_at pm_text_at an_text_at cd_text_at ct_text_at),sl_text_at⟩)
 (ld_Qte:K.lookup dt_text_at=some ⟨.type "tuple",odt_text_at,.seq #[.str (Str.ofString "") kt_text_at] nnt_text_at,slt_text_at⟩)
 (o_text_at:codeIn K cd_text_at "text_at" = true)
 (k_text_at:keepIn K (.ref lX)=true)
 (n_press:nsIn K mainGlobals "press" = some (some (.ref lV)))
 (l_press:K.lookup lV=some ⟨oc_press,od_press,.func (fnOf "press" "press" (fu mO) (dJ mO) (ax mO) (.ref dt_press) kV_press dc_press pm_press an_press cd_press ct_press),sl_press⟩)
 (ld_Qwa:K.lookup dt_press=some ⟨.type "tuple",odt_press,.seq #[.str (Str.ofString "") kt_press] nnt_press,slt_press⟩)
 (o_press:codeIn K cd_press "press" = true)
 (k_press:keepIn K (.ref lV)=true)
 (n_read:nsIn K mainGlobals "read" = some (some (.ref lU)))
 (l_read:K.lookup lU=some ⟨oc_read,od_read,.func (fnOf "read" "read" (fu mN) (dJ mN) (ax mN) (.ref dt_read) kV_read dc_read pm_read an_read cd_read ct_read),sl_read⟩)
 (ld_read:K.lookup dt_read=some ⟨.type "tuple",odt_read,.seq #[.str (Str.ofString "") kt_read] nnt_read,slt_read⟩)
 (o_read:codeIn K cd_read "read" = true)
 (k_read:keepIn K (.ref lU)=true)
 (f_Qtf:Fx K "grouped" z9 vz tf)
 (f_Qrz:Fx K "check_of" zr vJ tJ)
 (f_wrap:Fx K "wrap" yJ vc sO)
 (f_Qqd:Fx K "number_in" zI vW tV)
 (f_Qgj:Fx K "unpacked_frame" Ap wY uG)
 (f_Qek:Fx K "unpacked_length" As x6 uI)
 (f_Qmh:Fx K "filled_bits" zW wq ud)
 (f_Qjx:Fx K "checked_body" Ae wK uw)
 (f_Qvb:Fx K "unwrap" yY vq t6)
 (f_Qnv:Fx K "is_tree_of" zR lZ lL)
 (f_Qtg:Fx K "is_tree" z8 vx t9)
 (f_Qjy:Fx K "checked_tree" Ad wJ uv)
 (f_Qth:Fx K "written" z7 lW lJ)
 (f_Qqe:Fx K "show_tree" zH vV tU)
 (f_Qsa:Fx K "words_of" zq vI tI)
 (f_Qjz:Fx K "checked_name" Ac wI uu)
 (f_Qqf:Fx K "is_number" zG vU tT)
 (f_Qvc:Fx K "number" yX vo t5)
 (f_Qdp:Fx K "written_fraction" Aw xf uL)
 (f_Qgk:Fx K "checked_letter" Ao wX uF)
 (f_Qwb:Fx K "learn" yP vh sU)
 (f_Qqg:Fx K "take_back" zF vT tS)
 (f_Qqh:Fx K "best_tree" zE vS tR)
 (f_Qvd:Fx K "answer" yW vn t4)
 (f_Qve:Fx K "weight" yV vm sZ)
 (f_Qqi:Fx K "_law_cell_at" zD vR tQ)
 (f_Qti:Fx K "_law_mixed" z6 vw t8)
 (f_Qka:Fx K "_law_letters_by" Ab wH ur)
 (f_Qnw:Fx K "_law_names_by" zQ wc u7)
 (f_Qqj:Fx K "_law_text_by" zC vQ tP)
 (f_Qkb:Fx K "_law_is_written" Aa wG uq)
 (f_Qqk:Fx K "_law_answers" zA vP tO)
 (f_Qdq:Fx K "_law_back_and_forth" Av x9 uK)
 (f_law:Fx K "law" yM ve pJ)
 (n_Growth:nsIn K mainGlobals "Growth" = some (some (.ref aS)))
 (n_Learner:nsIn K mainGlobals "Learner" = some (some (.ref bC)))
 (n_Desk:nsIn K mainGlobals "Desk" = some (some (.ref cJ)))
 (f_Qmi:Mx K "__init__" "Growth.__init__" zV aS wk uc)
 (f_Qkc:Mx K "entry" "Growth.entry" A9 aS wF uo)
 (f_Qdr:Mx K "branching" "Growth.branching" Au aS x8 uJ)
 (f_Qgl:Mx K "changes" "Growth.changes" Am aS wW uE)
 (f_Qid:Mx K "weight" "Growth.weight" Ak aS wR uC)
 (f_Qbv:Mx K "weight_with" "Growth.weight_with" Ay aS xh uN)
 (f_Qmj:Mx K "grow" "Growth.grow" zU aS wj ub)
 (f_Qie:Mx K "shrink" "Growth.shrink" Aj aS wQ uB)
 (f_Qkd:Mx K "__init__" "Learner.__init__" A8 bC wD um)
 (f_Qke:Mx K "take" "Learner.take" A7 bC wC uk)
 (f_Qkf:Mx K "back" "Learner.back" A6 bC wB uj)
 (f_Qkg:Mx K "held" "Learner.held" A5 bC wA ui)
 (f_Qgm:Mx K "weighs" "Learner.weighs" Al bC wV uD)
 (f_Qql:Mx K "__init__" "Desk.__init__" zy cJ vO tN)
 (f_Qsb:Mx K "say" "Desk.say" zo cJ vH tH)
 (f_Qnx:Mx K "place" "Desk.place" zP cJ wa u6)
 (f_Qif:Mx K "standing" "Desk.standing" Ai cJ wO uA)
 (pg_Growth:plainGet K aS Str.empty=true)
 (hd_Growth:hasDictIn K aS=true)
 (po_Growth:plainOver K aS=true)
 (sa_Growth:PySem.W.findIn K (.ref aS) "__setattr__" = some (some (.builtin "object.__setattr__")))
 (mk_Growth:makesIn K aS=true)
 (kc_Growth:keepIn K (.ref aS)=true)
 (na_Growth_frame:PySem.W.findIn K (.ref aS) "frame" = some none)
 (na_Growth_replaced:PySem.W.findIn K (.ref aS) "replaced" = some none)
 (na_Growth_table:PySem.W.findIn K (.ref aS) "table" = some none)
 (na_Growth_text:PySem.W.findIn K (.ref aS) "text" = some none)
 (pg_Learner:plainGet K bC Str.empty=true)
 (hd_Learner:hasDictIn K bC=true)
 (po_Learner:plainOver K bC=true)
 (sa_Learner:PySem.W.findIn K (.ref bC) "__setattr__" = some (some (.builtin "object.__setattr__")))
 (mk_Learner:makesIn K bC=true)
 (kc_Learner:keepIn K (.ref bC)=true)
 (na_Learner_frame:PySem.W.findIn K (.ref bC) "frame" = some none)
 (na_Learner_growth:PySem.W.findIn K (.ref bC) "growth" = some none)
 (pg_Desk:plainGet K cJ Str.empty=true)
 (hd_Desk:hasDictIn K cJ=true)
 (po_Desk:plainOver K cJ=true)
 (sa_Desk:PySem.W.findIn K (.ref cJ) "__setattr__" = some (some (.builtin "object.__setattr__")))
 (mk_Desk:makesIn K cJ=true)
 (kc_Desk:keepIn K (.ref cJ)=true)
 (na_Desk_learners:PySem.W.findIn K (.ref cJ) "learners" = some none)
 (n_abs:nsIn K mainGlobals "abs" = some none)
 (n_all:nsIn K mainGlobals "all" = some none)
 (n_bool:nsIn K mainGlobals "bool" = some none)
 (n_enumerate:nsIn K mainGlobals "enumerate" = some none)
 (n_int:nsIn K mainGlobals "int" = some none)
 (n_isinstance:nsIn K mainGlobals "isinstance" = some none)
 (n_len:nsIn K mainGlobals "len" = some none)
 (n_list:nsIn K mainGlobals "list" = some none)
 (n_max:nsIn K mainGlobals "max" = some none)
 (n_min:nsIn K mainGlobals "min" = some none)
 (n_ord:nsIn K mainGlobals "ord" = some none)
 (n_range:nsIn K mainGlobals "range" = some none)
 (n_reversed:nsIn K mainGlobals "reversed" = some none)
 (n_set:nsIn K mainGlobals "set" = some none)
 (n_str:nsIn K mainGlobals "str" = some none)
 (n_sum:nsIn K mainGlobals "sum" = some none)
 (n_tuple:nsIn K mainGlobals "tuple" = some none)
 (n_PER_CENT:nsIn K mainGlobals "PER_CENT" = some (some (.int 37 k_PER_CENT)))
 (n_FEWEST_LETTERS:nsIn K mainGlobals "FEWEST_LETTERS" = some (some (.int 2 k_FEWEST_LETTERS)))
 (n_MOST_LETTERS:nsIn K mainGlobals "MOST_LETTERS" = some (some (.int 6 k_MOST_LETTERS)))
 (n_GREATEST_DEPTH:nsIn K mainGlobals "GREATEST_DEPTH" = some (some (.int 6 k_GREATEST_DEPTH)))
 (n_FIGURES:nsIn K mainGlobals "FIGURES" = some (some (.str "0123456789" k_FIGURES)))
 (n_COUNTS:nsIn K mainGlobals "COUNTS" = some (some (.int 0 k_COUNTS)))
 (n_WORTH:nsIn K mainGlobals "WORTH" = some (some (.int 1 k_WORTH)))
 (n_WEIGHT:nsIn K mainGlobals "WEIGHT" = some (some (.int 2 k_WEIGHT)))
 (n_MOST_SIGNS:nsIn K mainGlobals "MOST_SIGNS" = some (some (.int 100 k_MOST_SIGNS)))
 (n_GROUP_SIGNS:nsIn K mainGlobals "GROUP_SIGNS" = some (some (.str "abcdefghijklmnopqrstuvwxyz234567" k_GROUP_SIGNS)))
 (n_GROUP_SIZE:nsIn K mainGlobals "GROUP_SIZE" = some (some (.int 5 k_GROUP_SIZE)))
 (n_CHECK_SIGNS:nsIn K mainGlobals "CHECK_SIGNS" = some (some (.str "ABCDEFGHIJ" k_CHECK_SIGNS)))
 (n_CHECK_SIZE:nsIn K mainGlobals "CHECK_SIZE" = some (some (.int 2 k_CHECK_SIZE)))
 (n_CHECK_DIVISOR:nsIn K mainGlobals "CHECK_DIVISOR" = some (some (.int 97 k_CHECK_DIVISOR)))
 (n_LENGTH_SIZE:nsIn K mainGlobals "LENGTH_SIZE" = some (some (.int 3 k_LENGTH_SIZE)))
 (n_NAME_SIGNS:nsIn K mainGlobals "NAME_SIGNS" = some (some (.str "abcdefghijklmnopqrstuvwxyz" k_NAME_SIGNS)))
 (n_LONGEST_NAME:nsIn K mainGlobals "LONGEST_NAME" = some (some (.int 8 k_LONGEST_NAME)))
 (n_MOST_FIGURES:nsIn K mainGlobals "MOST_FIGURES" = some (some (.int 3 k_MOST_FIGURES)))
 (n_DONE:nsIn K mainGlobals "DONE" = some (some (.str "ok" k_DONE)))
 (n_NOUGHT:nsIn K mainGlobals "NOUGHT" = some (some (.ref q_NOUGHT)))
 (lk_NOUGHT:K.lookup q_NOUGHT=some ⟨.type "tuple",od_NOUGHT,.seq #[.int 0 i0_NOUGHT,.int 1 i1_NOUGHT] nn_NOUGHT,sl_NOUGHT⟩)
 (n_ONE:nsIn K mainGlobals "ONE" = some (some (.ref q_ONE)))
 (lk_ONE:K.lookup q_ONE=some ⟨.type "tuple",od_ONE,.seq #[.int 1 i0_ONE,.int 1 i1_ONE] nn_ONE,sl_ONE⟩)
 (n_ROW_SIZES:nsIn K mainGlobals "ROW_SIZES" = some (some (.ref q_ROW_SIZES)))
 (lk_ROW_SIZES:K.lookup q_ROW_SIZES=some ⟨.type "dict",none,.dict e_ROW_SIZES nn_ROW_SIZES,#[]⟩)
 (lo_ROW_SIZES:(q_ROW_SIZES == sysModules)=false)
 (nd0_ROW_SIZES:nsIn K q_ROW_SIZES "frame" = some (some (.int 4 d0_ROW_SIZES)))
 (nd1_ROW_SIZES:nsIn K q_ROW_SIZES "learn" = some (some (.int 3 d1_ROW_SIZES)))
 (nd2_ROW_SIZES:nsIn K q_ROW_SIZES "back" = some (some (.int 3 d2_ROW_SIZES)))
 (nd3_ROW_SIZES:nsIn K q_ROW_SIZES "held" = some (some (.int 2 d3_ROW_SIZES)))
 (nd4_ROW_SIZES:nsIn K q_ROW_SIZES "weight" = some (some (.int 2 d4_ROW_SIZES)))
 (nd5_ROW_SIZES:nsIn K q_ROW_SIZES "chance" = some (some (.int 3 d5_ROW_SIZES)))
 (nd6_ROW_SIZES:nsIn K q_ROW_SIZES "tree" = some (some (.int 2 d6_ROW_SIZES)))
 (nd7_ROW_SIZES:nsIn K q_ROW_SIZES "press" = some (some (.int 3 d7_ROW_SIZES)))
 (nd8_ROW_SIZES:nsIn K q_ROW_SIZES "read" = some (some (.int 4 d8_ROW_SIZES)))
 (nd9_ROW_SIZES:nsIn K q_ROW_SIZES "wrap" = some (some (.int 2 d9_ROW_SIZES)))
 (nd10_ROW_SIZES:nsIn K q_ROW_SIZES "unwrap" = some (some (.int 3 d10_ROW_SIZES)))
 (kl_ROW_SIZES:KeysLit w.params e_ROW_SIZES.toList)
 : ∃t,Txt K mg t/\KeysLit w.params t.e_ROW_SIZES.toList:=by
 have F_span:=sH (x := "span") (qual := "span") (st:=mM) l_span o_span k_span
 have F_Qte:=sH (x := "text_at") (qual := "text_at") (st:=mP) l_text_at o_text_at k_text_at
 have F_Qwa:=sH (x := "press") (qual := "press") (st:=mO) l_press o_press k_press
 have F_read:=sH (x := "read") (qual := "read") (st:=mN) l_read o_read k_read
 exact⟨⟨_,_,_,_,_,_,_,_,_,_,_,_,_,_,_,_,_,_,_,_,_,_,_,_,_,_,_,_,_,_,_,_,_,_,_,_,_,_,_,_,_,_,_,_,_,_,_,_,_,_,_,_,_,_,_,_,_,_,_,_,_,_,_,_,_,_,_,_,_,_,_,_,_,_,_,_,_,_,_,_,_,_,_,_,_,_,_,_,_,_,_,_,_,_,_,_,_,_,_,_,_,_,_,_,_,_,_,_,_,_,_,_,_,_,_,_,_,_,_,_,_,_,_,_,_,_,_,_,_,_,_,_,_,_,_,_,_,_,_,_,_,_,_,_,_,_,_,_,_,_,_,_,_,_,_,_,_,_,_,_,_,_,_,_,_,_,_,_,_,_,_,_,_,_,_,_,_,_,_,_,_,_,_,_,_,_,_,_,_,_,_,_,_,_,_,_,_,_,_,_,_,_,_,_,_,_,_,_,_,_,_,_,_,_,_,_⟩,⟨
  ⟨f_Qrw.1,b1 f_Qrw.1 λ_ _ _ _ _ _ _=>rfl,aH X G f_Qrw.2⟩,
  ⟨f_Qmd.1,b1 f_Qmd.1 λ_ _ _ _ _ _ _=>rfl,aH X G f_Qmd.2⟩,
  ⟨f_Qsx.1,b1 f_Qsx.1 λ_ _ _ _ _ _ _=>rfl,aH X G f_Qsx.2⟩,
  ⟨f_Qsy.1,b1 f_Qsy.1 λ_ _ _ _ _ _ _=>rfl,aH X G f_Qsy.2⟩,
  ⟨f_Qme.1,b1 f_Qme.1 λ_ _ _ _ _ _ _=>rfl,aH X G f_Qme.2⟩,
  ⟨f_Qrx.1,b1 f_Qrx.1 λ_ _ _ _ _ _ _=>rfl,aH X G f_Qrx.2⟩,
  ⟨f_Qnt.1,b2 f_Qnt.1 λ_ _ _ _ _ _ _ _=>rfl,aH X G f_Qnt.2⟩,
  ⟨f_Qpy.1,b2 f_Qpy.1 λ_ _ _ _ _ _ _ _=>rfl,aH X G f_Qpy.2⟩,
  ⟨f_Qsz.1,b2 f_Qsz.1 λ_ _ _ _ _ _ _ _=>rfl,aH X G f_Qsz.2⟩,
  ⟨f_Qpz.1,b3 f_Qpz.1 λ_ _ _ _ _ _ _ _ _=>rfl,aH X G f_Qpz.2⟩,
  ⟨f_Qnu.1,b3 f_Qnu.1 λ_ _ _ _ _ _ _ _ _=>rfl,aH X G f_Qnu.2⟩,
  ⟨f_Qqa.1,b1 f_Qqa.1 λ_ _ _ _ _ _ _=>rfl,aH X G f_Qqa.2⟩,
  ⟨f_Qmf.1,b2 f_Qmf.1 λ_ _ _ _ _ _ _ _=>rfl,aH X G f_Qmf.2⟩,
  ⟨f_Qdo.1,b2 f_Qdo.1 λ_ _ _ _ _ _ _ _=>rfl,aH X G f_Qdo.2⟩,
  ⟨f_Qry.1,b2 f_Qry.1 λ_ _ _ _ _ _ _ _=>rfl,aH X G f_Qry.2⟩,
  ⟨f_plus.1,b2 f_plus.1 λ_ _ _ _ _ _ _ _=>rfl,aH X G f_plus.2⟩,
  ⟨f_Qvv.1,b2 f_Qvv.1 λ_ _ _ _ _ _ _ _=>rfl,aH X G f_Qvv.2⟩,
  ⟨f_half.1,b1 f_half.1 λ_ _ _ _ _ _ _=>rfl,aH X G f_half.2⟩,
  ⟨f_over.1,b2 f_over.1 λ_ _ _ _ _ _ _ _=>rfl,aH X G f_over.2⟩,
  ⟨f_Qta.1,b1 f_Qta.1 λ_ _ _ _ _ _ _=>rfl,aH X G f_Qta.2⟩,
  ⟨f_Qvw.1,b2 f_Qvw.1 λ_ _ _ _ _ _ _ _=>rfl,aH X G f_Qvw.2⟩,
  ⟨f_Qvx.1,b2 f_Qvx.1 λ_ _ _ _ _ _ _ _=>rfl,aH X G f_Qvx.2⟩,
  ⟨f_Qvy.1,b1 f_Qvy.1 λ_ _ _ _ _ _ _=>rfl,aH X G f_Qvy.2⟩,
  ⟨f_Qju.1,b2 f_Qju.1 λ_ _ _ _ _ _ _ _=>rfl,aH X G f_Qju.2⟩,
  ⟨f_Qqb.1,b3 f_Qqb.1 λ_ _ _ _ _ _ _ _ _=>rfl,aH X G f_Qqb.2⟩,
  ⟨f_best.1,b2 f_best.1 λ_ _ _ _ _ _ _ _=>rfl,aH X G f_best.2⟩,
  ⟨f_Qva.1,b2 f_Qva.1 λ_ _ _ _ _ _ _ _=>rfl,aH X G f_Qva.2⟩,
  ⟨f_Qvz.1,b2 f_Qvz.1 λ_ _ _ _ _ _ _ _=>rfl,aH X G f_Qvz.2⟩,
  ⟨f_Qtb.1,b1 f_Qtb.1 λ_ _ _ _ _ _ _=>rfl,aH X G f_Qtb.2⟩,
  ⟨f_Qgi.1,b1 f_Qgi.1 λ_ _ _ _ _ _ _=>rfl,aH X G f_Qgi.2⟩,
  ⟨f_Qjv.1,b2 f_Qjv.1 λ_ _ _ _ _ _ _ _=>rfl,aH X G f_Qjv.2⟩,
  ⟨f_Qtc.1,b1 f_Qtc.1 λ_ _ _ _ _ _ _=>rfl,aH X G f_Qtc.2⟩,
  ⟨f_Qmg.1,b2 f_Qmg.1 λ_ _ _ _ _ _ _ _=>rfl,aH X G f_Qmg.2⟩,
  ⟨f_Qtd.1,b2 f_Qtd.1 λ_ _ _ _ _ _ _ _=>rfl,aH X G f_Qtd.2⟩,
  ⟨f_Qjw.1,b2 f_Qjw.1 λ_ _ _ _ _ _ _ _=>rfl,aH X G f_Qjw.2⟩,
  F_span,(F_span.binds ld_span λ_ _ _ _ _ _ us hl=>match us,hl with | [_,_,_],_=>(by first | exact .inr rfl | exact .inl ⟨_,rfl,rfl⟩)),(F_span.binds ld_span λ_ _ _ _ _ _ us hl=>by rcases us with _ | ⟨_,_ | ⟨_,_ | ⟨_,_⟩⟩⟩<;>first | exact .inl ⟨_,rfl,rfl⟩ | (exfalso;simp at hl;done) | (exfalso;simp at hl;omega)),aH X G n_span,
  ⟨f_Qqc.1,b3 f_Qqc.1 λ_ _ _ _ _ _ _ _ _=>rfl,aH X G f_Qqc.2⟩,
  F_Qte,(F_Qte.binds ld_Qte λ_ _ _ _ _ _ us hl=>match us,hl with | [_,_,_,_],_=>(by first | exact .inr rfl | exact .inl ⟨_,rfl,rfl⟩)),(F_Qte.binds ld_Qte λ_ _ _ _ _ _ us hl=>by rcases us with _ | ⟨_,_ | ⟨_,_ | ⟨_,_ | ⟨_,_⟩⟩⟩⟩<;>first | exact .inl ⟨_,rfl,rfl⟩ | (exfalso;simp at hl;done) | (exfalso;simp at hl;omega)),aH X G n_text_at,
  F_Qwa,(F_Qwa.binds ld_Qwa λ_ _ _ _ _ _ us hl=>match us,hl with | [_,_,_],_=>(by first | exact .inr rfl | exact .inl ⟨_,rfl,rfl⟩)),(F_Qwa.binds ld_Qwa λ_ _ _ _ _ _ us hl=>by rcases us with _ | ⟨_,_ | ⟨_,_ | ⟨_,_⟩⟩⟩<;>first | exact .inl ⟨_,rfl,rfl⟩ | (exfalso;simp at hl;done) | (exfalso;simp at hl;omega)),aH X G n_press,
  F_read,(F_read.binds ld_read λ_ _ _ _ _ _ us hl=>match us,hl with | [_,_,_,_],_=>(by first | exact .inr rfl | exact .inl ⟨_,rfl,rfl⟩)),(F_read.binds ld_read λ_ _ _ _ _ _ us hl=>by rcases us with _ | ⟨_,_ | ⟨_,_ | ⟨_,_ | ⟨_,_⟩⟩⟩⟩<;>first | exact .inl ⟨_,rfl,rfl⟩ | (exfalso;simp at hl;done) | (exfalso;simp at hl;omega)),aH X G n_read,
  ⟨f_Qtf.1,b1 f_Qtf.1 λ_ _ _ _ _ _ _=>rfl,aH X G f_Qtf.2⟩,
  ⟨f_Qrz.1,b1 f_Qrz.1 λ_ _ _ _ _ _ _=>rfl,aH X G f_Qrz.2⟩,
  ⟨f_wrap.1,b2 f_wrap.1 λ_ _ _ _ _ _ _ _=>rfl,aH X G f_wrap.2⟩,
  ⟨f_Qqd.1,b2 f_Qqd.1 λ_ _ _ _ _ _ _ _=>rfl,aH X G f_Qqd.2⟩,
  ⟨f_Qgj.1,b2 f_Qgj.1 λ_ _ _ _ _ _ _ _=>rfl,aH X G f_Qgj.2⟩,
  ⟨f_Qek.1,b1 f_Qek.1 λ_ _ _ _ _ _ _=>rfl,aH X G f_Qek.2⟩,
  ⟨f_Qmh.1,b1 f_Qmh.1 λ_ _ _ _ _ _ _=>rfl,aH X G f_Qmh.2⟩,
  ⟨f_Qjx.1,b1 f_Qjx.1 λ_ _ _ _ _ _ _=>rfl,aH X G f_Qjx.2⟩,
  ⟨f_Qvb.1,b1 f_Qvb.1 λ_ _ _ _ _ _ _=>rfl,aH X G f_Qvb.2⟩,
  ⟨f_Qnv.1,b3 f_Qnv.1 λ_ _ _ _ _ _ _ _ _=>rfl,aH X G f_Qnv.2⟩,
  ⟨f_Qtg.1,b2 f_Qtg.1 λ_ _ _ _ _ _ _ _=>rfl,aH X G f_Qtg.2⟩,
  ⟨f_Qjy.1,b2 f_Qjy.1 λ_ _ _ _ _ _ _ _=>rfl,aH X G f_Qjy.2⟩,
  ⟨f_Qth.1,b1 f_Qth.1 λ_ _ _ _ _ _ _=>rfl,aH X G f_Qth.2⟩,
  ⟨f_Qqe.1,b2 f_Qqe.1 λ_ _ _ _ _ _ _ _=>rfl,aH X G f_Qqe.2⟩,
  ⟨f_Qsa.1,b1 f_Qsa.1 λ_ _ _ _ _ _ _=>rfl,aH X G f_Qsa.2⟩,
  ⟨f_Qjz.1,b1 f_Qjz.1 λ_ _ _ _ _ _ _=>rfl,aH X G f_Qjz.2⟩,
  ⟨f_Qqf.1,b1 f_Qqf.1 λ_ _ _ _ _ _ _=>rfl,aH X G f_Qqf.2⟩,
  ⟨f_Qvc.1,b1 f_Qvc.1 λ_ _ _ _ _ _ _=>rfl,aH X G f_Qvc.2⟩,
  ⟨f_Qdp.1,b1 f_Qdp.1 λ_ _ _ _ _ _ _=>rfl,aH X G f_Qdp.2⟩,
  ⟨f_Qgk.1,b2 f_Qgk.1 λ_ _ _ _ _ _ _ _=>rfl,aH X G f_Qgk.2⟩,
  ⟨f_Qwb.1,b2 f_Qwb.1 λ_ _ _ _ _ _ _ _=>rfl,aH X G f_Qwb.2⟩,
  ⟨f_Qqg.1,b2 f_Qqg.1 λ_ _ _ _ _ _ _ _=>rfl,aH X G f_Qqg.2⟩,
  ⟨f_Qqh.1,b1 f_Qqh.1 λ_ _ _ _ _ _ _=>rfl,aH X G f_Qqh.2⟩,
  ⟨f_Qvd.1,b2 f_Qvd.1 λ_ _ _ _ _ _ _ _=>rfl,aH X G f_Qvd.2⟩,
  ⟨f_Qve.1,b2 f_Qve.1 λ_ _ _ _ _ _ _ _=>rfl,aH X G f_Qve.2⟩,
  ⟨f_Qqi.1,b2 f_Qqi.1 λ_ _ _ _ _ _ _ _=>rfl,aH X G f_Qqi.2⟩,
  ⟨f_Qti.1,b2 f_Qti.1 λ_ _ _ _ _ _ _ _=>rfl,aH X G f_Qti.2⟩,
  ⟨f_Qka.1,b1 f_Qka.1 λ_ _ _ _ _ _ _=>rfl,aH X G f_Qka.2⟩,
  ⟨f_Qnw.1,b1 f_Qnw.1 λ_ _ _ _ _ _ _=>rfl,aH X G f_Qnw.2⟩,
  ⟨f_Qqj.1,b4 f_Qqj.1 λ_ _ _ _ _ _ _ _ _ _=>rfl,aH X G f_Qqj.2⟩,
  ⟨f_Qkb.1,b1 f_Qkb.1 λ_ _ _ _ _ _ _=>rfl,aH X G f_Qkb.2⟩,
  ⟨f_Qqk.1,b3 f_Qqk.1 λ_ _ _ _ _ _ _ _ _=>rfl,aH X G f_Qqk.2⟩,
  ⟨f_Qdq.1,b5 f_Qdq.1 λ_ _ _ _ _ _ _ _ _ _ _=>rfl,aH X G f_Qdq.2⟩,
  ⟨f_law.1,b1 f_law.1 λ_ _ _ _ _ _ _=>rfl,aH X G f_law.2⟩,
  ⟨f_Qmi.1,b2 f_Qmi.1 λ_ _ _ _ _ _ _ _=>rfl,⟨mk_Growth,f_Qmi.2.1,f_Qmi.2.2,kc_Growth⟩⟩,
  ⟨f_Qkc.1,b2 f_Qkc.1 λ_ _ _ _ _ _ _ _=>rfl,⟨f_Qkc.2.1,f_Qkc.2.2,f_Qkc.1.kp⟩⟩,
  ⟨f_Qdr.1,b3 f_Qdr.1 λ_ _ _ _ _ _ _ _ _=>rfl,⟨f_Qdr.2.1,f_Qdr.2.2,f_Qdr.1.kp⟩⟩,
  ⟨f_Qgl.1,b2 f_Qgl.1 λ_ _ _ _ _ _ _ _=>rfl,⟨f_Qgl.2.1,f_Qgl.2.2,f_Qgl.1.kp⟩⟩,
  ⟨f_Qid.1,b1 f_Qid.1 λ_ _ _ _ _ _ _=>rfl,⟨f_Qid.2.1,f_Qid.2.2,f_Qid.1.kp⟩⟩,
  ⟨f_Qbv.1,b2 f_Qbv.1 λ_ _ _ _ _ _ _ _=>rfl,⟨f_Qbv.2.1,f_Qbv.2.2,f_Qbv.1.kp⟩⟩,
  ⟨f_Qmj.1,b2 f_Qmj.1 λ_ _ _ _ _ _ _ _=>rfl,⟨f_Qmj.2.1,f_Qmj.2.2,f_Qmj.1.kp⟩⟩,
  ⟨f_Qie.1,b1 f_Qie.1 λ_ _ _ _ _ _ _=>rfl,⟨f_Qie.2.1,f_Qie.2.2,f_Qie.1.kp⟩⟩,
  ⟨f_Qkd.1,b2 f_Qkd.1 λ_ _ _ _ _ _ _ _=>rfl,⟨mk_Learner,f_Qkd.2.1,f_Qkd.2.2,kc_Learner⟩⟩,
  ⟨f_Qke.1,b2 f_Qke.1 λ_ _ _ _ _ _ _ _=>rfl,⟨f_Qke.2.1,f_Qke.2.2,f_Qke.1.kp⟩⟩,
  ⟨f_Qkf.1,b2 f_Qkf.1 λ_ _ _ _ _ _ _ _=>rfl,⟨f_Qkf.2.1,f_Qkf.2.2,f_Qkf.1.kp⟩⟩,
  ⟨f_Qkg.1,b1 f_Qkg.1 λ_ _ _ _ _ _ _=>rfl,⟨f_Qkg.2.1,f_Qkg.2.2,f_Qkg.1.kp⟩⟩,
  ⟨f_Qgm.1,b1 f_Qgm.1 λ_ _ _ _ _ _ _=>rfl,⟨f_Qgm.2.1,f_Qgm.2.2,f_Qgm.1.kp⟩⟩,
  ⟨f_Qql.1,b1 f_Qql.1 λ_ _ _ _ _ _ _=>rfl,⟨mk_Desk,f_Qql.2.1,f_Qql.2.2,kc_Desk⟩⟩,
  ⟨f_Qsb.1,b2 f_Qsb.1 λ_ _ _ _ _ _ _ _=>rfl,⟨f_Qsb.2.1,f_Qsb.2.2,f_Qsb.1.kp⟩⟩,
  ⟨f_Qnx.1,b4 f_Qnx.1 λ_ _ _ _ _ _ _ _ _ _=>rfl,⟨f_Qnx.2.1,f_Qnx.2.2,f_Qnx.1.kp⟩⟩,
  ⟨f_Qif.1,b2 f_Qif.1 λ_ _ _ _ _ _ _ _=>rfl,⟨f_Qif.2.1,f_Qif.2.2,f_Qif.1.kp⟩⟩,
  ⟨pg_Growth,hd_Growth,po_Growth,sa_Growth⟩,
  na_Growth_frame,
  na_Growth_replaced,
  na_Growth_table,
  na_Growth_text,
  ⟨pg_Learner,hd_Learner,po_Learner,sa_Learner⟩,
  na_Learner_frame,
  na_Learner_growth,
  ⟨pg_Desk,hd_Desk,po_Desk,sa_Desk⟩,
  na_Desk_learners,
  fT X G n_abs,
  fT X G n_all,
  fT X G n_bool,
  fT X G n_enumerate,
  fT X G n_int,
  fT X G n_isinstance,
  fT X G n_len,
  fT X G n_list,
  fT X G n_max,
  fT X G n_min,
  fT X G n_ord,
  fT X G n_range,
  fT X G n_reversed,
  fT X G n_set,
  fT X G n_str,
  fT X G n_sum,
  fT X G n_tuple,
  aH X G n_Growth,
  aH X G n_Learner,
  aH X G n_Desk,
  aH X G n_PER_CENT,
  aH X G n_FEWEST_LETTERS,
  aH X G n_MOST_LETTERS,
  aH X G n_GREATEST_DEPTH,
  aH X G n_FIGURES,
  aH X G n_COUNTS,
  aH X G n_WORTH,
  aH X G n_WEIGHT,
  aH X G n_MOST_SIGNS,
  aH X G n_GROUP_SIGNS,
  aH X G n_GROUP_SIZE,
  aH X G n_CHECK_SIGNS,
  aH X G n_CHECK_SIZE,
  aH X G n_CHECK_DIVISOR,
  aH X G n_LENGTH_SIZE,
  aH X G n_NAME_SIGNS,
  aH X G n_LONGEST_NAME,
  aH X G n_MOST_FIGURES,
  aH X G n_DONE,
  aH X G n_NOUGHT,⟨_,_,_,lk_NOUGHT,rfl,rfl,(by show 2<=sizeLine;decide),(.cons ⟨_,rfl⟩ (.cons ⟨_,rfl⟩ .nil))⟩,
  aH X G n_ONE,⟨_,_,_,lk_ONE,rfl,rfl,(by show 2<=sizeLine;decide),(.cons ⟨_,rfl⟩ (.cons ⟨_,rfl⟩ .nil))⟩,
  aH X G n_ROW_SIZES,⟨lo_ROW_SIZES,⟨_,lk_ROW_SIZES⟩,λp hp=>by simp only [bE,iZ,or_false] at hp;rcases hp with rfl | rfl | rfl | rfl | rfl | rfl | rfl | rfl | rfl | rfl | rfl;exact⟨_,nd0_ROW_SIZES⟩;exact⟨_,nd1_ROW_SIZES⟩;exact⟨_,nd2_ROW_SIZES⟩;exact⟨_,nd3_ROW_SIZES⟩;exact⟨_,nd4_ROW_SIZES⟩;exact⟨_,nd5_ROW_SIZES⟩;exact⟨_,nd6_ROW_SIZES⟩;exact⟨_,nd7_ROW_SIZES⟩;exact⟨_,nd8_ROW_SIZES⟩;exact⟨_,nd9_ROW_SIZES⟩;exact⟨_,nd10_ROW_SIZES⟩⟩,
  U8 f_law.1 λ_ _ _ _ _ _ _=>rfl⟩,kl_ROW_SIZES⟩
section
variable {P:Program} {w:World} {K:Frag} {mg:Str->Option Value} {base:Heap} {t:Lo}
variable {d f n j i N M c m B:Nat} {L l kn nm k:List Nat} {H H' F:Hp} {D C p dd rp dk a r:Addr} {kvs:List (aU × V)} {U W lo A b:Int} {x v:V} {xs:List V} {Q:VK}
seal L2.PE L2.PA L2.PS L2.eJ L2.PT L2.PW L2.PG L2.qh L2.PI L2.Ci L2.PF L2.qi L2.PO
local macro_rules | `(tactic| array_mem_dec)=>`(tactic| ((first | show aD ‹Frag› _ _ _ | show aG ‹Frag› _ _ _ | skip); first | with_reducible assumption | with_reducible exact aA | with_reducible exact aG.of aA | with_reducible exact aD.of aA | with_reducible exact ak.refl _ | (with_reducible apply pd; (focus with_reducible assumption); (focus array_mem_dec)) | (with_reducible apply Qz; (focus with_reducible assumption); (focus array_mem_dec)) | (with_reducible apply QA; (focus with_reducible assumption); (focus array_mem_dec)) | (with_reducible apply fQ; (focus with_reducible assumption); (focus array_mem_dec)) | (with_reducible apply pe; (focus with_reducible assumption); (focus array_mem_dec)) | (with_reducible apply QC; (focus with_reducible assumption); (focus array_mem_dec)) | (with_reducible apply QD; (focus with_reducible assumption); (focus array_mem_dec)) | (with_reducible apply jF; (focus with_reducible assumption); (focus array_mem_dec)) | (with_reducible apply Ny; (focus with_reducible assumption); (focus array_mem_dec)) | (with_reducible apply bX; (focus with_reducible assumption); (focus array_mem_dec)) | (with_reducible apply ik; (focus with_reducible assumption); (focus array_mem_dec)) | (with_reducible apply aG.of; (focus array_mem_dec)) | (with_reducible apply aD.of; (focus array_mem_dec))))
local macro_rules | `(tactic| array_get_dec)=>`(tactic| first
 | refine⟨_,rfl,?_⟩
 | refine⟨_,_,rfl,rfl,JD (by decide) (by decide),?_⟩
 | refine⟨_,_,rfl,rfl,(by show (0:Int)<_;decide),?_⟩
 | refine⟨_,_,rfl,rfl,⟨by decide,by decide,by decide⟩,?_⟩
 | refine Or.inl ⟨_,_,rfl,rfl,rX (by decide) (by decide),?_⟩
 | refine Or.inl ⟨_,_,rfl,rfl,rW (by decide) (by decide),?_⟩
 | refine⟨_,_,rfl,rfl,?_⟩
 | refine Or.inl ⟨_,_,rfl,rfl,?_⟩
 | refine Or.inl ⟨rfl,?_⟩
 | refine Or.inr (Or.inl ⟨_,_,_,_,rfl,rfl,(by array_mem_dec),(by rfl),?_⟩)
 | refine Or.inl ⟨_,_,_,_,rfl,rfl,(by array_mem_dec),(by rfl),?_⟩
 | refine⟨_,_,rfl,Or.inr ⟨_,(by array_mem_dec),rfl⟩,?_⟩
 | refine⟨_,_,rfl,Or.inl ⟨_,(by array_mem_dec),rfl⟩,?_⟩
 | refine⟨_,_,rfl,dD (by first | assumption | (rw [sizeLine_eq];omega)),?_⟩
 | refine Or.inr (Or.inl ⟨_,_,rfl,rfl,(by simp only [aq,d8,qo,dM,gR,sizeLine_eq];omega),?_⟩)
 | refine Or.inr ⟨_,_,rfl,rfl,(by simp only [aq,d8,qo,dM,gR,sizeLine_eq];omega),?_⟩
 | refine⟨_,_,rfl,?_⟩
 | refine⟨_,_,_,rfl,?_⟩)
local macro_rules | `(tactic| nofun)=>`(tactic| (symm; (try (show let R:=_; sq [_,_,_,_,_,_,_,_,_] R _ _ _; intro R)); (try (show let R:=_; sq [_,_,_,_,_,_,_,_] R _ _ _; intro R)); (try (show let R:=_; sq [_,_,_,_,_,_,_] R _ _ _; intro R)); (try (show let R:=_; sq [_,_,_,_,_,_] R _ _ _; intro R)); (try (show let R:=_; sq [_,_,_,_,_] R _ _ _; intro R)); (try (show let R:=_; sq [_,_,_,_] R _ _ _; intro R)); (try (show let R:=_; sq [_,_,_] R _ _ _; intro R)); (try (show let R:=_; sq [_,_] R _ _ _; intro R)); (try (show let R:=_; sq [_] R _ _ _; intro R))))
local macro_rules | `(tactic| symm)=>`(tactic| (try dsimp (config:={ proj:=false,eta:=false,zeta:=false,iota:=false }) only [Ju,Ia,Jz]))
local macro_rules | `(tactic| rfl')=>`(tactic| (try dsimp (config:={ proj:=false,eta:=false,zeta:=false,iota:=false }) only [gX,tC]))
local macro_rules | `(tactic| ac_rfl)=>`(tactic| repeat array_get_dec)
inductive Eg(K:Frag)(vs:List V)(H:Hp)(Q:VK)(E0x:XK):Prop where
 | mk x ty b1 b2 (_:vs=[x]) (_:gq K H x ty) (_:kitOne K ty (.type "int")=some b1) (_:kitOne K ty (.type "bool")=some b2) (_:Q (.bl (b1 && !b2)) H):Eg K vs H Q E0x
theorem B9(T:Txt K mg t):ar P w K mg base (ay P w) 1 t.vM t.tM ["thing"] (Eg K):=by
 refine T.xX.F.okm (k:=0) N0 λcdv A outer s H vs Q E hr h=>?_
 obtain⟨x,ty,b1,b2,rfl,hty,e1,e2,q⟩:=h
 refine⟨_,(aj (az (lj (dB jL rfl T.jJ jP (a2 (pv 0) (jE (v:=.ty "int") rfl T.Bs C6 rfl))) (kA (Ox (dB jL rfl T.jJ jP (a2 (pv 0) (jE (v:=.ty "bool") rfl T.Rb U7 rfl)))))))),?_⟩
 nofun
 refine⟨_,rfl,.inl ⟨x,ty,_,b1,rfl,hty,e1,b1,rfl,?_⟩⟩
 cases b1 with
 | false=>exact bK q
 | true=>exact gb ⟨_,rfl,.inl ⟨x,ty,_,b2,rfl,hty,e2,b2,rfl,q⟩⟩
inductive Fn(vs:List V)(H:Hp)(Q:VK)(E0x:XK):Prop where
 | mk (a b:Int) (_:vs=[.int a,.int b]) (_:0<=a) (_:0<=b) (_:Q (.int (bM a b)) H):Fn vs H Q E0x
theorem QE(h:b ≠ 0):(!decide (V.int b=V.int 0))=true:=by
 have:¬ V.int b=V.int 0:=λz=>h (V.int.inj z)
 rw [decide_eq_false this];rfl
theorem Qp(T:Txt K mg t):ar P w K mg base (ay P w) 1 t.xg t.uM ["one", "other"] Fn:=by
 refine T.Li.F.okm (k:=0) rF λcdv A outer s H vs Q E hr h=>?_
 obtain⟨a,b,rfl,ha,hb,q⟩:=h
 refine⟨_,(ag (AI cR (bo (fP (hr.units0)) (pv 1) aw) (ag (aC 2 rF.nd (ao dP (pv 0) (pv 1))) (ag (aC 0 rF.nd (pv 1)) (aj (aC 1 rF.nd (pv 2)))))) (aj (az (pv 0)))),?_⟩
 nofun
 refine yh (λσ H'=>∃a' b' r,σ=[some (.int a'),some (.int b'),r]/\0<=a'/\0<=b'/\bM a' b'=bM a b/\H'=H) (λσ _=>match σ with | [_,some (.int b'),_]=>b'.natAbs | _=>0) ⟨a,b,none,rfl,ha,hb,rfl,rfl⟩ ?_ ?_
 ·rintro _ _ ⟨a',b',r,rfl,h1,h2,h3,rfl⟩
  refine⟨_,rfl,.inl ⟨rfl,_,rfl,?_⟩⟩
  by_cases z:b'=0
  ·subst z
   refine bK ⟨_,rfl,?_⟩
   rw [Sq a' h1] at h3
   rw [h3];exact q
  ·rw [QE z]
   refine gb ⟨_,rfl,_,rfl,_,_,rfl,rfl,by omega,?_⟩
   refine⟨_,rfl,_,rfl,⟨b',a' % b',_,rfl,h2,gS _ z,?_,rfl⟩,?_⟩
   ·rw [Sr h1 (by omega)];exact h3
   ·show (a' % b').natAbs<b'.natAbs
    have:=gS a' z
    have:=ju a' (show 0<b' by omega)
    omega
 ·rintro σ1 H1 Q1 Q2 hq ⟨v,e,z⟩
  refine⟨v,e,?_⟩
  rcases z with⟨s,k,e2,z⟩ | ⟨a1,b1,xs,ys,h1,h2,h3,h4,h5,h6,k,hk,z⟩ | ⟨a1,b1,xs,ys,h1,h2,h3,h4,h5,h6,k,hk,z⟩
  ·exact .inl ⟨s,k,e2,hq _ _ z⟩
  ·exact .inr (.inl ⟨a1,b1,xs,ys,h1,h2,h3,h4,h5,h6,k,hk,hq _ _ z⟩)
  ·exact .inr (.inr ⟨a1,b1,xs,ys,h1,h2,h3,h4,h5,h6,k,hk,hq _ _ z⟩)
inductive Fq(vs:List V)(H:Hp)(Q:VK)(E0x:XK):Prop where
 | mk (a b:Int) (_:vs=[.int a,.int b]) (_:(b=0->False)) (_:(b ≠ 0->b.natAbs<2^8999/\∀p,H p=none->Q (.ref p) (ai H p (.tup [.int (cn a b),.int (cI a b)])))):Fq vs H Q E0x
theorem jb(T:Txt K mg t):ar P w K mg base (ay P w) 2 t.vK t.tK ["top", "bottom"] Fq:=by
 refine T.j1.F.okm (k:=1) yD λcdv A outer s H vs Q E hr h=>?_
 obtain⟨a,b,rfl,h0,h1⟩:=h
 refine⟨_,(ag (aW (PW.pt (fA (dh (du (pc (B9 T) hr T.xX (a1 (pv 0))))) (fM (dh (du (pc (B9 T) hr T.xX (a1 (pv 1)))))))) (aj dH) aX) (ag (aW (bo (dR (hr.units0)) (pv 1) aw) (aj dH) aX) (ag (aC 2 yD.nd (pc (Qp T) hr T.Li (a2 (dB JG rfl T.Iq JP (a1 (pv 0))) (dB JG rfl T.Iq JP (a1 (pv 1)))))) (ag (aW (bo p7 (pv 1) aw) (aj (aC 2 yD.nd (iP iL (pv 2)))) aX) (aj (az (fB (a2 (ao oV (pv 0) (pv 2)) (ao oV (pv 1) (pv 2)))))))))),?_⟩
 nofun
 refine⟨_,rfl,⟨_,_,true,false,rfl,.int _,jg K _,BC K,true,rfl,bK ⟨_,rfl,⟨_,_,true,false,rfl,.int _,jg K _,BC K,true,rfl,bK ?_⟩⟩⟩⟩
 refine⟨_,rfl,.inl ⟨rfl,_,rfl,?_⟩⟩
 by_cases z:b=0
 ·subst z
  exact(h0 rfl).elim
 obtain⟨hb,q⟩:=h1 z
 have gp:=sG (a:=a) z
 have gl:=Ss (a:=a) z
 rw [decide_eq_false (show ¬ V.int b=V.int 0 from λe=>z (V.int.inj e))]
 refine bK ⟨_,rfl,_,rfl,_,rfl,_,rfl,_,_,rfl,by split<;>omega,by split<;>omega,?_⟩
 rw [Sw]
 refine⟨_,rfl,.inl ⟨_,_,rfl,rfl,_,rfl,?_⟩⟩
 have last:∀d:Int,d=sgn b*bM a b->(DT (DS (ig (iM (rI y8 λi j=>V.int (i.fdiv j)) (gW 0) (gW 2)) (ig (iM (rI y8 λi j=>V.int (i.fdiv j)) (gW 1) (gW 2)) gX)))) { nx:=λ_ H'=>Q .non H',rt:=Q } [some (.int a),some (.int b),some (.int d)] H:=by
  intro d hd
  have dn:d ≠ 0/\d.natAbs<2^8999:=by
   have:d.natAbs=(bM a b).natAbs:=by
    rw [hd];unfold sgn;split<;>omega
   refine⟨by omega,?_⟩
   rw [this];exact xD gl hb
  refine⟨_,rfl,_,rfl,_,_,rfl,rfl,dn,_,rfl,_,rfl,_,_,rfl,rfl,dn,(by show 2<=sizeLine;decide),λp hp=>?_⟩
  rw [hd];exact q p hp
 by_cases y:b<0
 ·rw [decide_eq_true y]
  refine gb ⟨_,rfl,_,rfl,?_⟩
  exact last _ (by unfold sgn;rw [if_pos y];omega)
 ·rw [decide_eq_false y]
  refine bK ?_
  exact last _ (by unfold sgn;rw [if_neg y];omega)
inductive Mv(vs:List V)(H:Hp)(Q:VK)(E0x:XK):Prop where
 | mk (a b:Int) (_:vs=[.int a,.int b]) (_:0<b) (_:Q (.int (bM a b)) H):Mv vs H Q E0x
theorem Ug{ns:List Int}{k:Int}(h0:0<=k)(h:k<(ns.length:Int)):∃v:Int,v ∈ ns/\dz (ns.map V.int) k=some (.int v):=by
 have hk:k.toNat<ns.length:=by omega
 have q:dz (ns.map V.int) ((k.toNat:Nat):Int)=some (.int ns[k.toNat]):=fR (by rw [bS,bq hk]<;>rfl)
 rw [show ((k.toNat:Nat):Int)=k by omega] at q
 exact⟨_,jX hk,q⟩
noncomputable def kL(ns:List Int)(k:Int):Int:=ns.getD k.toNat 0
inductive FG(K:Frag)(vs:List V)(H:Hp)(Q:VK)(E0x:XK):Prop where
 | mk (a:Addr) (ns:List Int) (k:Int) (_:vs=[.ref a,.int k]) (_:aD K H a (ns.map V.int)) (_:0<=k) (_:Q (.int (kL ns k)) H):FG K vs H Q E0x
theorem oY(T:Txt K mg t):ar P w K mg base (ay P w) 1 t.vR t.tQ ["script", "k"] (FG K):=by
 refine T.o9.F.okm (k:=0) N2 λcdv A outer s H vs Q E hr h=>?_
 obtain⟨a,ns,k,rfl,hS,h0,q⟩:=h
 refine⟨_,(ag (aW (bo p7 (pv 1) (cq T.ck (pv 0))) (aj (az (cA (pv 0) (pv 1)))) aX) (aj (az aw))),?_⟩
 nofun
 ac_rfl
 refine dr (λc=>?_) (λc=>?_)
 ·rw [aT] at c
  have hk:k.toNat<ns.length:=by omega
  have e:dz (ns.map V.int) ((k.toNat:Nat):Int)=some (.int ns[k.toNat]):=fR (by rw [bS,bq hk]<;>rfl)
  rw [show ((k.toNat:Nat):Int)=k by omega] at e
  refine⟨_,rfl,_,rfl,.inl ⟨_,_,_,_,rfl,rfl,hS,e,?_⟩⟩
  unfold kL at q
  rw [fU,bq hk] at q;exact q
 ·rw [aT] at c
  unfold kL at q
  rw [fU,fe (by omega)] at q;exact q
theorem BW(l:List Nat){k:Int}(h:0<=k):dE l none (some k)=l.take k.toNat:=by
 have:=pP l k.toNat
 rwa [Cw h] at this
theorem BX(l:List Nat){a b:Nat}(h1:a<=b)(h2:b<=l.length):dE l (some (a:Int)) (some (b:Int))=(l.drop a).take (b-a):=by
 unfold dE
 have e:∀(k d:Nat),k<=l.length->HT.sIx l.length d (some (k:Int))=k:=λk d hk=>by
  unfold HT.sIx
  simp only
  split<;>(try split)<;>omega
 rw [e a 0 (by omega),e b l.length h2]
theorem fL(h:(l.map λc=>vt [c])[i]?=some x):∃c,l[i]?=some c/\x=vt [c]:=by
 rw [bS] at h
 cases q:l[i]? with
 | none=>rw [q] at h;cases h
 | some c=>rw [q] at h;exact⟨c,rfl,(dS h).symm⟩
noncomputable def dU:List Nat:=((List.range 95).map (·+32)).filter (· != 37)
theorem MF:dU.length=94:=by decide +kernel
theorem yu:∀c ∈ dU,32<=c/\c<127/\c ≠ 37:=by decide +kernel
structure Drawn(k:Nat)(L S:List Nat):Prop where
 len:L.length=k
 all:(L++S).Perm dU
theorem Drawn.start:Drawn 0 [] dU:=⟨rfl,.refl _⟩
theorem Drawn.left{k:Nat}{S:List Nat}(d:Drawn k L S):S.length+k=94:=by
 have:=d.all.length_eq
 rw [aq,MF,d.len] at this
 omega
theorem Drawn.next{k:Nat}{S:List Nat}(d:Drawn k L S)(h:S[j]?=some c):Drawn (k+1) (L++[c]) (S.take j++S.drop (j+1)):=by
 obtain⟨hj,e⟩:=bh.mp h
 refine⟨by rw [aq,d.len];rfl,?_⟩
 have p:(c::(S.take j++S.drop (j+1))).Perm S:=by
  have e2:S.take j++c::S.drop (j+1)=S:=by rw [← e,← Cs hj,kO]
  conv=>rhs;rw [← e2]
  exact List.perm_middle.symm
 rw [gA]
 exact(List.Perm.append_left L p).trans d.all
theorem Drawn.mem{k:Nat}{S:List Nat}(d:Drawn k L S):∀c ∈ L,c ∈ dU:=λc hc=>d.all.mem_iff.mp (i8 _ hc)
inductive FD(K:Frag)(vs:List V)(H:Hp)(Q:VK)(E0x:XK):Prop where
 | mk p L d l (_:vs=[.ref p,vt l]) (_:aG K H p [vt L,d]) (_:(∀c ∈ l,c ∈ L)) (_:Q (vt l) H):FD K vs H Q E0x
theorem oX(T:Txt K mg t):ar P w K mg base (ay P w) 1 t.vE t.tE ["frame", "text"] (FD K):=by
 refine T.o7.F.okm (k:=0) yC λcdv A outer s H vs Q E hr h=>?_
 obtain⟨p,L,d,l,rfl,hS,hc,h1⟩:=h
 refine⟨_,(ag (aC 2 yC.nd (aK 0)) (ag (cW cR rfl (di (pv 1)) (bB 3 yC.nd) (aj (aW (AG HZ (pv 3) (pv 2) (by with_unfolding_all rfl)) (aj dH) aX))) (aj (az (pv 1))))),?_⟩
 nofun
 refine⟨_,rfl,.inr (.inl ⟨p,_,0,_,rfl,rfl,hS,rfl,?_⟩)⟩
 refine⟨_,rfl,.inr (.inr ⟨_,rfl,?_⟩)⟩
 refine fD (fw l) (λi σ H'=>∃r,σ=[some (.ref p),some (vt l),some (vt L),r]/\H'=H) ⟨_,rfl,rfl⟩ (λ_ _ _ _ _=>trivial) ?_ ?_
 ·rintro i x _ _ hx ⟨r,rfl,rfl⟩
  rw [bS] at hx
  cases hi:l[i]? with
  | none=>rw [hi] at hx;cases hx
  | some c =>
    rw [hi] at hx
    cases (show some (vt [c])=some x from hx)
    refine⟨_,rfl,_,rfl,.inl ⟨c,L,rfl,rfl,_,rfl,?_⟩⟩
    rw [if_pos rfl,decide_eq_true (hc c (eU hi))]
    exact bK ⟨_,rfl,rfl⟩
 ·rintro _ _ ⟨r,rfl,rfl⟩
  exact⟨_,rfl,h1⟩
noncomputable def bg(f d:Nat)(l:List Nat)(k:Nat):List Nat:=(List.range d).map λj=>if j<k then l.getD (k-1-j) 0 else f
theorem lP(f d:Nat)(l:List Nat)(k:Nat):(bg f d l k).length=d:=by unfold bg;rw [aT,iF]
theorem SO(f d:Nat)(l:List Nat)(k:Nat)(h:j<d):(bg f d l k)[j]?=some (if j<k then l.getD (k-1-j) 0 else f):=by
 unfold bg;rw [bS,qp h];rfl
theorem SN(f d:Nat)(l:List Nat){k:Nat}(hk:k<=l.length):((l.drop (k-d)).take (k-(k-d))).reverse++List.replicate (d-(k-(k-d))) f=bg f d l k:=by
 have hlen:((l.drop (k-d)).take (k-(k-d))).length=k-(k-d):=by rw [dM,gR];omega
 refine jt λj=>?_
 by_cases hj:j<d
 ·rw [SO f d l k hj]
  by_cases hjk:j<k
  ·rw [if_pos hjk,iH (by rw [i9,hlen];omega),Cq (by rw [hlen];omega),hlen,Kn (by omega),List.getElem?_drop,fU]
   rw [show k-d+(k-(k-d)-1-j)=k-1-j by omega,bq (by omega)]
   rfl
  ·rw [if_neg hjk,iG (by rw [i9,hlen];omega),i9,hlen,Ko,if_pos (by omega)]
 ·rw [fe (by rw [aq,i9,hlen,qm];omega),fe (by rw [lP];omega)]
theorem Ue{α:Type}{f:α}{L:List α}:dz (f::L) 0=some f:=fR (j:=0) rfl
theorem BM(l:List Nat):(l.map λc=>[c]).flatten=l:=by
 induction l with
 | nil=>rfl
 | cons c r ih=>rw [bR,jY,ih];rfl
theorem NG(n c:Nat):(List.replicate n [c]).flatten=List.replicate n c:=by
 induction n with
 | zero=>rfl
 | succ n ih=>rw [js,jY,ih];rfl
theorem E8:V.str (Str.ofString "")=vt []:=congrArg V.str (by decide +kernel)
inductive Fw(K:Frag)(vs:List V)(H:Hp)(Q:VK)(E0x:XK):Prop where
 | mk (p:Addr) (f:Nat) (L:List Nat) (d k:Nat) (l:List Nat) (_:vs=[.ref p,vt l,.int k]) (_:aG K H p [vt (f::L),.int d]) (_:(f::L).length<=100) (_:d<=6) (_:l.length<=1000) (_:k<=l.length) (_:Q (vt (bg f d l k)) H):Fw K vs H Q E0x
theorem HI(T:Txt K mg t):ar P w K mg base (ay P w) 1 t.vZ t.tY ["frame", "text", "at"] (Fw K):=by
 refine T.CT.F.okm (k:=0) rB λcdv A outer s H vs Q E hr h=>?_
 obtain⟨p,f,L,d,k,l,rfl,hF,hL,hd,hl,hk,q⟩:=h
 have zL:(f::L).length<=sizeLine:=by rw [sizeLine_eq];omega
 have zl:l.length<=sizeLine:=by rw [sizeLine_eq];omega
 refine⟨_,(ag (aC 3 rB.nd (cA (aK 0) aw)) (ag (aC 4 rB.nd (aK 0)) (ag (aC 5 rB.nd (ez ei (pv 1) (dv (dB (TJ rfl) rfl T.R9 U4 (a2 aw (ao lq (pv 2) (pv 4))))) (dv (pv 2)))) (aj (az (ao aM (OE rfl rfl T.Io JM aO (pv 5)) (ao cP (pv 3) (ao lq (pv 4) (cq T.ck (pv 5)))))))))),?_⟩
 nofun
 ac_rfl
 refine gH zL Ue ?_
 ac_rfl
 refine .inr (eF zl ?_)
 have e:(if ((k:Int)-d)>0 then ((k:Int)-d) else 0)=((k-d:Nat):Int):=by split<;>omega
 rfl'
 rw [e,BX l (by omega) hk]
 have hlen:((l.drop (k-d)).take (k-(k-d))).length=k-(k-d):=by rw [dM,gR];omega
 generalize hn:(l.drop (k-d)).take (k-(k-d))=near at hlen ⊢
 refine⟨[],E8,?_⟩
 refine⟨_,rfl,near,rfl,⟨by omega,by decide⟩,?_⟩
 rw [v7,BM]
 have zn:near.length<=sizeLine:=by rw [sizeLine_eq];omega
 ac_rfl
 rw [NG]
 refine .inr (.inl (aY ?_ ?_))
 ·rw [i9,qm,sizeLine_eq];omega
 ·rw [show ((d:Int)-(near.length:Int)).toNat=d-(k-(k-d)) by omega,← hn,SN f d l hk];exact q
noncomputable def eO:Nat->Int
 | 0=>1
 | n+1=>eO n*(2*(n:Int)+1)
noncomputable def cj:List Nat->Int
 | []=>1
 | c::cs=>cj cs*eO c
noncomputable def dY(k:Nat):Nat->Int
 | 0=>1
 | n+1=>dY k n*(2*(n:Int)+k)
noncomputable def cX(cs:List Nat):List V:=(cs.map λ(c:Nat)=>(c:Int)).map V.int
theorem sv(cs:List Nat):(cX cs).length=cs.length:=by unfold cX;rw [aT,aT]
theorem sx(cs:List Nat)(i:Nat):(cX cs)[i]?=(cs[i]?).map (λc:Nat=>V.int (c:Int)):=by unfold cX;rw [bS,bS,Option.map_map];rfl
theorem RQ{cs:List Nat}(h:(cX cs)[i]?=some x):∃c,cs[i]?=some c/\x=.int (c:Int):=by
 rw [sx] at h
 cases q:cs[i]? with
 | none=>rw [q] at h;cases h
 | some c=>rw [q] at h;exact⟨c,rfl,(dS h).symm⟩
theorem IH(cs:List Nat)(j c:Nat):(cX cs).set j (.int (c:Int))=cX (cs.set j c):=by unfold cX;rw [List.map_set,List.map_set]
theorem IK(cs:List Nat):(cs.map λ(c:Nat)=>(c:Int)).sum=(cs.sum:Int):=by
 induction cs with
 | nil=>rfl
 | cons c cs ih=>rw [bR,dA,ih,dA];push_cast;rfl
theorem DP:∀(cs:List Nat) (c:Nat),cj (cs++[c])=cj cs*eO c
 | [],c=>by show 1*eO c=1*eO c;rfl
 | a::cs,c=>by
   show cj (cs++[c])*eO a=cj cs*eO a*eO c
   rw [DP cs c,cg,cS (eO c),← cg]
theorem DQ:∀{cs:List Nat} {j c:Nat},cs[j]?=some c->cj (cs.set j (c+1))=cj cs*(2*(c:Int)+1)
 | [],_,_,h=>by cases h
 | a::cs,0,c,h=>by
   cases h
   show cj cs*(eO a*(2*(a:Int)+1))=cj cs*eO a*(2*(a:Int)+1)
   rw [cg]
 | a::cs,j+1,c,h=>by
   show cj (cs.set j (c+1))*eO a=cj cs*eO a*(2*(c:Int)+1)
   rw [DQ (cs:=cs) h,cg,cS (2*(c:Int)+1),← cg]
theorem yq:∀{cs:List Nat} {j c:Nat},cs[j]?=some c->(cs.set j (c+1)).sum=cs.sum+1
 | [],_,_,h=>by cases h
 | a::cs,0,c,h=>by cases h;show (a+1)+cs.sum=a+cs.sum+1;omega
 | a::cs,j+1,c,h=>by
   show a+(cs.set j (c+1)).sum=a+cs.sum+1
   rw [yq (cs:=cs) h];omega
theorem sj:∀{cs:List Nat} {j c:Nat},cs[j]?=some c->c<=cs.sum
 | [],_,_,h=>by cases h
 | a::cs,0,c,h=>by cases h;show a<=a+cs.sum;omega
 | a::cs,j+1,c,h=>by have:=sj (cs:=cs) h;show c<=a+cs.sum;omega
theorem bJ{a b:Nat}(h:n<2^a)(hb:a<=b):n<2^b:=dZ h (ma (by decide) hb)
theorem lu{x y:Int}{a b:Nat}(hx:x.natAbs<2^a)(hy:y.natAbs<2^b):(x*y).natAbs<2^(a+b):=by
 rw [k7,Nat.pow_add]
 exact Nat.mul_lt_mul'' hx hy
theorem HY:∀n:Nat,n<=500->0<eO n/\(eO n).natAbs<2^(1+10*n)
 | 0,_=>by decide
 | n+1,h=>by
   obtain⟨h0,h1⟩:=HY n (by omega)
   refine⟨cK h0 (by omega),?_⟩
   have:=lu h1 (show (2*(n:Int)+1).natAbs<2^10 by omega)
   rw [show 1+10*(n+1)=1+10*n+10 by omega];exact this
theorem qV:∀cs:List Nat,cs.sum<=500->0<cj cs/\(cj cs).natAbs<2^(1+cs.length+10*cs.sum)
 | [],_=>by decide
 | c::cs,h=>by
   have h':c+cs.sum<=500:=h
   obtain⟨h0,h1⟩:=qV cs (by omega)
   obtain⟨o0,o1⟩:=HY c (by omega)
   refine⟨cK h0 o0,?_⟩
   have:=lu h1 o1
   have e:1+(c::cs).length+10*(c::cs).sum=1+cs.length+10*cs.sum+(1+10*c):=by
    show 1+(cs.length+1)+10*(c+cs.sum)=_;omega
   rw [e];exact this
theorem pV{k:Nat}(hk:1<=k)(hk2:k<=20):∀n:Nat,n<=500->0<dY k n/\(dY k n).natAbs<2^(1+10*n)
 | 0,_=>by show 0<(1:Int)/\(1:Int).natAbs<2^1;decide
 | n+1,h=>by
   obtain⟨h0,h1⟩:=pV hk hk2 n (by omega)
   refine⟨cK h0 (by omega),?_⟩
   have:=lu h1 (show (2*(n:Int)+k).natAbs<2^10 by omega)
   rw [show 1+10*(n+1)=1+10*n+10 by omega];exact this
inductive Ee(K:Frag)(vs:List V)(H:Hp)(Q:VK)(E0x:XK):Prop where
 | mk (p:Addr) (cs:List Nat) (_:vs=[.ref p]) (_:aD K H p (cX cs)) (_:cs.sum<=400) (_:1<=cs.length) (_:cs.length<=20) (_:∀r,H r=none->Q (.ref r) (ai H r (.tup [.int (cn (cj cs) (dY cs.length cs.sum)),.int (cI (cj cs) (dY cs.length cs.sum))]))):Ee K vs H Q E0x
theorem Pu(T:Txt K mg t):ar P w K mg base (ay P w) 3 t.vj t.sX ["counts"] (Ee K):=by
 refine T.Kv.F.okm (k:=2) kc λcdv A outer s H vs Q E hr h=>?_
 obtain⟨p,cs,rfl,hS,hs,hk1,hk2,q⟩:=h
 refine⟨_,(ag (aC 1 kc.nd aw) (ag (cW cR rfl (di (pv 0)) (bB 2 kc.nd) (aj (cW cR rfl (ky rfl T.iQ (a1 (pv 2))) (bB 3 kc.nd) (aj (iO (i:=1) kc.nd rfl (Or.inl rfl) (ao aM (ao cP aw (pv 3)) aw) nA))))) (ag (aC 4 kc.nd aw) (ag (cW cR rfl (ky rfl T.iQ (a1 (dB (JH rfl) rfl T.Im JL (a1 (pv 0))))) (bB 3 kc.nd) (aj (iO (i:=4) kc.nd rfl (Or.inl rfl) (ao aM (ao cP aw (pv 3)) (cq T.ck (pv 0))) nA))) (aj (az (pc (jb T) hr T.j1 (a2 (pv 1) (pv 4))))))))),?_⟩
 nofun
 refine⟨_,rfl,.inl ⟨p,_,rfl,hS,?_⟩⟩
 refine fD iK (λi σ H'=>∃r1 r2,σ=[some (.ref p),some (.int (cj (cs.take i))),r1,r2,none]/\H'=H) ⟨_,_,rfl,rfl⟩ (λi σ H' _ ⟨_,_,_,e⟩=>by rw [e];exact hS) ?_ ?_
 ·rintro i x _ H' hx ⟨r1,r2,rfl,rfl⟩
  obtain⟨c,hc,rfl⟩:=RQ hx
  have hcs:=sj hc
  have hsn:cj (cs.take (i+1))=cj (cs.take i)*eO c:=by rw [i6,hc];exact DP _ _
  ac_rfl
  refine⟨by omega,by omega,?_⟩
  refine kI (λj σ H''=>∃r,σ=[some (.ref p),some (.int (cj (cs.take i)*eO j)),some (.int (c:Int)),r,none]/\H''=H') ⟨_,by show _=[_,some (V.int (cj (cs.take i)*1)),_,_,_];rw [qx];rfl,rfl⟩ ?_ ?_
  ·rintro j _ _ hj ⟨r,rfl,rfl⟩
   rw [eK] at hj
   ac_rfl
   refine .inl ⟨_,_,rfl,rfl,rW (by show (-(2^64):Int)<2*(0+(j:Int))+1;omega) (by show 2*(0+(j:Int))+1<(2^64:Int);omega),?_⟩
   rfl'
   rw [show cj (cs.take i)*eO (j+1)=cj (cs.take i)*eO j*(2*(0+(j:Int))+1) by rw [qv,cg];rfl]
   exact⟨_,rfl,rfl⟩
  ·rintro _ _ ⟨r,rfl,rfl⟩
   rw [eK,hsn]
   exact⟨_,_,rfl,rfl⟩
 ·rintro _ H' ⟨r1,r2,rfl,rfl⟩
  rw [sv,fH]
  obtain⟨b0,b1⟩:=pV hk1 hk2 cs.sum (by omega)
  ac_rfl
  refine⟨p,cs.map λ(c:Nat)=>(c:Int),rfl,hS,?_⟩
  rw [IK]
  ac_rfl
  refine⟨by omega,by omega,?_⟩
  refine kI (λj σ H''=>∃r1 r2,σ=[some (.ref p),some (.int (cj cs)),r1,r2,some (.int (dY cs.length j))]/\H''=H') ⟨_,_,rfl,rfl⟩ ?_ ?_
  ·rintro j _ _ hj ⟨r1,r2,rfl,rfl⟩
   rw [eK] at hj
   ac_rfl
   rw [sv]
   refine .inl ⟨_,_,rfl,rfl,rW (by show (-(2^64):Int)<2*(0+(j:Int))+(cs.length:Int);omega) (by show 2*(0+(j:Int))+(cs.length:Int)<(2^64:Int);omega),?_⟩
   rfl'
   rw [show dY cs.length (j+1)=dY cs.length j*(2*(0+(j:Int))+(cs.length:Int)) by rw [qv];rfl]
   exact⟨_,_,rfl,rfl⟩
  ·rintro _ _ ⟨r1,r2,rfl,rfl⟩
   rw [eK]
   ac_rfl
   exact⟨_,_,rfl,λz=>absurd z (by omega),λ_=>⟨bJ b1 (by omega),q⟩⟩
noncomputable def bG(f d:Nat)(l kn:List Nat)(k:Nat):Bool:=decide ((bg f d l k).take kn.length=kn)
noncomputable def aR(L:List Nat)(f d:Nat)(l kn:List Nat)(n:Nat):List Nat:=L.map λc=>((List.range n).filter λk=>bG f d l kn k && decide (l[k]?=some c)).length
noncomputable def b8(f d:Nat)(l kn:List Nat)(n:Nat):Bool:=(List.range n).any (bG f d l kn)
theorem iV(L:List Nat)(f d:Nat)(l kn:List Nat)(n:Nat):(aR L f d l kn n).length=L.length:=aT ..
theorem J9(p:Nat->Bool)(n:Nat):((List.range (n+1)).filter p).length=((List.range n).filter p).length+if p n=true then 1 else 0:=by
 rw [xF,List.filter_append,aq]
 cases h:p n<;>simp [h]
theorem pR(h:bG f d l kn n=false):aR L f d l kn (n+1)=aR L f d l kn n:=by
 unfold aR
 refine gQ λc _=>?_
 rw [J9,h,yb,if_neg cz];rfl
theorem mG(h:bG f d l kn n=false):b8 f d l kn (n+1)=b8 f d l kn n:=by
 unfold b8;rw [xF,List.any_append];simp [h]
theorem mF(h:bG f d l kn n=true):b8 f d l kn (n+1)=true:=by
 unfold b8;rw [xF,List.any_append];simp [h]
theorem C3(hL:L.Nodup)(h:bG f d l kn n=true)(hi:L[i]?=some c)(hc:l[n]?=some c):
 ∃v,(aR L f d l kn n)[i]?=some v/\aR L f d l kn (n+1)=(aR L f d l kn n).set i (v+1):=by
 obtain⟨hil,hic⟩:=bh.mp hi
 refine⟨((List.range n).filter λk=>bG f d l kn k && decide (l[k]?=some c)).length,by unfold aR;rw [bS,hi];rfl,?_⟩
 refine jt λj=>?_
 by_cases hj:j<L.length
 ·rw [List.getElem?_set]
  unfold aR
  rw [bS,bq hj,nO,J9,h,y9]
  by_cases hij:i=j
  ·subst hij
   rw [hic,decide_eq_true hc,if_pos rfl,if_pos rfl,if_pos (by rw [aT];exact hj)]
  ·rw [if_neg hij,bS,bq hj,nO]
   have:L[j] ≠ c:=λe=>hij ((List.getElem_inj hL).mp (hic.trans e.symm))
   rw [hc,decide_eq_false (λe=>this (dS e).symm),if_neg cz];rfl
 ·rw [fe (by rw [iV];omega),fe (by rw [List.length_set,iV];omega)]
theorem uX(h:b8 f d l kn n=false):aR L f d l kn n=List.replicate L.length 0:=by
 unfold aR
 refine jt λj=>?_
 rw [bS,Ko]
 by_cases hj:j<L.length
 ·rw [bq hj,if_pos hj,nO]
  congr 1
  rw [xI,List.filter_eq_nil_iff]
  intro k hk
  have:=List.any_eq_false.mp h k hk
  simp [this]
 ·rw [fe (by omega),if_neg hj];rfl
inductive EU(K:Frag)(vs:List V)(H:Hp)(Q:VK)(E0x:XK):Prop where
 | mk (p:Addr) (f:Nat) (L:List Nat) (d k:Nat) (l:List Nat) (_:vs=[.ref p,vt l,.int k]) (_:aG K H p [vt (f::L),.int d]) (_:(f::L).length<=100) (_:d<=6) (_:l.length<=1000) (_:k<=l.length) (_:∀D,H D=none->Q (.ref D) (ai H D (.lst ((List.range (d+1)).map λj=>vt ((bg f d l k).take j))))):EU K vs H Q E0x
theorem Q3(T:Txt K mg t):ar P w K mg base (ay P w) 2 t.we t.u9 ["frame", "text", "at"] (EU K):=by
 refine T.KS.F.okm (k:=1) Gs λcdv A outer s H vs Q E hr h=>?_
 obtain⟨p,f,L,d,k,l,rfl,hF,hL,hd,hl,hk,q⟩:=h
 refine⟨_,(ag (Hd (i:=3) Gs.nd rfl (Or.inr rfl) (pc (HI T) hr T.CT (cF.h (aE (pv 0) (aE (pv 1) (aE (pv 2) cT)))))) (aj (az (iB ["size", "path"] [none,some 3] (ky rfl T.iQ (a1 (ao aM (cq T.ck (pv 3)) aw))) (λ_ h=>bB 0 h) (λ_=>ez ei (pv 1) fO (dv (pv 0))))))),?_⟩
 nofun
 refine⟨_,rfl,_,rfl,_,rfl,p,f,L,d,k,l,rfl,hF,hL,hd,hl,hk,?_⟩
 have hz:=lP f d l k
 generalize bg f d l k=path at *
 have zp:path.length<=sizeLine:=by rw [sizeLine_eq];omega
 ac_rfl
 refine⟨by omega,by omega,λD hD cp=>?_⟩
 refine BB Ly (caps:=[some (vt path)]) (λj v=>v=vt (path.take j)) (λ_=>trivial) (by unfold jz;rw [aT,iF,sizeLine_eq];omega) ?_ ?_
 ·intro j x ys C hx hC
  have hj:j<(path.length+1:Nat):=by
   have:=(bh.mp hx).1
   unfold jz at this;rw [aT,iF] at this;omega
  obtain rfl:x=.int (j:Int):=by
   unfold jz at hx
   rw [bS,qp (by omega)] at hx
   have:x=V.int (0+(j:Int)):=(dS hx).symm
   rw [qv] at this;exact this
  refine⟨_,rfl,_,rfl,_,rfl,.inr (eF zp ?_)⟩
  rw [pP]
  exact hC _ rfl
 ·intro ys hy hR
  have e:ys=(List.range (d+1)).map λj=>vt (path.take j):=by
   unfold jz at hy
   rw [aT,iF] at hy
   refine jt λj=>?_
   rw [bS]
   by_cases hj:j<d+1
   ·rw [qp hj,bq (by omega)]
    exact congrArg some (hR j _ (bq (by omega)))
   ·rw [fe (by omega),fe (by rw [iF];omega)];rfl
  rw [e];exact q D hD
theorem RP(m:Nat):(List.replicate m [V.int 0]).flatten=cX (List.replicate m 0):=by
 unfold cX
 rw [List.map_replicate,List.map_replicate]
 induction m with
 | zero=>rfl
 | succ m ih=>rw [js,jY,ih,js];rfl
inductive EY(K:Frag)(vs:List V)(H:Hp)(Q:VK)(E0x:XK):Prop where
 | mk (p:Addr) (L:List Nat) (d:V) (_:vs=[.ref p]) (_:aG K H p [vt L,d]) (_:L.length<=100) (_:∀r H',ak H H'->H r=none->H' r=some (.lst (cX (List.replicate L.length 0)))->Q (.ref r) H'):EY K vs H Q E0x
theorem HH(T:Txt K mg t):ar P w K mg base (ay P w) 1 t.vY t.tX ["frame"] (EY K):=by
 refine T.CS.F.okm (k:=0) N8 λcdv A outer s H vs Q E hr h=>?_
 obtain⟨p,L,d,rfl,hF,hL,q⟩:=h
 have zL:L.length<=sizeLine:=by rw [sizeLine_eq];omega
 refine⟨_,(aj (az (ao cP (jC (a1 aw)) (cq T.ck (aK 0))))),?_⟩
 nofun
 refine⟨by show 1<=sizeLine;decide,λl1 hl1=>?_⟩
 ac_rfl
 refine .inr (.inr ⟨l1,_,_,rfl,rfl,aA,by omega,by omega,by rw [sizeLine_eq,eK];show 1*L.length<=_;omega,λl hl=>?_⟩)
 rw [eK,RP]
 exact q l _ (by array_mem_dec) ((bL hl1 _).free hl) aA
noncomputable def key(kn:List Nat):aU:=Sum.inr (tx kn)
theorem su{a b:List Nat}(h:key a=key b):a=b:=qS (Sum.inr.inj h)
structure iY(L:List Nat)(f d:Nat)(l:List Nat)(H:Hp)(kvs:List (aU × V))(m:List Nat->Nat):Prop where
 non:∀kn,aZ kvs (key kn)=none->b8 f d l kn (m kn)=false
 som:∀kn v,aZ kvs (key kn)=some v->∃p,v=.ref p/\H p=some (.lst (cX (aR L f d l kn (m kn))))/\b8 f d l kn (m kn)=true
 one:∀a b p,aZ kvs (key a)=some (.ref p)->aZ kvs (key b)=some (.ref p)->a=b
theorem iY.congr{m m':List Nat->Nat}(h:iY L f d l H kvs m)(e:∀kn,aR L f d l kn (m' kn)=aR L f d l kn (m kn)/\b8 f d l kn (m' kn)=b8 f d l kn (m kn)):iY L f d l H kvs m' :=
 ⟨λkn z=>by rw [(e kn).2];exact h.non kn z,λkn v z=>by rw [(e kn).1,(e kn).2];exact h.som kn v z,h.one⟩
theorem iY.same{m:List Nat->Nat}(h:iY L f d l H kvs m)(g:ak H H'):iY L f d l H' kvs m :=
 ⟨h.non,λkn v z=>by obtain⟨p,e,a,b⟩:=h.som kn v z;exact⟨p,e,g _ _ a,b⟩,h.one⟩
theorem K3{D:ie}{tb:Addr}{cs:List Nat}{v:Nat}(e:H tb=some (.dK kvs))(ev:aZ kvs (key kn)=some (.ref r))(er:H r=some (.lst (cX cs)))(hc:c ∈ L)(hi:∀j:Nat,L[j]?=some c->j=i)(hv:cs[i]?=some v)
 (q:D.nx [some (.ref p),some (vt l),some (vt L),some (.ref tb),some (.int (n:Int)),some (vt [c]),some (vt kn)] (ai H r (.lst (cX (cs.set i (v+1)))))):
 DY (DV (gW 3) (gW 6)) (DX K "str" GU (gW 2) (ig (gW 5) gX)) (tC (.int 1)) (GX K) (λx y H Q=>iN (λi j=>V.int (i+j)) x y H Q\/oO x y H Q) GJ D
  [some (.ref p),some (vt l),some (vt L),some (.ref tb),some (.int (n:Int)),some (vt [c]),some (vt kn)] H:=by
 have hil:i<cs.length:=(bh.mp hv).1
 refine⟨_,rfl,_,rfl,tb,.ref r,rfl,by rw [← ev];exact eW.k (k:=key kn) e,?_⟩
 refine⟨_,rfl,rfl,_,rfl,L,c,rfl,rfl,hc,λj hj=>?_⟩
 obtain rfl:=hi j hj
 refine⟨r,_,_,_,rfl,rfl,aD.of er,by omega,fR (by rw [sx,hv];rfl),?_⟩
 refine .inl ⟨_,_,rfl,rfl,?_⟩
 refine⟨r,_,_,j,rfl,rfl,er,?_,?_⟩
 ·unfold iS;rw [if_pos (by omega),if_pos (by rw [sv];omega),eK]
 ·show D.nx _ (ai H r (.lst ((cX cs).set j (.int ((v:Int)+1)))))
  rw [show ((v:Int)+1)=((v+1:Nat):Int) by omega,IH];exact q
theorem v8(h:L.Nodup)(hi:L[i]?=some c)(hj:L[j]?=some c):j=i:=by
 obtain⟨h1,e1⟩:=bh.mp hi
 obtain⟨h2,e2⟩:=bh.mp hj
 exact(List.getElem_inj h).mp (e2.trans e1.symm)
inductive ED(K:Frag)(vs:List V)(H:Hp)(Q:VK)(E0x:XK):Prop where
 | mk (p:Addr) (f:Nat) (L:List Nat) (d:Nat) (l:List Nat) (_:vs=[.ref p,vt l]) (_:aG K H p [vt (f::L),.int d]) (_:(f::L).Nodup) (_:(f::L).length<=100) (_:d<=6) (_:l.length<=1000) (_:(∀c ∈ l,c ∈ f::L)) (_:∀tb H' kvs,ak H H'->H tb=none->H' tb=some (.dK kvs)->(∀kn q,aZ kvs (key kn)=some (.ref q)->H q=none)->iY (f::L) f d l H' kvs (λ_=>l.length)->Q (.ref tb) H'):ED K vs H Q E0x
theorem Q5(T:Txt K mg t):ar P w K mg base (ay P w) 3 t.wx t.uf ["frame", "text"] (ED K):=by
 refine T.KW.F.okm (k:=2) mL λcdv A outer s H vs Q E hr h=>?_
 obtain⟨p,f,L,d,l,rfl,hF,hnd,hL,hd,hl,hall,q⟩:=h
 refine⟨_,(ag (aC 2 mL.nd (aK 0)) (ag (aC 3 mL.nd AQ) (ag (cW cR rfl (Om rfl T.Ip JO (pv 1)) (mU rfl (ip (bB 4 mL.nd) (ip (bB 5 mL.nd) mT))) (aj (cW cR rfl (di (pc (Q3 T) hr T.KS (cF.h (aE (pv 0) (aE (pv 1) (aE (pv 4) cT)))))) (bB 6 mL.nd) (ag (aW (mQ (AV (hG hr) (pv 6) (pv 3))) (aj (rL (hG hr) (pv 3) (pv 6) (pc (HH T) hr T.CS (a1 (pv 0))) rfl)) aX) (aj (He (AR (hG hr) (pv 3) (pv 6) (λ_ _=>rfl)) (fh hZ qf xm pf (pv 2) (a1 (pv 5))) J3 aw kH Gg)))))) (aj (az (pv 3)))))),?_⟩
 nofun
 ac_rfl
 refine λtb htb=>?_
 refine⟨_,rfl,l,rfl,?_⟩
 refine Sz (λn σ H'=>∃(kvs:List (aU × V)) (r1 r2 r3:Option V),σ=[some (.ref p),some (vt l),some (vt (f::L)),some (.ref tb),r1,r2,r3]/\ak H H'/\H' tb=some (.dK kvs)/\kvs.length<=7*n/\(∀kn q,aZ kvs (key kn)=some (.ref q)->H q=none)/\iY (f::L) f d l H' kvs (λ_=>n))
  ⟨[],_,_,_,rfl,bL htb _,aA,aI _,λkn q z=>(by rw [yk] at z;cases z),⟨λkn _=>rfl,λkn v z=>(by rw [yk] at z;cases z),λa b p z=>(by rw [yk] at z;cases z)⟩⟩ ?_ ?_
 ·rintro n c _ H1 pt hc ⟨kvs,r1,r2,r3,rfl,g1,e1,hk1,hn1,tab⟩ hpt
  have hn:n<l.length:=(bh.mp hc).1
  have g2:ak H (ai H1 pt (.tup [.int (n:Int),vt [c]])):=by array_mem_dec
  have e2:ai H1 pt (.tup [.int (n:Int),vt [c]]) tb=some (.dK kvs):=by array_mem_dec
  have tab2:=tab.same (bL hpt (.tup [.int (n:Int),vt [c]]))
  generalize ai H1 pt (.tup [.int (n:Int),vt [c]])=H2 at g2 e2 tab2 ⊢
  clear tab e1 g1 hpt
  refine⟨_,rfl,_,rfl,_,rfl,p,f,L,d,n,l,rfl,bX g2 hF,hL,hd,hl,by omega,λD hD=>?_⟩
  have hz:=lP f d l n
  have hfal:∀j,j<=d->bG f d l ((bg f d l n).take j) n=true:=λj hj=>by
   unfold bG
   rw [dM,hz,Nat.min_eq_left hj];exact decide_eq_true rfl
  have hfl:∀kn,bG f d l kn n=true->∃j,j<=d/\kn=(bg f d l n).take j/\kn.length=j:=λkn h=>by
   have e:=of_decide_eq_true h
   have hl2:kn.length<=d:=by have:=congrArg List.length e;rw [dM,hz] at this;omega
   exact⟨kn.length,hl2,e.symm,rfl⟩
  generalize hpa:bg f d l n=path at hz hfal hfl ⊢
  have cL:c ∈ f::L:=hall c (eU hc)
  obtain⟨ci,hci⟩:=xJ cL
  have hnq:∀kn q,aZ kvs (key kn)=some (.ref q)->H q=none/\q ≠ D:=λkn q z=>⟨hn1 kn q z,λy=>by
   obtain⟨q',e,a,_⟩:=tab2.som kn _ z
   cases e
   rw [y,hD] at a;cases a⟩
  refine .inl ⟨D,_,rfl,aD.of aA,?_⟩
  have g3:ak H (ai H2 D (.lst ((List.range (d+1)).map λj=>vt (path.take j)))):=by array_mem_dec
  have e3:ai H2 D (.lst ((List.range (d+1)).map λj=>vt (path.take j))) tb=some (.dK kvs):=by array_mem_dec
  have eD3:ai H2 D (.lst ((List.range (d+1)).map λj=>vt (path.take j))) D=some (.lst ((List.range (d+1)).map λj=>vt (path.take j))):=aA
  have tab3:=tab2.same (bL hD (.lst ((List.range (d+1)).map λj=>vt (path.take j))))
  generalize ai H2 D (.lst ((List.range (d+1)).map λj=>vt (path.take j)))=H3 at g3 e3 eD3 tab3 ⊢
  clear hD tab2 e2 g2 hn1
  refine fD iK (λj σ H'=>∃(kvs:List (aU × V)) (r3:Option V),σ=[some (.ref p),some (vt l),some (vt (f::L)),some (.ref tb),some (.int (n:Int)),some (vt [c]),r3]/\ak H H'/\H' tb=some (.dK kvs)/\H' D=some (.lst ((List.range (d+1)).map λj=>vt (path.take j)))/\kvs.length<=7*n+j/\(∀kn q,aZ kvs (key kn)=some (.ref q)->H q=none/\q ≠ D)/\iY (f::L) f d l H' kvs (λkn=>if bG f d l kn n=true/\kn.length<j then n+1 else n))
   ⟨kvs,_,rfl,g3,e3,eD3,hk1,hnq,tab3.congr λkn=>by rw [if_neg (λz=>absurd z.2 (Nat.not_lt_zero _))];exact⟨rfl,rfl⟩⟩ (λi σ H' _ ⟨_,_,_,_,_,e,_⟩=>aD.of e) ?_ ?_
  ·rintro j x _ H4 hx ⟨kvs,r3,rfl,g4,e4,eD4,hk4,hn4,tab4⟩
   have hj:j<d+1:=by have:=(bh.mp hx).1;rw [aT,iF] at this;exact this
   obtain rfl:x=vt (path.take j):=by
    rw [bS,qp hj] at hx;exact(dS hx).symm
   have kl:(path.take j).length=j:=by rw [dM];omega
   have kf:=hfal j (by omega)
   have km:(if bG f d l (path.take j) n=true/\(path.take j).length<j then n+1 else n)=n:=if_neg (λz=>by omega)
   have cy:=C3 (L:=f::L) hnd kf hci hc
   obtain⟨v,hv,hcv⟩:=cy
   have done:∀(H5:Hp) (kvs5:List (aU × V)) (r:Addr),ak H H5->H5 tb=some (.dK kvs5)->H5 D=some (.lst ((List.range (d+1)).map λj=>vt (path.take j)))->kvs5.length<=7*n+(j+1)->H r=none->r ≠ D->r ≠ tb->aZ kvs5 (key (path.take j))=some (.ref r)->
    (∀kn,kn ≠ path.take j->aZ kvs5 (key kn)=aZ kvs (key kn))->(∀kn,aZ kvs (key kn)=some (.ref r)->kn=path.take j)->(∀kn q,aZ kvs (key kn)=some (.ref q)->H5 q=H4 q)->
    ∃(kvs:List (aU × V)) (r3:Option V),[some (.ref p),some (vt l),some (vt (f::L)),some (.ref tb),some (.int (n:Int)),some (vt [c]),some (vt (path.take j))]=[some (.ref p),some (vt l),some (vt (f::L)),some (.ref tb),some (.int (n:Int)),some (vt [c]),r3]/\ak H (ai H5 r (.lst (cX ((aR (f::L) f d l (path.take j) n).set ci (v+1)))))/\ai H5 r (.lst (cX ((aR (f::L) f d l (path.take j) n).set ci (v+1)))) tb=some (.dK kvs)/\ai H5 r (.lst (cX ((aR (f::L) f d l (path.take j) n).set ci (v+1)))) D=some (.lst ((List.range (d+1)).map λj=>vt (path.take j)))/\kvs.length<=7*n+(j+1)/\(∀kn q,aZ kvs (key kn)=some (.ref q)->H q=none/\q ≠ D)/\iY (f::L) f d l (ai H5 r (.lst (cX ((aR (f::L) f d l (path.take j) n).set ci (v+1))))) kvs (λkn=>if bG f d l kn n=true/\kn.length<j+1 then n+1 else n):=by
    intro H5 kvs5 r g5 e5 eD5 hk5 hrn hrD hrt hv5 hoth huniq hold
    refine⟨kvs5,_,rfl,jF hrn g5,by rw [au (dG hrt)];exact e5,by rw [au (dG hrD)];exact eD5,hk5,λkn q z=>?_,?_,?_,?_⟩
    ·by_cases h:kn=path.take j
     ·subst h;rw [hv5] at z;cases z;exact⟨hrn,hrD⟩
     ·rw [hoth kn h] at z;exact hn4 kn q z
    ·intro kn z
     by_cases h:kn=path.take j
     ·subst h;rw [hv5] at z;cases z
     ·rw [hoth kn h] at z
      have:=tab4.non kn z
      by_cases hf:bG f d l kn n=true/\kn.length<j+1
      ·have hne:¬ kn.length=j:=λy=>h (by
        obtain⟨j',_,e',el'⟩:=hfl kn hf.1
        rw [e',show j'=j by omega])
       have hf':bG f d l kn n=true/\kn.length<j:=⟨hf.1,by omega⟩
       rw [if_pos hf];rw [if_pos hf'] at this;exact this
      ·have hf':¬ (bG f d l kn n=true/\kn.length<j):=λy=>hf ⟨y.1,by omega⟩
       rw [if_neg hf];rw [if_neg hf'] at this;exact this
    ·intro kn u z
     by_cases h:kn=path.take j
     ·subst h
      rw [hv5] at z;cases z
      rw [if_pos ⟨kf,by omega⟩,hcv]
      exact⟨r,rfl,aA,mF kf⟩
     ·rw [hoth kn h] at z
      obtain⟨q',e',a',b'⟩:=tab4.som kn u z
      have hqr:q' ≠ r:=λy=>h (huniq kn (by rw [z,e',y]))
      have a'':H5 q'=some (.lst (cX (aR (f::L) f d l kn (if bG f d l kn n=true/\kn.length<j then n+1 else n)))):=by rw [hold kn q' (by rw [z,e'])];exact a'
      refine⟨q',e',?_⟩
      rw [au hqr]
      by_cases hf:bG f d l kn n=true/\kn.length<j+1
      ·have hne:¬ kn.length=j:=λy=>h (by
        obtain⟨j',_,e',el'⟩:=hfl kn hf.1
        rw [e',show j'=j by omega])
       have hf':bG f d l kn n=true/\kn.length<j:=⟨hf.1,by omega⟩
       rw [if_pos hf];rw [if_pos hf'] at a'' b';exact⟨a'',b'⟩
      ·have hf':¬ (bG f d l kn n=true/\kn.length<j):=λy=>hf ⟨y.1,by omega⟩
       rw [if_neg hf];rw [if_neg hf'] at a'' b';exact⟨a'',b'⟩
    ·intro a b q' za zb
     by_cases ha:a=path.take j
     ·by_cases hb:b=path.take j
      ·rw [ha,hb]
      ·subst ha
       rw [hv5] at za;cases za
       rw [hoth b hb] at zb
       exact absurd (huniq b zb) hb
     ·by_cases hb:b=path.take j
      ·subst hb
       rw [hv5] at zb;cases zb
       rw [hoth a ha] at za
       exact absurd (huniq a za) ha
      ·rw [hoth a ha] at za
       rw [hoth b hb] at zb
       exact tab4.one a b q' za zb
   refine⟨_,rfl,_,rfl,tb,aZ kvs (key (path.take j)),rfl,eW.k (k:=key (path.take j)) e4,?_⟩
   cases hvk:aZ kvs (key (path.take j)) with
   | some u =>
     obtain⟨r,rfl,er,_⟩:=tab4.som _ _ hvk
     rw [km] at er
     obtain⟨hrn,hrD⟩:=hn4 _ _ hvk
     have hrt:r ≠ tb:=Bi er e4 (λz=>by cases z)
     refine⟨_,rfl,?_⟩
     refine bK ?_
     refine K3 e4 hvk er cL (λj' h'=>v8 hnd hci h') hv ?_
     exact done H4 kvs r g4 e4 eD4 (by omega) hrn hrD hrt hvk (λ_ _=>rfl) (λkn z=>tab4.one _ _ r z hvk) (λ_ _ _=>rfl)
   | none =>
     refine⟨_,rfl,?_⟩
     refine gb ?_
     have us:=tab4.non _ hvk
     rw [km] at us
     refine⟨_,rfl,p,f::L,_,rfl,bX g4 hF,hL,λr H5 g5 hr4 er=>?_⟩
     have hrn:H r=none:=g4.free hr4
     have hrD:r ≠ D:=λz=>by rw [z,eD4] at hr4;cases hr4
     have hrt:r ≠ tb:=λz=>by rw [z,e4] at hr4;cases hr4
     rw [← uX us] at er
     refine⟨_,rfl,_,rfl,tb,_,rfl,jw.k (k:=key (path.take j)) (g5 _ _ e4) (by rw [sizeLine_eq];omega),?_⟩
     refine K3 (kvs:=cE kvs (key (path.take j)) (.ref r)) aA (by rw [k9,if_pos rfl]) (by rw [au hrt];exact er) cL (λj' h'=>v8 hnd hci h') hv ?_
     refine done _ (cE kvs (key (path.take j)) (.ref r)) r (jF htb (g4.trans g5)) aA (by rw [au (λz=>by rw [z,e4] at eD4;cases eD4)];exact g5 _ _ eD4) (by have:=BA kvs (key (path.take j)) (.ref r);omega) hrn hrD hrt (by rw [k9,if_pos rfl]) (λkn h=>by rw [k9,if_neg (λz=>h (su z))]) (λkn z=>?_) (λkn q' z=>?_)
     ·obtain⟨q',e',a',_⟩:=tab4.som kn _ z
      cases e'
      rw [hr4] at a';cases a'
     ·obtain⟨q2,e',a',_⟩:=tab4.som kn _ z
      cases e'
      rw [au (Bi a' e4 (λz=>by cases z)),g5 _ _ a',a']
  ·rintro _ H4 ⟨kvs,r3,rfl,g4,e4,eD4,hk4,hn4,tab4⟩
   rw [aT,iF] at hk4 tab4
   refine⟨kvs,_,_,_,rfl,g4,e4,by omega,λkn q' z=>(hn4 kn q' z).1,tab4.congr λkn=>?_⟩
   cases hf:bG f d l kn n with
   | true =>
     obtain⟨j',h1,_,h2⟩:=hfl kn hf
     rw [if_pos ⟨rfl,by omega⟩];exact⟨rfl,rfl⟩
   | false =>
     rw [if_neg (λz=>by cases z.1)]
     exact⟨pR hf,mG hf⟩
 ·rintro _ H1 ⟨kvs,r1,r2,r3,rfl,g1,e1,hk1,hn1,tab⟩
  exact⟨_,rfl,q tb H1 kvs g1 htb e1 hn1 tab⟩
inductive Sh where
 | non | oth | tup (bs:List Sh)
inductive i3(K:Frag)(H:Hp):V->Prop where
 | bl (b:Bool):i3 K H (.bl b)
 | int (n:Int):i3 K H (.int n)
 | str (z:Str):i3 K H (.str z)
 | lst {a:Addr} {xs:List V} (e:H a=some (.lst xs)):i3 K H (.ref a)
 | dK {a:Addr} {kvs:List (aU × V)} (e:H a=some (.dK kvs)):i3 K H (.ref a)
theorem i3.same(h:i3 K H x)(g:ak H H'):i3 K H' x:=by
 cases h with
 | bl b=>exact .bl b
 | int n=>exact .int n
 | str z=>exact .str z
 | lst e=>exact .lst (g _ _ e)
 | dK e=>exact .dK (g _ _ e)
theorem i3.ne(h:i3 K H x):decide (x=.non)=false:=by cases h<;>exact decide_eq_false (λz=>nomatch z)
theorem Rz(K:Frag):kitOne K (.type "bool") (.type "tuple")=some false/\kitOne K (.type "int") (.type "tuple")=some false/\kitOne K (.type "str") (.type "tuple")=some false/\
 kitOne K (.type "list") (.type "tuple")=some false/\kitOne K (.type "dict") (.type "tuple")=some false:=by
 unfold kitOne kitCls subIn
 refine⟨?_,?_,?_,?_,?_⟩<;>kernel_rfl
theorem i3.kit(h:i3 K H x):∃ty,gq K H x ty/\kitOne K ty (.type "tuple")=some false:=by
 obtain⟨b1,i1,s1,l1,d1⟩:=Rz K
 cases h with
 | bl b=>exact⟨_,.bl b,b1⟩
 | int n=>exact⟨_,.int n,i1⟩
 | str z=>exact⟨_,.str z,s1⟩
 | lst e=>exact⟨_,.lst e,l1⟩
 | dK e=>exact⟨_,.dK e,d1⟩
inductive fF(K:Frag)(H:Hp):V->Sh->Prop where
 | non:fF K H .non .non
 | oth {x:V} (h:i3 K H x):fF K H x .oth
 | tup {a:Addr} {vs:List V} {bs:List Sh} (e:H a=some (.tup vs)) (hl:vs.length=bs.length) (h:∀(i:Nat) v b,vs[i]?=some v->bs[i]?=some b->fF K H v b):fF K H (.ref a) (.tup bs)
theorem fF.same{τ:Sh}(h:fF K H x τ)(g:ak H H'):fF K H' x τ:=by
 induction h with
 | non=>exact .non
 | oth h=>exact .oth (h.same g)
 | tup e hl _ ih=>exact .tup (g _ _ e) hl ih
noncomputable def dW(m:Nat):Nat->Sh->Bool
 | _,.non=>true
 | _,.oth=>false
 | 0,.tup _=>false
 | n+1,.tup bs=>decide (bs.length=m) && bs.all (dW m n)
inductive oF(K:Frag)(n:Nat)(vs:List V)(H:Hp)(Q:VK)(E0x:XK):Prop where
 | mk (L:List Nat) (x:V) (τ:Sh) (_:vs=[vt L,x,.int n]) (_:L.length<=100) (_:fF K H x τ) (_:∀H',ak H H'->Q (.bl (dW L.length n τ)) H'):oF K n vs H Q E0x
theorem B2{k:Nat}{f:Addr}{fd:FuncData}{ps:List Str}:ar P w K mg base (ay P w) k f fd ps (λ_ _ _ _=>False):=⟨λ_ _ _ _ h=>h.elim,λ_ _ _ _ _ _ _ _ _ _ _ _ _ h=>h.elim⟩
theorem DO(T:Txt K mg t)(n:Nat)(sp:Sp)(hsp:∀k,n=k+1->sp=oF K k)(G_is_tree_of:ar P w K mg base (ay P w) n t.lZ t.lL ["letters", "thing", "steps"] sp):
 ar P w K mg base (ay P w) (n+1) t.lZ t.lL ["letters", "thing", "steps"] (oF K n):=by
 refine T.CW.F.okm (k:=n) Na λcdv A outer s H vs Q E hr h=>?_
 obtain⟨L,x,τ,rfl,hL,hx,q⟩:=h
 have zL:L.length<=sizeLine:=by rw [sizeLine_eq];omega
 refine⟨_,(ag (aW (mQ (AU (pv 1))) (aj (az eA)) aX) (ag (aW (PW.pt (fA (bo (dR (hr.units0)) (pv 2) aw) (fA (dh (du (dB jL rfl T.jJ jP (a2 (pv 1) (jE (v:=.ty "tuple") rfl T.Ik JK rfl))))) (fM (bo (fP (hr.units0)) (cq T.ck (pv 1)) (cq T.ck (pv 0))))))) (aj (az eA)) aX) (aj (az (dB (nG rfl) rfl T.n5 nI (a1 (iB ["branch", "letters", "steps"] [none,some 0,some 2] (di (pv 1)) (λ_ h=>bB 0 h) (λ_=>pc G_is_tree_of hr T.CW (cF.h (aE (pv 1) (aE (pv 0) (aE (ao lq (pv 2) aw) cT)))))))))))),?_⟩
 nofun
 cases hx with
 | non =>
   refine⟨_,rfl,_,rfl,gb ?_⟩
   have:dW L.length n Sh.non=true:=by cases n<;>rfl
   rw [this] at q
   exact q H (ak.refl H)
 | oth h =>
   obtain⟨ty,hty,ek⟩:=h.kit
   refine⟨_,rfl,_,rfl,?_⟩
   rw [h.ne]
   refine bK ?_
   have hb:dW L.length n Sh.oth=false:=by cases n<;>rfl
   rw [hb] at q
   ac_rfl
   refine dr (λ_=>q H (ak.refl H)) (λ_=>?_)
   exact⟨_,rfl,.inl ⟨x,ty,_,false,rfl,hty,ek,false,rfl,gb (q H (ak.refl H))⟩⟩
 | tup e hl h =>
   rename_i a vs bs
   refine⟨_,rfl,_,rfl,bK ?_⟩
   ac_rfl
   refine dr (λz=>?_) (λz=>?_)
   ·have:n=0:=by have:=V.int.inj z;omega
    subst this
    exact q H (ak.refl H)
   obtain⟨k,rfl⟩:∃k,n=k+1:=⟨n-1,by cases n with | zero=>exact absurd rfl z | succ n=>rfl⟩
   have hs:=hsp k rfl
   subst hs
   refine⟨_,rfl,.inl ⟨_,_,_,true,rfl,.tup e,jg K _,true,rfl,bK ?_⟩⟩
   ac_rfl
   rfl'
   refine IP (λz2=>?_) (λz2=>?_)
   ·have:dW L.length (k+1) (Sh.tup bs)=false:=by
     show (decide (bs.length=L.length) && _)=false
     rw [decide_eq_false (λe=>z2 (congrArg (λ(n:Nat)=>V.int (n:Int)) (hl.trans e))),yb]
    rw [this] at q
    exact q H (ak.refl H)
   have hbl:bs.length=L.length:=by
    have:=V.int.inj z2
    omega
   have hq:dW L.length (k+1) (Sh.tup bs)=bs.all (dW L.length k):=by
    show (decide (bs.length=L.length) && _)=_
    rw [decide_eq_true hbl,y9]
   rw [hq] at q
   refine⟨_,rfl,.inr (.inl ⟨_,_,rfl,.inl (.inl e),λD hD c=>?_⟩)⟩
   refine sr Dw hD (λ_ j v=>∀b,bs[j]?=some b->v=.bl (dW L.length k b)) (λ_ _ _ _ _ h=>h) (λH1 s1=>.inl (.inl (s1 _ _ e))) (by rw [sizeLine_eq];omega) ?_ ?_
   ·intro i x H1 ys C hx s1 _ hC
    have hi:=(bh.mp hx).1
    have hb:=bq (show i<bs.length by omega)
    refine⟨_,rfl,_,rfl,_,rfl,_,_,rfl,rfl,?_⟩
    refine⟨L,x,bs[i],?_,hL,(h i x _ hx hb).same s1,λH' s'=>hC H' _ s' (λb hb'=>?_)⟩
    ·show [vt L,x,V.int (((k+1:Nat):Int)-1)]=_
     rw [show (((k+1:Nat):Int)-1)=(k:Int) by omega]
    ·rw [hb] at hb';cases hb';rfl
   ·intro H1 ys s1 hy hn hv
    have:ys=(bs.map (dW L.length k)).map V.bl:=by
     refine jt λj=>?_
     rw [bS,bS]
     cases z:bs[j]? with
     | none =>
       rw [Cr] at z
       rw [fe (by omega)];rfl
     | some b =>
       have hj:=(bh.mp z).1
       have:=bq (show j<ys.length by omega)
       rw [this,hv j _ this b z];rfl
    subst this
    refine⟨_,_,rfl,.inl (.inl hy),?_⟩
    rw [ml]
    exact q H1 s1
theorem Bc(T:Txt K mg t):∀n,ar P w K mg base (ay P w) (n+1) t.lZ t.lL ["letters", "thing", "steps"] (oF K n)
 | 0=>DO T 0 _ (λ_ h=>nomatch h) B2
 | n+1=>DO T (n+1) _ (λk h=>by cases h;rfl) (Bc T n)
theorem Br{A B:TS}{D:ie}{σ:L2.St}(S:L2.St->Hp->Prop)(k:∀N:L2.St->Hp->Prop,(∀σ H,S σ H->N σ H)->A { D with nx:=N } σ H)(r:∀σ H,S σ H->B D σ H):kZ A B D σ H:=k (B D) r
theorem gY:V.str (Str.ofString "")=vt []:=congrArg V.str (by decide +kernel)
noncomputable def aQ:List Int->Int
 | []=>1
 | x::xs=>x*aQ xs
theorem Hk(a b:List Int):aQ (a++b)=aQ a*aQ b:=by
 induction a with
 | nil=>simp [aQ]
 | cons x a ih=>show x*aQ (a++b)=x*aQ a*aQ b;rw [ih,cg]
theorem ku:∀{a:List Int},(∀x ∈ a,1<=x)->1<=aQ a
 | [],_=>fJ _
 | x::a,h=>by
   have h1:=h x bO
   have h2:=ku (a:=a) λy hy=>h y (df _ hy)
   show 1<=x*aQ a
   have:=iI h1 h2 (by decide) (by omega)
   simpa using this
theorem Hi{a b:List Int}(ha:∀x ∈ a,1<=x)(hb:∀x ∈ b,1<=x):aQ a<=aQ (a++b):=by
 rw [Hk]
 have h1:=ku ha
 have h2:=ku hb
 have:=Kp h2 (show 0<=aQ a by omega)
 simpa using this
theorem fq{k:Nat}:bG f d l kn k=true ↔ kn <+: bg f d l k:=by
 unfold bG
 rw [decide_eq_true_iff,List.prefix_iff_eq_take]
 exact⟨Eq.symm,Eq.symm⟩
theorem ji{k:Nat}(h:¬ kn <+: bg f d l k):bG f d l kn k=false:=by
 cases z:bG f d l kn k with
 | false=>rfl
 | true=>exact absurd (fq.mp z) h
noncomputable def sg(f d:Nat)(l kn:List Nat)(n:Nat):List Nat:=((List.range n).filter (bG f d l kn)).map λk=>l.getD k 0
theorem yv(h:bG f d l kn n=true):sg f d l kn (n+1)=sg f d l kn n++[l.getD n 0]:=by
 unfold sg
 rw [xF,List.filter_append,gv,mh,if_pos h];rfl
theorem rf(h:bG f d l kn n=false):sg f d l kn (n+1)=sg f d l kn n:=by
 unfold sg
 rw [xF,List.filter_append,mh,if_neg (by rw [h];decide)];simp
theorem oI(hL:L.Nodup)(hl:∀c ∈ l,c ∈ L):∀n,n<=l.length->(aR L f d l kn n).sum=(sg f d l kn n).length:=by
 intro n
 induction n with
 | zero =>
   intro _
   rw [uX (by rfl),sg]
   simp
 | succ n ih =>
   intro hn
   have ih':=ih (by omega)
   cases z:bG f d l kn n with
   | false=>rw [pR z,rf z];exact ih'
   | true =>
     have hln:l[n]?=some (l.getD n 0):=by rw [fU,bq (show n<l.length by omega)];rfl
     obtain⟨j,hj⟩:=xJ (hl _ (eU hln))
     obtain⟨v,hv,e⟩:=C3 (d:=d) (kn:=kn) (f:=f) hL z hj hln
     rw [e,yq hv,yv z,aq,ih'];rfl
theorem j7(f d:Nat)(l kn:List Nat)(n:Nat):(sg f d l kn n).length<=n:=by
 unfold sg
 rw [aT]
 have:=List.length_filter_le (bG f d l kn) (List.range n)
 rw [iF] at this
 exact this
noncomputable def bf(K:Frag)(H:Hp)(x:V)(A B:Int):Prop:=∃p n d,x=.ref p/\aG K H p [.int n,.int d]/\0<n/\0<d/\n*B=A*d/\bM n d=1/\n<=A/\d<=B
theorem bf.same{B:Int}(h:bf K H x A B)(g:ak H H'):bf K H' x A B:=by
 obtain⟨p,n,d,e,h1,h2⟩:=h
 exact⟨p,n,d,e,bX g h1,h2⟩
theorem lr{t:Int}(ht:0<t)(hb:0<b):0<cn t b:=by
 have h:=iw (t:=t) (b:=b) (by omega)
 have hd:=gj (t:=t) (b:=b) (by omega)
 have:0<cn t b*b:=by rw [h];exact cK ht hd
 exact Int.pos_of_mul_pos_left this hb
theorem bf.made{t:Int}(ht:0<t)(hb:0<b)(e:aG K H p [.int (cn t b),.int (cI t b)]):bf K H (.ref p) t b:=by
 have h0:b ≠ 0:=by omega
 have l1:=rT (t:=t) h0
 have l2:=uT (t:=t) h0
 have p1:=lr ht hb
 have p2:=gj (t:=t) h0
 exact⟨p,_,_,rfl,e,p1,p2,iw h0,jH h0,by omega,by omega⟩
theorem bf.times{n d m e B C D:Int}(hd:0<d)(he:0<e)(hn:0<n)(hm:0<m)(h1:n*B=A*d)(h2:m*D=C*e):cn (n*m) (d*e)*(B*D)=A*C*cI (n*m) (d*e):=by
 have hde:0<d*e:=cK hd he
 have hx:=iw (t:=n*m) (b:=d*e) (by omega)
 refine ia (a:=d*e) (by omega) ?_
 calc cn (n*m) (d*e)*(B*D)*(d*e)=(cn (n*m) (d*e)*(d*e))*(B*D):=by simp only [cg,cS,kS]
  _=(n*m*cI (n*m) (d*e))*(B*D):=by rw [hx]
  _=(n*B)*(m*D)*cI (n*m) (d*e):=by simp only [cg,cS,kS]
  _=(A*d)*(C*e)*cI (n*m) (d*e):=by rw [h1,h2]
  _=A*C*cI (n*m) (d*e)*(d*e):=by simp only [cg,cS,kS]
theorem gm{n:Int}{k:Nat}(h0:0<n)(h:n<=A)(hA:A<2^k):n.natAbs<2^k:=by
 have:(n.natAbs:Int)<((2^k:Nat):Int):=by
  rw [k5]
  have:(n.natAbs:Int)=n:=by omega
  rw [this];exact xS h hA
 exact Int.ofNat_lt.mp this
theorem jh{n:Int}{k:Nat}(h:n.natAbs<2^k):n<2^k:=by
 have h1:(n.natAbs:Int)<((2^k:Nat):Int):=Int.ofNat_lt.mpr h
 rw [k5] at h1
 have h2:n<=(n.natAbs:Int):=Int.le_natAbs
 exact xS h2 h1
inductive Ey(K:Frag)(vs:List V)(H:Hp)(Q:VK)(E0x:XK):Prop where
 | mk x y A B C D (_:vs=[x,y]) (_:bf K H x A B) (_:bf K H y C D) (_:A<2^9000) (_:B<2^9000) (_:C<2^9000) (_:D<2^9000) (_:B*D<2^8999) (_:∀H' z,ak H H'->bf K H' z (A*C) (B*D)->Q z H'):Ey K vs H Q E0x
theorem Hz(T:Txt K mg t):ar P w K mg base (ay P w) 3 t.qb t.pL ["one", "other"] (Ey K):=by
 refine T.qB.F.okm (k:=2) Gn λcdv A outer s H vs Q E hr h=>?_
 obtain⟨_,_,a,b,c,e,rfl,⟨p,n,d,rfl,h1,n0,d0,c1,g1,l1,l2⟩,⟨q',m,f,rfl,h2,m0,f0,c2,g2,l3,l4⟩,ba,bb,bc,be,bbe,q⟩:=h
 refine⟨_,(aj (az (pc (jb T) hr T.j1 (a2 (ao cP (aK 0) (aK 1)) (ao cP (aK 0) (aK 1)))))),?_⟩
 nofun
 have an:=gm n0 l1 ba
 have ad:=gm d0 l2 bb
 have am:=gm m0 l3 bc
 have af:=gm f0 l4 be
 have mo1:fG n m:=eC (bJ an (by decide)) (bJ am (by decide))
 have mo2:fG d f:=eC (bJ ad (by decide)) (bJ af (by decide))
 have hde:0<d*f:=cK d0 f0
 have hle:d*f<=b*e:=iI l2 l4 (by omega) (by omega)
 refine⟨_,rfl,aV h1 rfl ⟨_,rfl,aV h2 rfl (.inl ⟨_,_,rfl,rfl,mo1,_,rfl,aV h1 rfl ⟨_,rfl,aV h2 rfl (.inl ⟨_,_,rfl,rfl,mo2,?_⟩)⟩⟩)⟩⟩
 refine⟨n*m,d*f,rfl,λz=>absurd z (by omega),λ_=>⟨gm hde hle bbe,λr hr0=>?_⟩⟩
 refine q _ _ (bL hr0 _) ⟨r,_,_,rfl,.inl (.inl aA),lr (cK n0 m0) hde,gj (by omega),bf.times d0 f0 n0 m0 c1 c2,jH (by omega),?_,?_⟩
 ·have:=rT (t:=n*m) (b:=d*f) (by omega)
  have h3:=iI l1 l3 (by omega) (by omega)
  have:=lr (cK n0 m0) hde
  have:=cK n0 m0
  omega
 ·have:=uT (t:=n*m) (b:=d*f) (by omega)
  have:=gj (t:=n*m) (b:=d*f) (by omega)
  omega
theorem Hh(a:List Int)(x:Int):aQ (a++[x])=aQ a*x:=by
 rw [Hk];show _*(x*1)=_;rw [qx]
inductive EN(K:Frag)(vs:List V)(H:Hp)(Q:VK)(E0x:XK):Prop where
 | mk (p:Addr) (xs:List V) (ab:List (Int × Int)) (_:vs=[.ref p]) (_:aD K H p xs) (_:xs.length=ab.length) (_:(∀(i:Nat) x e,xs[i]?=some x->ab[i]?=some e->bf K H x e.1 e.2)) (_:(∀i,aQ ((ab.take i).map (·.1))<2^8999/\aQ ((ab.take i).map (·.2))<2^8999)) (_:(∀e ∈ ab,e.1<2^9000/\e.2<2^9000)) (_:∀H' z,ak H H'->bf K H' z (aQ (ab.map (·.1))) (aQ (ab.map (·.2)))->Q z H'):EN K vs H Q E0x
theorem Iz{a:Int}(h:a<2^8999):a<2^9000:=by
 refine Int.lt_of_lt_of_le h ?_
 have h1:((2^8999:Nat):Int)<=((2^9000:Nat):Int):=Int.ofNat_le.mpr (ma (by decide) (by decide))
 rw [k5,k5] at h1
 exact h1
theorem HC(T:Txt K mg t):ar P w K mg base (ay P w) 4 t.vD t.tD ["many"] (EN K):=by
 refine T.CJ.F.okm (k:=3) rm λcdv A outer s H vs Q E hr h=>?_
 obtain⟨p,xs,ab,rfl,hp,hl,hf,hb,hb1,q⟩:=h
 refine⟨_,(ag (aC 1 rm.nd (ja (v:=.ref t.q_ONE) rfl T.pq rfl)) (ag (cW cR rfl (di (pv 0)) (bB 2 rm.nd) (aj (aC 1 rm.nd (pc (Hz T) hr T.qB (a2 (pv 1) (pv 2)))))) (aj (az (pv 1))))),?_⟩
 nofun
 refine⟨_,rfl,.inl ⟨p,xs,rfl,hp,?_⟩⟩
 refine fD (iK (xs:=xs)) (λi σ H'=>∃v r2,σ=[some (.ref p),some v,r2]/\ak H H'/\bf K H' v (aQ ((ab.take i).map (·.1))) (aQ ((ab.take i).map (·.2)))) ⟨_,_,rfl,ak.refl _,t.q_ONE,1,1,rfl,.inr T.tc_ONE,by decide,by decide,rfl,by decide,fJ _,fJ _⟩ (λi σ H' _ ⟨_,_,_,g,_⟩=>ik g hp) ?_ ?_
 ·rintro i x _ H' hx ⟨v,r2,rfl,g,hv⟩
  have hi:=(bh.mp hx).1
  have he:=bq (show i<ab.length by omega)
  have hm:=jX (show i<ab.length by omega)
  have e1:aQ ((ab.take (i+1)).map (·.1))=aQ ((ab.take i).map (·.1))*ab[i].1:=by
   rw [i6,he,gv];exact Hh _ _
  have e2:aQ ((ab.take (i+1)).map (·.2))=aQ ((ab.take i).map (·.2))*ab[i].2:=by
   rw [i6,he,gv];exact Hh _ _
  have hn:=hb (i+1)
  rw [e2] at hn
  refine⟨_,rfl,_,rfl,v,x,_,_,_,_,rfl,hv,(hf i x _ hx he).same g,Iz (hb i).1,Iz (hb i).2,(hb1 _ hm).1,(hb1 _ hm).2,hn.2,λH2 z s2 hz=>?_⟩
  refine⟨z,_,rfl,g.trans s2,?_⟩
  rw [e1,e2]
  exact hz
 ·rintro _ H' ⟨v,r2,rfl,g,hv⟩
  rw [hl,fH] at hv
  exact⟨_,rfl,q H' v g hv⟩
inductive Fi(K:Frag)(vs:List V)(H:Hp)(Q:VK)(E0x:XK):Prop where
 | mk x A B (_:vs=[x]) (_:bf K H x A B) (_:A<2^8990) (_:B<2^8990) (_:∀H' z,ak H H'->bf K H' z A (2*B)->Q z H'):Fi K vs H Q E0x
theorem B5(T:Txt K mg t):ar P w K mg base (ay P w) 3 t.vf t.sS ["one"] (Fi K):=by
 refine T.qA.F.okm (k:=2) ML λcdv A outer s H vs Q E hr h=>?_
 obtain⟨_,a,b,rfl,⟨p,n,d,rfl,h1,n0,d0,c1,g1,l1,l2⟩,ba,bb,q⟩:=h
 refine⟨_,(aj (az (pc (jb T) hr T.j1 (a2 (aK 0) (ao cP aw (aK 0)))))),?_⟩
 nofun
 have an:=gm n0 l1 ba
 have ad:=gm d0 l2 bb
 have h2d:(2*d).natAbs<2^8999:=bJ (lu (x:=2) (a:=2) (by decide) ad) (by decide)
 refine⟨_,rfl,aV h1 rfl ⟨_,rfl,aV h1 rfl (.inl ⟨_,_,rfl,rfl,rX (by decide) (by decide),?_⟩)⟩⟩
 refine⟨n,2*d,rfl,λz=>absurd z (by omega),λ_=>⟨h2d,λr hr0=>?_⟩⟩
 have hx:=iw (t:=n) (b:=2*d) (by omega)
 refine q _ _ (bL hr0 _) ⟨r,_,_,rfl,.inl (.inl aA),lr n0 (by omega),gj (by omega),?_,jH (by omega),?_,?_⟩
 ·refine ia (a:=d) (by omega) ?_
  calc cn n (2*d)*(2*b)*d=(cn n (2*d)*(2*d))*b:=by simp only [cg,cS,kS]
   _=(n*b)*cI n (2*d):=by rw [hx];simp only [cg,cS,kS]
   _=(a*d)*cI n (2*d):=by rw [c1]
   _=a*cI n (2*d)*d:=by simp only [cg,cS,kS]
 ·have:=rT (t:=n) (b:=2*d) (by omega)
  have:=lr n0 (show 0<2*d by omega)
  omega
 ·have:=uT (t:=n) (b:=2*d) (by omega)
  have:=gj (t:=n) (b:=2*d) (by omega)
  omega
noncomputable def Mu(K:Frag):Sp:=λvs H Q _=>∃(p:Addr) (ns:List Int) (i c:Int),vs=[.ref p,.int i]/\aD K H p (ns.map V.int)/\dz (ns.map V.int) i=some (.int c)/\2*ns.sum+(ns.length:Int) ≠ 0/\(2*ns.sum+(ns.length:Int)).natAbs<2^8999/\
 ∀r,H r=none->Q (.ref r) (ai H r (.tup [.int (cn (2*c+1) (2*ns.sum+ns.length)),.int (cI (2*c+1) (2*ns.sum+ns.length))]))
theorem Pw(T:Txt K mg t):ar P w K mg base (ay P w) 3 t.vk t.sY ["counts", "place"] (Mu K):=by
 refine T.Kw.F.okn (k:=2) MN (λvs H Q E h=>?_) (λcdv A outer s H vs Q E hr h=>?_)
 ·obtain⟨p,ns,i,c,rfl,_⟩:=h;rfl
 obtain⟨p,ns,i,c,rfl,hS,hi,h0,hb,q⟩:=h
 refine⟨_,(aj (az (pc (jb T) hr T.j1 (a2 (ao aM (ao cP aw (cA (pv 0) (pv 1))) aw) (ao aM (ao cP aw (dB (JH rfl) rfl T.Im JL (a1 (pv 0)))) (cq T.ck (pv 0))))))),?_⟩
 nofun
 refine⟨_,rfl,_,rfl,.inl ⟨_,_,_,_,rfl,rfl,hS,hi,?_⟩⟩
 ac_rfl
 refine⟨_,ns,rfl,by array_mem_dec,?_⟩
 ac_rfl
 refine⟨_,_,rfl,λz=>absurd ?_ h0,λ_=>⟨?_,λr hr'=>?_⟩⟩
 ·rw [aT] at z;exact z
 ·rw [aT];exact hb
 ·have:=q r hr'
  rw [← aT (f:=V.int) (as:=ns)] at this
  exact this
theorem LQ(m:Nat):cj (List.replicate m 0)=1:=by
 induction m with
 | zero=>rfl
 | succ m ih=>show cj (List.replicate m 0)*eO 0=1;rw [ih];rfl
theorem c9{a b:Nat}(h:a<=b):(2:Int)^a<=2^b:=by
 have h2:((2^a:Nat):Int)<=((2^b:Nat):Int):=Int.ofNat_le.mpr (ma (by decide) h)
 rw [k5,k5] at h2
 exact h2
theorem jM(a:Nat):(1:Int)<=2^a:=c9 (cU a)
theorem eY{x y:Int}{a b:Nat}(hy0:0<=y)(hx:x<=2^a)(hy:y<=2^b):x*y<=2^(a+b):=by
 rw [Int.pow_add]
 exact iI hx hy hy0 (aP (by decide) (jM a))
theorem AJ:∀{xs:List Int} {es:List Nat},xs.length=es.length->(∀(i:Nat) x e,xs[i]?=some x->es[i]?=some e->1<=x/\x<=2^e)->aQ xs<=2^es.sum
 | [],[],_,_=>by decide
 | x::xs,e::es,hl,h=>by
   have h1:=h 0 x e rfl rfl
   have h2:=AJ (xs:=xs) (es:=es) (by simpa using hl) λi y g hy hg=>h (i+1) y g hy hg
   have h3:1<=aQ xs:=ku λy hy=>by
    obtain⟨i,hi,e'⟩:=List.getElem_of_mem hy
    have hi2 : i < es.length:=by have : xs.length = es.length:=by simpa using hl
                                 omega
    exact(h (i+1) y _ (by rw [List.getElem?_cons_succ,bq hi,e']) (by rw [List.getElem?_cons_succ,bq hi2])).1
   show x*aQ xs<=_
   rw [dA]
   exact eY (by omega) h1.2 h2
 | [],_::_,hl,_=>by cases hl
 | _::_,[],hl,_=>by cases hl
noncomputable def eN(ab:List (Int × Int)):Int × Int:=(aQ (ab.map (·.1)),aQ (ab.map (·.2)))
noncomputable def wo(L:List Nat)(f d:Nat)(l:List Nat)(n:Nat)(k:List Nat):Int × Int:=(cj (aR L f d l k n),dY L.length (aR L f d l k n).sum)
noncomputable def lB(a b:Int × Int):Int × Int:=(a.1*b.2+b.1*a.2,2*(a.2*b.2))
noncomputable def wv(L:List Nat)(f d:Nat)(l:List Nat)(n:Nat):Nat->List Nat->Int × Int
 | 0,k=>wo L f d l n k
 | r+1,k=>if b8 f d l k n=true then lB (wo L f d l n k) (eN (L.map λc=>wv L f d l n r (k++[c]))) else (1,1)
theorem oq(h:b8 f d l k n=false):wo L f d l n k=(1,1):=by
 unfold wo
 rw [uX h,LQ]
 have:(List.replicate L.length 0).sum=0:=by
  induction L.length with
  | zero=>rfl
  | succ m ih=>rw [js,dA,ih]
 rw [this];rfl
theorem k8{r:Nat}(h:b8 f d l k n=false):wv L f d l n r k=(1,1):=by
 cases r with
 | zero=>exact oq h
 | succ r=>show (if _ then _ else _)=_;rw [if_neg (by rw [h];decide)]
theorem kU{r:Nat}(h:b8 f d l k n=true):wv L f d l n (r+1) k=lB (wo L f d l n k) (eN (L.map λc=>wv L f d l n r (k++[c]))):=by
 show (if _ then _ else _)=_;rw [if_pos h]
theorem mH(h:b8 f d l k n=true):1<=(sg f d l k n).length:=by
 unfold b8 at h
 obtain⟨j,hj,hf⟩:=List.any_eq_true.mp h
 unfold sg
 rw [aT]
 exact Cp (xH.mpr ⟨hj,hf⟩)
theorem E5{g:Nat->Nat}{c0:Nat}:∀{L:List Nat},L.Nodup->c0 ∈ L->(L.map λc=>g c+if c=c0 then 1 else 0).sum=(L.map g).sum+1
 | [],_,h=>nomatch h
 | c::L,hn,h=>by
   obtain⟨h1,h2⟩:=jU.mp hn
   rw [bR,dA,bR,dA]
   by_cases z:c=c0
   ·subst z
    have e:(L.map λc'=>g c'+if c'=c then 1 else 0)=L.map g:=gQ λy hy=>by
     have hne:¬ y=c:=λe=>h1 (e ▸ hy)
     rw [if_neg hne];rfl
    rw [e,if_pos rfl];omega
   ·rcases bE.mp h with e | hm
    ·exact absurd e.symm z
    ·rw [E5 h2 hm,if_neg z];omega
theorem Mq{g g':Nat->Nat}(h:∀c ∈ L,g' c=g c):(L.map g').sum=(L.map g).sum:=by rw [gQ h]
theorem Jh(hf:f ∈ L)(hl:∀c ∈ l,c ∈ L)(hn:n<=l.length):∀c ∈ bg f d l n,c ∈ L:=λc hc=>by
 unfold bg at hc
 obtain⟨j,_,e⟩:=i7.mp hc
 rw [← e]
 split
 ·rename_i z
  rw [fU,bq (show n-1-j<l.length by omega)]
  exact hl _ (jX _)
 ·exact hf
theorem Bh(hk:k.length<d)(h:k <+: bg f d l n):∃c0,c0 ∈ bg f d l n/\∀c,(k++[c]) <+: bg f d l n ↔ c=c0:=by
 have hlen:=lP f d l n
 obtain⟨u,hu⟩:=h
 cases u with
 | nil =>
   have:=congrArg List.length hu
   rw [gw,hlen] at this
   omega
 | cons c0 u=>exact⟨c0,by rw [← hu];simp,λc=>by rw [← hu,List.prefix_append_right_inj,List.cons_prefix_cons];simp⟩
theorem yx(hL:L.Nodup)(hf:f ∈ L)(hl:∀c ∈ l,c ∈ L)(hk:k.length<d):∀n,n<=l.length->(L.map λc=>(sg f d l (k++[c]) n).length).sum=(sg f d l k n).length:=by
 intro n
 induction n with
 | zero =>
   intro _
   have z:∀L':List Nat,(L'.map λc=>(sg f d l (k++[c]) 0).length).sum=0:=λL'=>by
    induction L' with
    | nil=>rfl
    | cons c L' ih=>rw [bR,dA,ih];rfl
   exact z L
 | succ n ih =>
   intro hn
   have ih':=ih (by omega)
   cases z:bG f d l k n with
   | false =>
     rw [rf z,← ih']
     refine Mq λc _=>?_
     rw [rf (ji λh=>?_)]
     have:k <+: bg f d l n:=(List.prefix_append k [c]).trans h
     rw [fq.mpr this] at z;cases z
   | true =>
     obtain⟨c0,hc0,pre⟩:=Bh hk (fq.mp z)
     have e:(L.map λc=>(sg f d l (k++[c]) (n+1)).length)=L.map λc=>(sg f d l (k++[c]) n).length+if c=c0 then 1 else 0:=gQ λc _=>by
      by_cases zc:c=c0
      ·rw [yv (fq.mpr ((pre c).mpr zc)),aq,if_pos zc];rfl
      ·rw [rf (ji λh=>zc ((pre c).mp h)),if_neg zc];rfl
     rw [e,E5 hL (Jh hf hl (by omega) _ hc0),ih',yv z,aq];rfl
noncomputable def wb(r n:Nat):Nat:=(17+18*r)*n
theorem DZ(r:Nat)(g:Nat->Nat):∀L:List Nat,(L.map λc=>wb r (g c)).sum=wb r (L.map g).sum
 | []=>by simp [wb]
 | c::L=>by
   rw [bR,dA,bR,dA,DZ r g L]
   unfold wb
   rw [Nat.mul_add]
theorem Lw(r n:Nat):wb (r+1) n=wb r n+18*n:=by
 unfold wb
 rw [show 17+18*(r+1)=(17+18*r)+18 by omega,jS]
structure P2(x:Int × Int)(e:Nat):Prop where
 a1:1<=x.1
 b1:1<=x.2
 ab:x.1<=2^e
 bb:x.2<=2^e
theorem P2.mono{x:Int × Int}{e e':Nat}(h:P2 x e)(z:e<=e'):P2 x e':=⟨h.a1,h.b1,aP h.ab (c9 z),aP h.bb (c9 z)⟩
theorem P2.one(e:Nat):P2 (1,1) e:=⟨by decide,by decide,jM e,jM e⟩
theorem Ob{ab:List (Int × Int)}{es:List Nat}(hl:ab.length=es.length)(h:∀(i:Nat) x e,ab[i]?=some x->es[i]?=some e->P2 x e):P2 (eN ab) es.sum:=by
 have h0:∀x ∈ ab,∃e,P2 x e:=λx hx=>by
  obtain⟨i,hi,e'⟩:=List.getElem_of_mem hx
  exact⟨_,h i x _ (by rw [bq hi,e']) (bq (show i<es.length by omega))⟩
 refine⟨ku λy hy=>?_,ku λy hy=>?_,AJ (by simpa using hl) λi y e hy he=>?_,AJ (by simpa using hl) λi y e hy he=>?_⟩
 ·obtain⟨x,hx,rfl⟩:=i7.mp hy
  obtain⟨_,q⟩:=h0 x hx
  exact q.a1
 ·obtain⟨x,hx,rfl⟩:=i7.mp hy
  obtain⟨_,q⟩:=h0 x hx
  exact q.b1
 ·rw [bS] at hy
  cases z:ab[i]? with
  | none=>rw [z] at hy;cases hy
  | some x=>rw [z] at hy;cases hy;exact⟨(h i x e z he).a1,(h i x e z he).ab⟩
 ·rw [bS] at hy
  cases z:ab[i]? with
  | none=>rw [z] at hy;cases hy
  | some x=>rw [z] at hy;cases hy;exact⟨(h i x e z he).b1,(h i x e z he).bb⟩
structure Sm(L:List Nat)(f d:Nat)(l:List Nat):Prop where
 nd:L.Nodup
 l6:L.length<=6
 fm:f ∈ L
 d6:d<=6
 ll:l.length<=200
 lb:wb d l.length<=8900
 al:∀c ∈ l,c ∈ L
theorem qJ(S:Sm L f d l)(hn:n<=l.length)(k:List Nat):1<=(wo L f d l n k).1/\1<=(wo L f d l n k).2/\(wo L f d l n k).1<=2^(7+10*(sg f d l k n).length)/\(wo L f d l n k).2<=2^(1+10*(sg f d l k n).length):=by
 have h1M:1<=L.length:=Cp S.fm
 have hsum:(aR L f d l k n).sum=(sg f d l k n).length:=oI S.nd S.al _ hn
 have hle:(sg f d l k n).length<=n:=j7 ..
 have h6:=S.l6
 have hll:=S.ll
 have h:=qV (aR L f d l k n) (by rw [hsum];omega)
 rw [hsum,iV] at h
 have h':=pV h1M (by omega) (sg f d l k n).length (by omega)
 unfold wo
 rw [hsum]
 refine⟨by show 1<=cj _;omega,by show 1<=dY _ _;omega,cx (jh (bJ h.2 (by omega))),cx (jh h'.2)⟩
theorem yg(S:Sm L f d l)(hn:n<=l.length)(k:List Nat):P2 (wo L f d l n k) (17*(sg f d l k n).length):=by
 cases z:b8 f d l k n with
 | false=>rw [oq z];exact P2.one _
 | true =>
   obtain⟨a,b,c,e⟩:=qJ S hn k
   have:=mH z
   exact⟨a,b,aP c (c9 (by omega)),aP e (c9 (by omega))⟩
theorem yi(S:Sm L f d l){r:Nat}(hn:n<=l.length)(hk:k.length<d)(ih:∀c,P2 (wv L f d l n r (k++[c])) (wb r (sg f d l (k++[c]) n).length)):
 P2 (eN (L.map λc=>wv L f d l n r (k++[c]))) (wb r (sg f d l k n).length):=by
 have:=Ob (ab:=L.map λc=>wv L f d l n r (k++[c])) (es:=L.map λc=>wb r (sg f d l (k++[c]) n).length) (by simp) λi x e hx he=>by
  rw [bS] at hx he
  cases hc:L[i]? with
  | none=>rw [hc] at hx;cases hx
  | some c=>rw [hc] at hx he;cases hx;cases he;exact ih c
 rw [DZ,yx S.nd S.fm S.al hk n hn] at this
 exact this
theorem QS(S:Sm L f d l){e:Nat}(hn:n<=l.length)(hs:1<=(sg f d l k n).length){b:Int × Int}(h:P2 b e):P2 (lB (wo L f d l n k) b) (e+18*(sg f d l k n).length):=by
 obtain⟨a1,b1,ab,bb⟩:=qJ S hn k
 have c1:=h.a1
 have d1:=h.b1
 generalize (sg f d l k n).length=s at *
 generalize wo L f d l n k=a at *
 have m1:=eY (by omega) ab h.bb
 have m2:=eY (by omega) h.ab bb
 have m3:=eY (by omega) bb h.bb
 have p1:1<=a.1*b.2:=cK (by omega) (by omega)
 have p2:1<=b.1*a.2:=cK (by omega) (by omega)
 have p3:1<=a.2*b.2:=cK (by omega) (by omega)
 have q1:a.1*b.2<=2^(e+18*s-1):=aP m1 (c9 (by omega))
 have q2:b.1*a.2<=2^(e+18*s-1):=aP m2 (c9 (by omega))
 have q3:a.2*b.2<=2^(e+18*s-1):=aP m3 (c9 (by omega))
 have q4:(2:Int)^(e+18*s)=2^(e+18*s-1)*2:=by rw [← xR];congr 1;omega
 unfold lB
 refine⟨?_,?_,?_,?_⟩
 ·show 1<=_+_;omega
 ·show 1<=2*_;omega
 ·rw [q4];show _+_<=_;omega
 ·rw [q4];show 2*_<=_;omega
theorem oo(S:Sm L f d l)(hn:n<=l.length):∀r k,k.length+r=d->P2 (wv L f d l n r k) (wb r (sg f d l k n).length):=by
 intro r
 induction r with
 | zero=>intro k _;exact(yg S hn k).mono (by unfold wb;omega)
 | succ r ih =>
   intro k hk
   cases z:b8 f d l k n with
   | false=>rw [k8 z];exact P2.one _
   | true =>
     rw [kU z,Lw]
     exact QS S hn (mH z) (yi S hn (by omega) λc=>ih _ (by rw [aq];show _+1+_=_;omega))
theorem qK(h:¬ k <+: bg f d l n):wo L f d l (n+1) k=wo L f d l n k:=by
 unfold wo;rw [pR (ji h)]
theorem mC:∀(r:Nat) {k:List Nat},¬ k <+: bg f d l n->wv L f d l (n+1) r k=wv L f d l n r k
 | 0,k,h=>qK h
 | r+1,k,h=>by
   show (if _ then _ else _)=(if _ then _ else _)
   rw [mG (ji h),qK h,gQ λc _=>mC r (k:=k++[c]) λz=>h ((List.prefix_append k [c]).trans z)]
theorem JQ(m n:Nat):dY m (n+1)=dY m n*(2*(n:Int)+m):=rfl
theorem qI(hL:L.Nodup)(h:k <+: bg f d l n)(hi:L[i]?=some c)(hc:l[n]?=some c):∃v:Nat,(aR L f d l k n)[i]?=some v/\aR L f d l k (n+1)=(aR L f d l k n).set i (v+1)/\
 wo L f d l (n+1) k=((wo L f d l n k).1*(2*(v:Int)+1),(wo L f d l n k).2*(2*((aR L f d l k n).sum:Nat)+(L.length:Nat))):=by
 obtain⟨v,h1,h2⟩:=C3 hL (fq.mpr h) hi hc
 refine⟨v,h1,h2,?_⟩
 unfold wo
 rw [h2,DQ h1,yq h1,JQ]
theorem bf.plus{n d m e B C D:Int}(hd:0<d)(he:0<e)(h1:n*B=A*d)(h2:m*D=C*e):cn (n*e+m*d) (d*e)*(B*D)=(A*D+C*B)*cI (n*e+m*d) (d*e):=by
 have hde:0<d*e:=cK hd he
 have hx:=iw (t:=n*e+m*d) (b:=d*e) (by omega)
 generalize cn (n*e+m*d) (d*e)=N at *
 generalize cI (n*e+m*d) (d*e)=M at *
 refine ia (a:=d*e) (by omega) ?_
 calc N*(B*D)*(d*e)=(N*(d*e))*(B*D):=by simp only [cg,cS,kS]
  _=((n*e+m*d)*M)*(B*D):=by rw [hx]
  _=(n*B)*(e*D)*M+(m*D)*(d*B)*M:=by simp only [eL,Int.mul_add,cg,cS,kS]
  _=(A*d)*(e*D)*M+(C*e)*(d*B)*M:=by rw [h1,h2]
  _=(A*D+C*B)*M*(d*e):=by simp only [eL,Int.mul_add,cg,cS,kS]
inductive ES(K:Frag)(vs:List V)(H:Hp)(Q:VK)(E0x:XK):Prop where
 | mk x y A B C D (_:vs=[x,y]) (_:bf K H x A B) (_:bf K H y C D) (_:A<2^9000) (_:B<2^9000) (_:C<2^9000) (_:D<2^9000) (_:B*D<2^8999) (_:∀H' z,ak H H'->bf K H' z (A*D+C*B) (B*D)->Q z H'):ES K vs H Q E0x
theorem Po(T:Txt K mg t):ar P w K mg base (ay P w) 3 t.pZ t.pI ["one", "other"] (ES K):=by
 refine T.mr.F.okm (k:=2) Gk λcdv A outer s H vs Q E hr h=>?_
 obtain⟨_,_,a,b,c,e,rfl,⟨p,n,d,rfl,h1,n0,d0,c1,g1,l1,l2⟩,⟨q',m,f,rfl,h2,m0,f0,c2,g2,l3,l4⟩,ba,bb,bc,be,bbe,q⟩:=h
 refine⟨_,(aj (az (pc (jb T) hr T.j1 (a2 (ao aM (ao cP (aK 0) (aK 1)) (ao cP (aK 1) (aK 0))) (ao cP (aK 0) (aK 1)))))),?_⟩
 nofun
 have an:=gm n0 l1 ba
 have ad:=gm d0 l2 bb
 have am:=gm m0 l3 bc
 have af:=gm f0 l4 be
 have mo1:fG n f:=eC (bJ an (by decide)) (bJ af (by decide))
 have mo2:fG m d:=eC (bJ am (by decide)) (bJ ad (by decide))
 have mo3:fG d f:=eC (bJ ad (by decide)) (bJ af (by decide))
 have hde:0<d*f:=cK d0 f0
 have hle:d*f<=b*e:=iI l2 l4 (by omega) (by omega)
 have p1:0<n*f:=cK n0 f0
 have p2:0<m*d:=cK m0 d0
 have k1:n*f<=a*e:=iI l1 l4 (by omega) (by omega)
 have k2:m*d<=c*b:=iI l3 l2 (by omega) (by omega)
 refine⟨_,rfl,aV h1 rfl ⟨_,rfl,aV h2 rfl (.inl ⟨_,_,rfl,rfl,mo1,_,rfl,aV h2 rfl ⟨_,rfl,aV h1 rfl (.inl ⟨_,_,rfl,rfl,mo2,.inl ⟨_,_,rfl,rfl,?_⟩⟩)⟩⟩)⟩⟩
 refine⟨_,rfl,aV h1 rfl ⟨_,rfl,aV h2 rfl (.inl ⟨_,_,rfl,rfl,mo3,?_⟩)⟩⟩
 refine⟨n*f+m*d,d*f,rfl,λz=>absurd z (by omega),λ_=>⟨gm hde hle bbe,λr hr0=>?_⟩⟩
 refine q _ _ (bL hr0 _) ⟨r,_,_,rfl,.inl (.inl aA),lr (by omega) hde,gj (by omega),bf.plus d0 f0 c1 c2,jH (by omega),?_,?_⟩
 ·have:=rT (t:=n*f+m*d) (b:=d*f) (by omega)
  have:=lr (show 0<n*f+m*d by omega) hde
  omega
 ·have:=uT (t:=n*f+m*d) (b:=d*f) (by omega)
  have:=gj (t:=n*f+m*d) (b:=d*f) (by omega)
  omega
noncomputable def off(p t r:Addr)(H:Hp):Hp:=λb=>if b=p\/b=t\/b=r then none else H b
theorem dQ(p t r:Addr)(H:Hp):ak (off p t r H) H:=λb o h=>by
 unfold off at h
 split at h
 ·cases h
 ·exact h
theorem gZ{t:Addr}(s:ak H H'):ak (off p t r H) (off p t r H'):=λb o h=>by
 unfold off at h ⊢
 split at h
 ·cases h
 ·rename_i z;rw [if_neg z];exact s _ _ h
theorem jG{t:Addr}{o:HO}(h:H a=some o)(h1:a ≠ p)(h2:a ≠ t)(h3:a ≠ r):off p t r H a=some o:=by
 unfold off
 rw [if_neg (by rintro(z | z | z)<;>contradiction)]
 exact h
theorem HW{t:Addr}{o:HO}(h:a=p\/a=t\/a=r):off p t r (ai H a o)=off p t r H:=by
 funext b
 unfold off
 by_cases z:b=p\/b=t\/b=r
 ·rw [if_pos z,if_pos z]
 ·rw [if_neg z,if_neg z]
  exact au λe=>z (e ▸ h)
structure iX(C p t r:Addr)(H:Hp):Prop where
 ob:∃dx fs,H p=some (.ins C dx fs)
 td:∃kvs,H t=some (.dK kvs)
 rl:∃rs,H r=some (.lst rs)
theorem iX.same{t:Addr}(h:iX C p t r H)(s:ak H H'):iX C p t r H' :=
 ⟨let ⟨a,b,e⟩:=h.ob;⟨a,b,s _ _ e⟩,let ⟨a,e⟩:=h.td;⟨a,s _ _ e⟩,let ⟨a,e⟩:=h.rl;⟨a,s _ _ e⟩⟩
theorem iX.tup{t:Addr}(T3:iX C p t r H)(h:aG K H a xs):aG K (off p t r H) a xs:=by
 obtain⟨⟨_,_,e1⟩,⟨_,e2⟩,⟨_,e3⟩⟩:=T3
 rcases h with(h | ⟨o,h⟩) | h
 ·exact .inl (.inl (jG h (λz=>by rw [z,e1] at h;cases h) (λz=>by rw [z,e2] at h;cases h) (λz=>by rw [z,e3] at h;cases h)))
 ·exact .inl (.inr ⟨o,jG h (λz=>by rw [z,e1] at h;cases h) (λz=>by rw [z,e2] at h;cases h) (λz=>by rw [z,e3] at h;cases h)⟩)
 ·exact .inr h
theorem iX.fr{t:Addr}{B:Int}(T3:iX C p t r H)(h:bf K H x A B):bf K (off p t r H) x A B:=by
 obtain⟨q,n,d,e,h1,h2⟩:=h
 exact⟨q,n,d,e,T3.tup h1,h2⟩
noncomputable def eM(K:Frag)(F:Hp)(v:V)(L:List Nat)(f d:Nat)(l:List Nat)(n:Nat)(k:List Nat):Prop :=
 ∃e q x y,v=.ref e/\aG K F e [.ref q,x,y]/\aD K F q (cX (aR L f d l k n))/\bf K F x (wo L f d l n k).1 (wo L f d l n k).2/\bf K F y (wv L f d l n (d-k.length) k).1 (wv L f d l n (d-k.length) k).2
theorem eM.same{F':Hp}(h:eM K F v L f d l n k)(s:ak F F'):eM K F' v L f d l n k:=by
 obtain⟨e,q,x,y,e0,h1,h2,h3,h4⟩:=h
 exact⟨e,q,x,y,e0,bX s h1,ik s h2,h3.same s,h4.same s⟩
theorem eM.congr(h:eM K F v L f d l n k)(h1:aR L f d l k m=aR L f d l k n)(h2:wv L f d l m (d-k.length) k=wv L f d l n (d-k.length) k):eM K F v L f d l m k:=by
 unfold eM wo at *
 rw [h1,h2];exact h
noncomputable def jq(K:Frag)(F:Hp)(L:List Nat)(f d:Nat)(l:List Nat)(x:V)(j:Nat)(k:List Nat):Prop:=∃ch y,x=.ref ch/\aG K F ch [vt k,y]/\((y=.non/\b8 f d l k j=false)\/(b8 f d l k j=true/\eM K F y L f d l j k))
theorem jq.same{F':Hp}(h:jq K F L f d l x j k)(s:ak F F'):jq K F' L f d l x j k:=by
 obtain⟨ch,y,e,h1,h2⟩:=h
 exact⟨ch,y,e,bX s h1,h2.imp id λ⟨a,b⟩=>⟨a,b.same s⟩⟩
noncomputable def RL(K:Frag)(F:Hp)(L:List Nat)(f d:Nat)(l:List Nat)(v:V)(j:Nat):Prop:=∃a xs,v=.ref a/\aD K F a xs/\xs.length=d+1/\∀(i:Nat) x,xs[i]?=some x->jq K F L f d l x j ((bg f d l j).take (d-i))
theorem RL.same{F':Hp}(h:RL K F L f d l v j)(s:ak F F'):RL K F' L f d l v j:=by
 obtain⟨a,xs,e,h1,h2,h3⟩:=h
 exact⟨a,xs,e,ik s h1,h2,λi x hx=>(h3 i x hx).same s⟩
structure GT(K:Frag)(F:Hp)(L:List Nat)(f d:Nat)(l:List Nat)(kvs:List (aU × V))(m:List Nat->Nat):Prop where
 non:∀kn,aZ kvs (key kn)=none->kn.length<=d->b8 f d l kn (m kn)=false
 som:∀kn v,aZ kvs (key kn)=some v->kn.length<=d->b8 f d l kn (m kn)=true/\eM K F v L f d l (m kn) kn
theorem GT.same{F':Hp}{m:List Nat->Nat}(h:GT K F L f d l kvs m)(s:ak F F'):GT K F' L f d l kvs m :=
 ⟨h.non,λkn v e hk=>⟨(h.som kn v e hk).1,(h.som kn v e hk).2.same s⟩⟩
noncomputable def eZ(fr:Addr)(x:V)(tb rp:Addr):List (Str × V):=[("frame",.ref fr),("text",x),("table",.ref tb),("replaced",.ref rp)]
theorem nC(fr:Addr)(x:V)(tb rp:Addr):(eZ fr x tb rp).lookup ("frame" : Str)=some (.ref fr):=rfl
theorem lI(fr:Addr)(x:V)(tb rp:Addr):(eZ fr x tb rp).lookup ("text" : Str)=some x:=by with_unfolding_all rfl
theorem pG(fr:Addr)(x:V)(tb rp:Addr):(eZ fr x tb rp).lookup ("table" : Str)=some (.ref tb):=by with_unfolding_all rfl
theorem IV(fr:Addr)(x:V)(tb rp:Addr):(eZ fr x tb rp).lookup ("replaced" : Str)=some (.ref rp):=by with_unfolding_all rfl
theorem Sl(fr:Addr)(x:V)(tb rp:Addr):dc ("replaced" : Str) (.ref rp) (dc ("table" : Str) (.ref tb) (dc ("text" : Str) x (dc ("frame" : Str) (.ref fr) [])))=eZ fr x tb rp:=by with_unfolding_all rfl
theorem IW(fr:Addr)(x y:V)(tb rp:Addr):dc ("text" : Str) y (eZ fr x tb rp)=eZ fr y tb rp:=by with_unfolding_all rfl
theorem fk(fr:Addr)(x:V)(tb rp:Addr):(eZ fr x tb rp).lookup ("entry" : Str)=none/\(eZ fr x tb rp).lookup ("branching" : Str)=none/\(eZ fr x tb rp).lookup ("changes" : Str)=none/\(eZ fr x tb rp).lookup ("weight" : Str)=none/\(eZ fr x tb rp).lookup ("grow" : Str)=none/\(eZ fr x tb rp).lookup ("shrink" : Str)=none/\(eZ fr x tb rp).lookup ("weight_with" : Str)=none:=by
 refine⟨?_,?_,?_,?_,?_,?_,?_⟩<;>with_unfolding_all rfl
structure GO(K:Frag)(C p tb rp fr:Addr)(H:Hp)(f:Nat)(L:List Nat)(d:Nat)(l:List Nat)(n B:Nat):Prop where
 ob:∃dx,H p=some (.ins C dx (eZ fr (vt (l.take n)) tb rp))
 td:∃kvs,H tb=some (.dK kvs)/\kvs.length<=B/\GT K (off p tb rp H) (f::L) f d l kvs (λ_=>n)
 rl:∃rs,H rp=some (.lst rs)/\rs.length=n/\∀(j:Nat) v,rs[j]?=some v->RL K (off p tb rp H) (f::L) f d l v j
 fa:aG K (off p tb rp H) fr [vt (f::L),.int d]
theorem GO.three{tb fr:Addr}(h:GO K C p tb rp fr H f L d l n B):iX C p tb rp H :=
 ⟨let ⟨a,e⟩:=h.ob;⟨a,_,e⟩,let ⟨a,e,_⟩:=h.td;⟨a,e⟩,let ⟨a,e,_⟩:=h.rl;⟨a,e⟩⟩
theorem GO.same{tb fr:Addr}(h:GO K C p tb rp fr H f L d l n B)(s:ak H H'):GO K C p tb rp fr H' f L d l n B :=
 ⟨let ⟨a,e⟩:=h.ob;⟨a,s _ _ e⟩,let ⟨a,e,z,g⟩:=h.td;⟨a,s _ _ e,z,g.same (gZ s)⟩,let ⟨a,e,z,y⟩:=h.rl;⟨a,s _ _ e,z,λj v hj=>(y j v hj).same (gZ s)⟩,bX (gZ s) h.fa⟩
theorem rO(T:Txt K mg t)(H:Hp):bf K H (.ref t.q_ONE) 1 1:=⟨t.q_ONE,1,1,rfl,.inr T.tc_ONE,by decide,by decide,rfl,by decide,fJ _,fJ _⟩
inductive Fp(C:Addr)(vs:List V)(H:Hp)(Q:VK)(E0x:XK):Prop where
 | mk (p fr dx:Addr) (_:vs=[.ref p,.ref fr]) (_:H p=some (.ins C dx [])) (_:∀tb rp H',H tb=none->H rp=none->tb ≠ rp->H' p=some (.ins C dx (eZ fr (vt []) tb rp))->H' tb=some (.dK [])->H' rp=some (.lst [])->(∀b o,H b=some o->b ≠ p->H' b=some o)->Q .non H'):Fp C vs H Q E0x
theorem HL(T:Txt K mg t):ar P w K mg base (ay P w) 1 t.wk t.uc ["self", "frame"] (Fp t.aS):=by
 refine T.qE.F.okm (k:=0) Nc λcdv A outer s H vs Q E hr h=>?_
 obtain⟨p,fr,dx,rfl,hp,q⟩:=h
 refine⟨_,(ag (kr (pv 0) (pv 1) rfl) (ag (kr (pv 0) aO rfl) (ag (kr (pv 0) AQ rfl) (aj (kr (pv 0) (jC lp) rfl))))),?_⟩
 nofun
 refine⟨_,rfl,_,rfl,p,_,dx,[],rfl,hp,T.bY,T.na_Growth_frame,(by show 0<1000;decide),?_⟩
 refine⟨_,rfl,p,_,dx,_,rfl,aA,T.bY,T.na_Growth_text,(by show 1<1000;decide),?_⟩
 intro tb htb
 have hu:∀(F:Hp) o x,ai F p o x=none->p ≠ x:=λF o x z e=>by rw [← e,aA] at z;cases z
 have n1:p ≠ tb:=hu _ _ _ htb
 rw [au n1.symm,au n1.symm] at htb
 refine⟨_,rfl,p,_,dx,_,rfl,(by rw [au n1];exact aA),T.bY,T.na_Growth_table,(by show 2<1000;decide),?_⟩
 refine⟨by rw [sizeLine_eq];show 0<=_;decide,λrp hrp=>?_⟩
 have n2:p ≠ rp:=hu _ _ _ hrp
 rw [au n2.symm] at hrp
 have n3:tb ≠ rp:=λe=>by rw [← e,aA] at hrp;cases hrp
 rw [au n3.symm,au n2.symm,au n2.symm] at hrp
 refine⟨_,rfl,p,_,dx,_,rfl,(by rw [au n2];exact aA),T.bY,T.na_Growth_replaced,(by show 3<1000;decide),?_⟩
 refine q tb rp _ htb hrp n3 ?_ ?_ ?_ λb o hb hne=>?_
 ·rw [aA];exact congrArg (λz=>some (HO.ins t.aS dx z)) ((Sl fr _ tb rp).trans (by rw [gY]))
 ·rw [au n1.symm,au n3,au n1.symm,aA]
 ·rw [au n2.symm,aA]
 ·have b1:b ≠ tb:=λe=>by rw [e,htb] at hb;cases hb
  have b2:b ≠ rp:=λe=>by rw [e,hrp] at hb;cases hb
  rw [au hne,au b2,au hne,au b1,au hne,au hne];exact hb
inductive Fv(K:Frag)(C:Addr)(vs:List V)(H:Hp)(Q:VK)(E0x:XK):Prop where
 | mk (p tb rp fr:Addr) (f:Nat) (L:List Nat) (d:Nat) (l:List Nat) (n B:Nat) (k:List Nat) (_:vs=[.ref p,vt k]) (_:GO K C p tb rp fr H f L d l n B) (_:(f::L).length<=100) (_:k.length<=d) (_:∀z H',ak H H'->eM K (off p tb rp H') z (f::L) f d l n k->Q z H'):Fv K C vs H Q E0x
theorem Be(T:Txt K mg t):ar P w K mg base (ay P w) 2 t.wF t.uo ["self", "knot"] (Fv K t.aS):=by
 refine T.y0.F.okm (k:=1) Nl λcdv A outer s H vs Q E hr h=>?_
 obtain⟨p,tb,rp,fr,f,L,d,l,n,B,k,rfl,G,hL,hk,q⟩:=h
 obtain⟨dx,ob⟩:=G.ob
 obtain⟨kvs,td,kl,gt⟩:=G.td
 refine⟨_,(aj (az (OG (hG hr) (cB (pv 0) rfl) (pv 1) (fB (cF.h (aE (pc (HH T) hr T.CS (a1 (cB (pv 0) rfl))) (aE (ja (v:=.ref t.q_ONE) rfl T.pq rfl) (aE (ja (v:=.ref t.q_ONE) rfl T.pq rfl) cT))))) ⟨rfl,rfl,rfl,rfl⟩))),?_⟩
 nofun
 refine⟨_,rfl,p,_,dx,_,_,rfl,ob,T.bY,T.na_Growth_table,pG ..,tb,rfl,.inl ⟨kvs,.inl td⟩,_,rfl,?_⟩
 refine⟨_,rfl,p,_,dx,_,_,rfl,ob,T.bY,T.na_Growth_frame,nC ..,?_⟩
 refine⟨fr,f::L,_,rfl,bX (dQ _ _ _ _) G.fa,hL,λr H1 s1 hr0 e1=>?_⟩
 refine⟨by rw [sizeLine_eq];show 3<=_;decide,λu hu=>?_⟩
 have s2:ak H (ai H1 u (.tup [.ref r,.ref t.q_ONE,.ref t.q_ONE])):=fQ hu s1
 have e2:ai H1 u (.tup [.ref r,.ref t.q_ONE,.ref t.q_ONE]) u=some (.tup [.ref r,.ref t.q_ONE,.ref t.q_ONE]):=aA
 have e3:=pd (o:=.tup [.ref r,.ref t.q_ONE,.ref t.q_ONE]) hu e1
 rfl'
 generalize ai H1 u (.tup [.ref r,.ref t.q_ONE,.ref t.q_ONE])=H2 at s2 e2 e3 ⊢
 refine⟨aZ kvs (key k),eW.k (k:=key k) (s2 _ _ td),?_⟩
 refine q _ _ s2 ?_
 cases z:aZ kvs (key k) with
 | some v=>exact(gt.som k v z hk).2.same (gZ s2)
 | none =>
   have hs:=gt.non k z hk
   have T3:=G.three.same s2
   have nr:r ≠ p/\r ≠ tb/\r ≠ rp:=by
    obtain⟨⟨_,_,a1⟩,⟨_,a2⟩,⟨_,a3⟩⟩:=G.three
    exact⟨λy=>(by rw [y,a1] at hr0;cases hr0),λy=>(by rw [y,a2] at hr0;cases hr0),λy=>(by rw [y,a3] at hr0;cases hr0)⟩
   refine⟨u,r,.ref t.q_ONE,.ref t.q_ONE,rfl,T3.tup (.inl (.inl e2)),.inl (.inl (jG ?_ nr.1 nr.2.1 nr.2.2)),?_,?_⟩
   ·rw [uX hs];exact e3
   ·rw [oq hs];exact rO T _
   ·rw [k8 hs];exact rO T _
noncomputable def mn(H:Hp)(D:Addr):Hp:=λb=>if b=D then none else H b
theorem lA(H:Hp)(D:Addr):ak (mn H D) H:=λb o h=>by
 unfold mn at h
 by_cases z:b=D
 ·rw [if_pos z] at h;cases h
 ·rw [if_neg z] at h;exact h
theorem n4{o:HO}(h:H a=some o)(ne:a ≠ D):mn H D a=some o:=by unfold mn;rw [if_neg ne];exact h
theorem lz{H1 H2:Hp}(h:∀b o,b ≠ D->H1 b=some o->H2 b=some o):ak (mn H1 D) (mn H2 D):=λb o e=>by
 unfold mn at e ⊢
 by_cases z:b=D
 ·rw [if_pos z] at e;cases e
 ·rw [if_neg z] at e ⊢;exact h b o z e
theorem Bj{ys vs:List V}(hD:H D=some (.lst ys))(h:H a=some (.tup vs)):a ≠ D:=λz=>by rw [z,hD] at h;cases h
theorem aG.minus{ys vs:List V}(hD:H D=some (.lst ys))(h:aG K H a vs):aG K (mn H D) a vs:=by
 rcases h with(h | ⟨o,h⟩) | h
 ·exact .inl (.inl (n4 h (Bj hD h)))
 ·exact .inl (.inr ⟨o,n4 h (λz=>by rw [z,hD] at h;cases h)⟩)
 ·exact .inr h
theorem bf.minus{ys:List V}(hD:H D=some (.lst ys)){B:Int}(h:bf K H x A B):bf K (mn H D) x A B:=by
 obtain⟨p,n,d,e,h1,h2⟩:=h
 exact⟨p,n,d,e,aG.minus hD h1,h2⟩
theorem mD(S:Sm L f d l){r:Nat}(hr:r<=d)(hm:m<=l.length):wb r m<=8900:=by
 refine c7 ?_ S.lb
 unfold wb
 exact md (by omega) hm
theorem dC{x:Int}{a b:Nat}(h:x<=2^a)(hab:a<b):x<2^b:=by
 have h1:(2:Int)^(a+1)<=2^b:=c9 (by omega)
 have h2:(2:Int)^(a+1)=2^a*2:=xR ..
 have h3:=jM a
 omega
theorem Hf{xs:List Int}(h:∀x ∈ xs,1<=x){e:Nat}(hp:aQ xs<=2^e)(i:Nat):aQ (xs.take i)<=2^e:=by
 have h1:aQ (xs.take i)<=aQ (xs.take i++xs.drop i):=Hi (λx m=>h x (nU m)) (λx m=>h x (xG m))
 rw [kO] at h1
 exact aP h1 hp
noncomputable def fK(L:List Nat)(f d:Nat)(l:List Nat)(n r:Nat)(k:List Nat):List (Int × Int):=L.map λc=>wv L f d l n r (k++[c])
inductive FJ(K:Frag)(C:Addr)(vs:List V)(H:Hp)(Q:VK)(E0x:XK):Prop where
 | mk (p tb rp fr:Addr) (f:Nat) (L:List Nat) (d:Nat) (l:List Nat) (n B:Nat) (k:List Nat) (r:Nat) (c0:Nat) (ch:Addr) (v:V) (_:vs=[.ref p,vt k,.ref ch]) (_:GO K C p tb rp fr H f L d l n B) (_:Sm (f::L) f d l) (_:n<l.length) (_:k.length+(r+1)=d) (_:(∀c,(k++[c]) <+: bg f d l n ↔ c=c0)) (_:aG K H ch [vt (k++[c0]),v]) (_:eM K H v (f::L) f d l (n+1) (k++[c0])) (_:∀z H',ak H H'->bf K H' z (eN (fK (f::L) f d l (n+1) r k)).1 (eN (fK (f::L) f d l (n+1) r k)).2->Q z H'):FJ K C vs H Q E0x
theorem Qm(T:Txt K mg t):ar P w K mg base (ay P w) 5 t.x8 t.uJ ["self", "knot", "changed"] (FJ K t.aS):=by
 refine T.Lf.F.okm (k:=4) yG λcdv A outer s H vs Q E hr h=>?_
 obtain⟨p,tb,rp,fr,f,L,d,l,n,B,k,r,c0,ch,v,rfl,G,S,hn,hk,pre,hch,hv,q⟩:=h
 have l6:=S.l6
 have d6:=S.d6
 have hwv:∀c,P2 (wv (f::L) f d l (n+1) r (k++[c])) (wb r (sg f d l (k++[c]) (n+1)).length):=λc=>oo S (by omega) r (k++[c]) (by rw [aq];show _+1+_=_;omega)
 have hW:P2 (eN (fK (f::L) f d l (n+1) r k)) 8900:=(yi S (show n+1<=l.length by omega) (show k.length<d by omega) hwv).mono (mD S (by omega) (c7 (j7 ..) (by omega)))
 have hWe:∀e ∈ fK (f::L) f d l (n+1) r k,P2 e 8900:=λe he=>by
  obtain⟨c,_,rfl⟩:=i7.mp he
  exact(hwv c).mono (mD S (by omega) (c7 (j7 ..) (by omega)))
 refine⟨_,(ag (aC 3 yG.nd (jC lp)) (ag (cW cR rfl (di (cA (cB (pv 0) rfl) aw)) (bB 4 yG.nd) (aj (aW (bo (dR (hr.units0)) (ao aM (pv 1) (pv 4)) (aK 2)) (aj (fg (fh nL qg qe mZ (pv 3) (a1 (cA (aK 2) (cC (.int 2) T.sd)))))) (aj (fg (fh nL qg qe mZ (pv 3) (a1 (cA (cO (pv 0) T.bY T.y0 (Be T) hr (a1 (ao aM (pv 1) (pv 4)))) (cC (.int 2) T.sd))))))))) (aj (az (pc (HC T) hr T.CJ (a1 (pv 3))))))),?_⟩
 nofun
 obtain⟨dx,ob⟩:=G.ob
 refine⟨by rw [sizeLine_eq];show 0<=_;decide,λD hD=>?_⟩
 have s0:ak H (ai H D (.lst [])):=bL hD _
 have e0:ai H D (.lst []) D=some (.lst []):=aA
 rfl'
 generalize ai H D (.lst [])=H0 at s0 e0 ⊢
 refine⟨_,rfl,p,_,dx,_,_,rfl,s0 _ _ ob,T.bY,T.na_Growth_frame,nC _ _ _ _,?_⟩
 refine aV (bX s0 (bX (dQ _ _ _ _) G.fa)) rfl (.inr (.inr ⟨_,rfl,?_⟩))
 refine fD (fw (f::L)) (λi σ H'=>∃ts r4,σ=[some (.ref p),some (vt k),some (.ref ch),some (.ref D),r4]/\ak H H'/\H' D=some (.lst ts)/\ts.length=i/\
  ∀(j:Nat) v e,ts[j]?=some v->(fK (f::L) f d l (n+1) r k)[j]?=some e->bf K (mn H' D) v e.1 e.2) ⟨[],_,rfl,s0,e0,rfl,λj v c h=>nomatch h⟩ (λ_ _ _ _ _=>trivial) ?_ ?_
 ·rintro i x _ H1 hx ⟨ts,r4,rfl,g,eD,hts,hfr⟩
  obtain⟨c,hc,rfl⟩:=fL hx
  have hi:=(bh.mp hx).1
  have hil:=(bh.mp hc).1
  have hkc:(k++[c]).length=k.length+1:=by rw [aq];rfl
  have fin:∀(H2:Hp) (y:V),ak H1 H2->bf K H2 y (wv (f::L) f d l (n+1) r (k++[c])).1 (wv (f::L) f d l (n+1) r (k++[c])).2->∃ts' r4',([some (.ref p),some (vt k),some (.ref ch),some (.ref D),some (vt [c])]:L2.St)=[some (.ref p),some (vt k),some (.ref ch),some (.ref D),r4']/\ak H (ai H2 D (.lst (ts++[y])))/\ai H2 D (.lst (ts++[y])) D=some (.lst ts')/\ts'.length=i+1/\
   ∀(j:Nat) v e,ts'[j]?=some v->(fK (f::L) f d l (n+1) r k)[j]?=some e->bf K (mn (ai H2 D (.lst (ts++[y]))) D) v e.1 e.2:=λH2 y s2 hy=>by
   have up:ak (mn H2 D) (mn (ai H2 D (.lst (ts++[y]))) D):=lz λb o hb e=>by rw [au hb];exact e
   refine⟨ts++[y],_,rfl,jF hD (g.trans s2),aA,by rw [aq,hts];rfl,λj v e hv he=>?_⟩
   by_cases z:j<ts.length
   ·rw [iH z] at hv
    exact((hfr j v e hv he).same (lz λb o _ e=>s2 b o e)).same up
   ·rw [iG (by omega)] at hv
    have:j-ts.length=0:=by
     have:=(bh.mp hv).1
     simp at this;omega
    rw [this] at hv
    cases hv
    have ej:j=i:=by omega
    subst ej
    unfold fK at he
    rw [bS,hc] at he
    cases he
    exact(hy.minus (s2 _ _ eD)).same up
  refine⟨_,rfl,_,rfl,.inr (.inl (aY (by rw [sizeLine_eq];show _+1<=_;omega) ?_))⟩
  refine⟨_,rfl,aV (bX g hch) rfl (.inl ⟨rfl,_,rfl,dr (λz=>?_) (λz=>?_)⟩)⟩
  ·have hcc:c=c0:=by
    have:=qS (V.str.inj z)
    simpa using this
   subst hcc
   obtain⟨e,qq,xw,yw,rfl,h1,h2,h3,h4⟩:=hv.same g
   have hr:d-(k++[c]).length=r:=by omega
   rw [hr] at h4
   refine⟨_,rfl,kX (.inl (.inl eD)),_,rfl,aV (bX g hch) rfl (aV h1 rfl ?_)⟩
   rfl'
   exact vb eD (by rw [sizeLine_eq];simp at hi;omega) (fin H1 yw (ak.refl _) h4)
  ·have hcc:¬ c=c0:=λe=>z (by rw [e])
   refine⟨_,rfl,kX (.inl (.inl eD)),_,rfl,p,dx,_,rfl,g _ _ ob,(fk _ _ _ _).1,_,rfl,_,rfl,.inr (.inl (aY (by rw [sizeLine_eq];show _+1<=_;omega) ?_))⟩
   refine⟨p,tb,rp,fr,f,L,d,l,n,B,k++[c],rfl,G.same g,by omega,by omega,λu H2 s2 hu=>?_⟩
   obtain⟨e,qq,xw,yw,rfl,h1,h2,h3,h4⟩:=hu.same (dQ _ _ _ _)
   have hr:d-(k++[c]).length=r:=by omega
   rw [hr,← mC r (λy=>hcc ((pre c).mp y))] at h4
   refine aV h1 rfl ?_
   rfl'
   exact vb (s2 _ _ eD) (by rw [sizeLine_eq];simp at hi;omega) (fin H2 yw s2 h4)
 ·rintro _ H1 ⟨ts,r4,rfl,g,eD,hts,hfr⟩
  rw [aT] at hts
  have hl:ts.length=(fK (f::L) f d l (n+1) r k).length:=by unfold fK;rw [aT];exact hts
  refine⟨_,rfl,D,ts,fK (f::L) f d l (n+1) r k,rfl,.inl (.inl eD),hl,λj v e hv he=>(hfr j v e hv he).same (lA _ _),λi=>?_,λe he=>?_,λH2 z s2 hz=>q z H2 (g.trans s2) hz⟩
  ·have p1:=Hf (xs:=(fK (f::L) f d l (n+1) r k).map (·.1)) (λx hx=>by obtain⟨e,he,rfl⟩:=i7.mp hx;exact(hWe e he).a1) hW.ab i
   have p2:=Hf (xs:=(fK (f::L) f d l (n+1) r k).map (·.2)) (λx hx=>by obtain⟨e,he,rfl⟩:=i7.mp hx;exact(hWe e he).b1) hW.bb i
   rw [List.map_take,List.map_take]
   exact⟨dC p1 (by decide),dC p2 (by decide)⟩
  ·exact⟨dC (hWe e he).ab (by decide),dC (hWe e he).bb (by decide)⟩
inductive EM(K:Frag)(vs:List V)(H:Hp)(Q:VK)(E0x:XK):Prop where
 | mk (a:Addr) (cs:List Nat) (i v:Nat) (_:vs=[.ref a,.int (i:Int)]) (_:aD K H a (cX cs)) (_:cs[i]?=some v) (_:cs.length<=100) (_:∀r H',ak H H'->H r=none->H' r=some (.lst (cX (cs.set i (v+1))))->Q (.ref r) H'):EM K vs H Q E0x
theorem PH(T:Txt K mg t):ar P w K mg base (ay P w) 1 t.vv t.t7 ["counts", "place"] (EM K):=by
 refine T.KA.F.okm (k:=0) Gp λcdv A outer s H vs Q E hr h=>?_
 obtain⟨a,cs,i,v,rfl,ha,hi,hl,q⟩:=h
 have hil:=(bh.mp hi).1
 refine⟨_,(ag (aC 2 Gp.nd (mW (U0 rfl) rfl T.Ra U5 (a1 (pv 0)))) (ag (He (pv 2) (pv 1) J3 aw kH Gg) (aj (az (pv 2))))),?_⟩
 nofun
 refine⟨_,rfl,.inl ⟨a,_,rfl,.inl ha,λr hr0=>?_⟩⟩
 have e1:ai H r (.lst (cX cs)) r=some (.lst (cX cs)):=aA
 refine⟨_,rfl,_,rfl,r,_,_,_,rfl,rfl,aD.of e1,by omega,fR (by rw [sx,hi];rfl),?_⟩
 refine .inl ⟨_,_,rfl,rfl,?_⟩
 refine⟨r,_,_,i,rfl,rfl,e1,?_,?_⟩
 ·unfold iS;rw [if_pos (by omega),if_pos (by rw [sv];omega),eK]
 ·have e2:(cX cs).set i (V.int ((v:Int)+1))=cX (cs.set i (v+1)):=by rw [show ((v:Int)+1)=((v+1:Nat):Int) by omega,IH]
  exact⟨_,rfl,q r _ (jF hr0 (bL hr0 _)) hr0 (Eq.trans aA (congrArg (λz=>some (HO.lst z)) e2))⟩
theorem v9{α:Type}(xs:List α)(x:α):dz (xs++[x]) (-1)=some x:=by
 have h:iS (xs++[x]).length (-1)=some ((xs++[x]).length-1):=by
  unfold iS
  rw [if_neg (by omega),if_pos (by simp;omega)]
  congr 1;omega
 unfold dz
 rw [h]
 show (xs++[x])[(xs++[x]).length-1]?=_
 simp
theorem SM(f d:Nat)(l:List Nat)(hn:n<=l.length):bg f d (l.take n) n=bg f d l n:=by
 unfold bg
 refine gQ λj _=>?_
 split
 ·rename_i z
  rw [fU,fU,Kn (by omega)]
 ·rfl
theorem HV{t b:Addr}{o o':HO}(hb:b ≠ D)(h:off p t r H b=some o):off p t r (ai H D o') b=some o:=by
 unfold off at h ⊢
 split at h
 ·cases h
 ·rename_i z;rw [if_neg z,au hb];exact h
noncomputable def TD(K:Frag)(F:Hp)(L:List Nat)(f d:Nat)(l:List Nat)(n:Nat)(v:V)(k:List Nat):Prop:=∃ch e,v=.ref ch/\aG K F ch [vt k,e]/\eM K F e L f d l n k
theorem TD.same{F':Hp}(h:TD K F L f d l n v k)(s:ak F F'):TD K F' L f d l n v k:=by
 obtain⟨ch,e,e0,h1,h2⟩:=h
 exact⟨ch,e,e0,bX s h1,h2.same s⟩
inductive FF(K:Frag)(C:Addr)(vs:List V)(H:Hp)(Q:VK)(E0x:XK):Prop where
 | mk (p tb rp fr:Addr) (f:Nat) (L:List Nat) (d:Nat) (l:List Nat) (n B c:Nat) (_:vs=[.ref p,vt [c]]) (_:GO K C p tb rp fr H f L d l n B) (_:Sm (f::L) f d l) (_:l[n]?=some c) (_:∀D H' ts,ak H H'->H D=none->H' D=some (.lst ts)->ts.length=d+1->(∀(j:Nat) v,ts[j]?=some v->TD K (mn (off p tb rp H') D) (f::L) f d l (n+1) v ((bg f d l n).take (d-j)))->Q (.ref D) H'):FF K C vs H Q E0x
theorem HR(T:Txt K mg t):ar P w K mg base (ay P w) 6 t.wW t.uE ["self", "sign"] (FF K t.aS):=by
 refine T.D6.F.okm (k:=5) j8 λcdv A outer s H vs Q E hr h=>?_
 obtain⟨p,tb,rp,fr,f,L,d,l,n,B,c,rfl,G,S,hc,q⟩:=h
 have l6:=S.l6
 have d6:=S.d6
 have hnl:=(bh.mp hc).1
 have hcL:=S.al c (eU hc)
 have ll:=S.ll
 obtain⟨dx,ob⟩:=G.ob
 have fa:=bX (dQ p tb rp H) G.fa
 have ht:(l.take n).length=n:=by rw [dM];omega
 have zt:(l.take n).length<=sizeLine:=by rw [sizeLine_eq];omega
 refine⟨_,(ag (aC 2 j8.nd (fh hZ qf xm pf (cA (cB (pv 0) rfl) aw) (a1 (pv 1)))) (ag (aC 3 j8.nd (pc (HI T) hr T.CT (cF.h (aE (cB (pv 0) rfl) (aE (cB (pv 0) rfl) (aE (cq T.ck (cB (pv 0) rfl)) cT)))))) (ag (aC 4 j8.nd (jC lp)) (ag (cW cR rfl (Oh rfl T.iQ (cF.h (aE (cq T.ck (pv 3)) (aE (iP iL aw) (aE (iP iL aw) cT))))) (bB 5 j8.nd) (ag (aC 6 j8.nd (ez ei (pv 3) fO (dv (pv 5)))) (ag (aC 7 j8.nd (cO (pv 0) T.bY T.y0 (Be T) hr (a1 (pv 6)))) (ag (aC 8 j8.nd (pc (Hz T) hr T.qB (a2 (cA (pv 7) (cC (.int 1) T.Rc)) (pc (Pw T) hr T.Kw (a2 (cA (pv 7) (cC (.int 0) T.Iv)) (pv 2)))))) (ag (aC 9 j8.nd (pv 8)) (ag (aW (bo p7 (pv 5) (cq T.ck (pv 3))) (aj (aC 9 j8.nd (pc (B5 T) hr T.qA (a1 (pc (Po T) hr T.mr (a2 (pv 8) (cO (pv 0) T.bY T.Lf (Qm T) hr (a2 (pv 6) (cA (pv 4) (iP iL aw)))))))))) aX) (aj (fg (fh nL qg qe mZ (pv 4) (a1 (fB (a2 (pv 6) (fB (cF.h (aE (pc (PH T) hr T.KA (a2 (cA (pv 7) (cC (.int 0) T.Iv)) (pv 2))) (aE (pv 8) (aE (pv 9) cT))))))))))))))))) (aj (az (pv 4))))))),?_⟩
 nofun
 refine⟨_,rfl,p,_,dx,_,_,rfl,ob,T.bY,T.na_Growth_frame,nC _ _ _ _,?_⟩
 refine aV fa rfl ⟨rfl,_,rfl,f::L,c,rfl,rfl,hcL,λj0 hj0=>?_⟩
 refine⟨_,rfl,p,_,dx,_,_,rfl,ob,T.bY,T.na_Growth_frame,nC _ _ _ _,?_⟩
 refine⟨_,rfl,p,_,dx,_,_,rfl,ob,T.bY,T.na_Growth_text,lI _ _ _ _,?_⟩
 refine⟨_,rfl,p,_,dx,_,_,rfl,ob,T.bY,T.na_Growth_text,lI _ _ _ _,?_⟩
 refine⟨_,_,rfl,dD zt,fr,f,L,d,n,l.take n,congrArg (λz=>[V.ref fr,vt (l.take n),V.int z]) (congrArg Int.ofNat ht),fa,by omega,d6,by omega,by omega,?_⟩
 rw [SM f d l (nQ hnl)]
 have hz:=lP f d l n
 generalize hpath:bg f d l n=path at *
 have zp:path.length<=sizeLine:=by rw [sizeLine_eq];omega
 refine⟨by rw [sizeLine_eq];show 0<=_;decide,λD hD=>?_⟩
 have s0:ak H (ai H D (.lst [])):=bL hD _
 have e0:ai H D (.lst []) D=some (.lst []):=aA
 rfl'
 generalize ai H D (.lst [])=H0 at s0 e0 ⊢
 refine⟨_,rfl,_,_,rfl,dD zp,_,rfl,_,rfl,d,congrArg (λz:Nat=>[V.int (z:Int),V.int (-1),V.int (-1)]) hz,⟨by omega,by omega⟩,?_⟩
 refine J5 (λi σ H'=>∃ts r5 r6 r7 r8 r9,σ=[some (.ref p),some (vt [c]),some (.int (j0:Int)),some (vt path),some (.ref D),r5,r6,r7,r8,r9]/\ak H H'/\H' D=some (.lst ts)/\ts.length=i/\
  ∀(j:Nat) v,ts[j]?=some v->TD K (mn (off p tb rp H') D) (f::L) f d l (n+1) v (path.take (d-j))) ?_ ?_ ?_
 ·exact⟨[],_,_,_,_,_,rfl,s0,e0,rfl,λj v h=>nomatch h⟩
 ·rintro i _ H1 hi ⟨ts,r5,r6,r7,r8,r9,rfl,g,eD,hts,hTD⟩
  have hid:i<=d:=by omega
  rw [show (d:Int)+(i:Int)*-1=((d-i:Nat):Int) by omega]
  show kZ _ _ _ [some (.ref p),some (vt [c]),some (.int (j0:Int)),some (vt path),some (.ref D),some (.int ((d-i:Nat):Int)),r6,r7,r8,r9] H1
  refine⟨_,rfl,_,rfl,_,rfl,.inr (eF zp ?_)⟩
  rw [pP]
  have hkl:(path.take (d-i)).length=d-i:=by rw [dM];omega
  have hkp:path.take (d-i) <+: bg f d l n:=hpath ▸ Cn _ _
  have hkn:d-(path.take (d-i)).length=i:=by omega
  have hT1:=hTD (i-1)
  generalize hK:path.take (d-i)=kn at hkl hkp hkn ⊢
  obtain⟨v,hv,hset,hwo⟩:=qI S.nd hkp hj0 hc
  have hsum:(aR (f::L) f d l kn n).sum=(sg f d l kn n).length:=oI S.nd S.al _ (nQ hnl)
  have hsl:=j7 f d l kn n
  have hvs:=sj hv
  have w0:=(yg S (nQ hnl) kn).mono (show 17*(sg f d l kn n).length<=8900 by have:=mD S (r:=0) (cU d) (c7 hsl (nQ hnl));unfold wb at this;omega)
  have hsl1:=j7 f d l kn (n+1)
  have w1:=(yg S (show n+1<=l.length by omega) kn).mono (show 17*(sg f d l kn (n+1)).length<=8900 by have:=mD S (r:=0) (cU d) (c7 hsl1 hnl);unfold wb at this;omega)
  refine⟨_,rfl,p,dx,_,rfl,g _ _ ob,(fk _ _ _ _).1,_,rfl,p,tb,rp,fr,f,L,d,l,n,B,kn,rfl,G.same g,by omega,by omega,λz H2 s2 hz2=>?_⟩
  obtain⟨e,q0,xw,yw,rfl,h1,h2,h3,h4⟩:=hz2.same (dQ _ _ _ _)
  clear h4
  have eD2:=s2 _ _ eD
  have g2:=g.trans s2
  refine⟨_,rfl,aV h1 rfl ⟨_,rfl,aV h1 rfl ⟨_,rfl,q0,(aR (f::L) f d l kn n).map (λc:Nat=>(c:Int)),j0,v,rfl,h2,fR (by rw [show ((aR (f::L) f d l kn n).map (λc:Nat=>(c:Int))).map V.int=cX (aR (f::L) f d l kn n) from rfl,sx,hv];rfl),?_⟩⟩⟩
  rw [IK,aT,iV,hsum]
  have hM:1<=(f::L).length:=by simp
  have hbb:(2*((sg f d l kn n).length:Int)+((f::L).length:Int)).natAbs<2^10:=by omega
  have hb0:0<2*((sg f d l kn n).length:Int)+((f::L).length:Int):=by omega
  refine⟨by omega,bJ hbb (by decide),λr hr0=>?_⟩
  have hsh:bf K (ai H2 r (.tup [.int (cn (2*(v:Int)+1) (2*((sg f d l kn n).length:Int)+((f::L).length:Int))),.int (cI (2*(v:Int)+1) (2*((sg f d l kn n).length:Int)+((f::L).length:Int)))])) (.ref r) (2*(v:Int)+1) (2*((sg f d l kn n).length:Int)+((f::L).length:Int)):=bf.made (by omega) hb0 (.inl (.inl aA))
  have s3:=bL hr0 (.tup [.int (cn (2*(v:Int)+1) (2*((sg f d l kn n).length:Int)+((f::L).length:Int))),.int (cI (2*(v:Int)+1) (2*((sg f d l kn n).length:Int)+((f::L).length:Int)))])
  generalize ai H2 r (.tup [.int (cn (2*(v:Int)+1) (2*((sg f d l kn n).length:Int)+((f::L).length:Int))),.int (cI (2*(v:Int)+1) (2*((sg f d l kn n).length:Int)+((f::L).length:Int)))])=H3 at hsh s3 ⊢
  rw [hsum] at hwo
  have hw1:(wo (f::L) f d l (n+1) kn).1=(wo (f::L) f d l n kn).1*(2*(v:Int)+1):=congrArg Prod.fst hwo
  have hw2:(wo (f::L) f d l (n+1) kn).2=(wo (f::L) f d l n kn).2*(2*((sg f d l kn n).length:Int)+((f::L).length:Int)):=congrArg Prod.snd hwo
  refine⟨xw,.ref r,_,_,_,_,rfl,h3.same s3,hsh,dC w0.ab (by decide),dC w0.bb (by decide),dC (show (2*(v:Int)+1)<=2^10 by omega) (by decide),dC (show _<=(2:Int)^10 by omega) (by decide),by rw [← hw2];exact dC w1.bb (by decide),λH4 wt s4 hwt=>?_⟩
  rw [← hw1,← hw2] at hwt
  have s24:=s3.trans s4
  have g4:=g2.trans s24
  have eD4:=s24 _ _ eD2
  have h14:=bX s24 h1
  have h24:=ik s24 h2
  clear hw1 hw2 hsh h3 hwo
  refine⟨_,rfl,?_⟩
  dsimp (config:={ eta:=false,zeta:=false,iota:=false }) only [f9]
  refine Br (λσ H5=>∃z,σ=[some (.ref p),some (vt [c]),some (.int (j0:Int)),some (vt path),some (.ref D),some (.int ((d-i:Nat):Int)),some (vt kn),some (.ref e),some wt,some z]/\ak H4 H5/\bf K H5 z (wv (f::L) f d l (n+1) i kn).1 (wv (f::L) f d l (n+1) i kn).2) (λN hN=>?_) ?_
  ·refine⟨_,rfl,_,rfl,_,_,rfl,dD zp,.inl ⟨_,_,rfl,rfl,_,rfl,dr (λz=>?_) (λz=>?_)⟩⟩
   ·obtain⟨r,rfl⟩:∃r,i=r+1:=⟨i-1,by omega⟩
    obtain⟨c0,hc0,pre⟩:=Bh (show kn.length<d by omega) hkp
    have hse:b8 f d l kn (n+1)=true:=mF (fq.mpr hkp)
    have hmix:=kU (L:=f::L) (r:=r) hse
    have hwk:=(oo S (show n+1<=l.length by omega) (r+1) kn (by omega)).mono (mD S (show r+1<=d by omega) (c7 hsl1 hnl))
    have hch:=(yi S (show n+1<=l.length by omega) (show kn.length<d by omega) (λc=>oo S (show n+1<=l.length by omega) r (kn++[c]) (by rw [aq];show _+1+_=_;omega))).mono (mD S (show r<=d by omega) (c7 hsl1 hnl))
    rcases xK ts with rfl | ⟨ts',u,rfl⟩
    ·simp at hts
    rw [xN] at *
    have hu:=hT1 u (by rw [iG (by simp at hts;omega)];simp at hts;simp [hts])
    have hk1:path.take (d-(r+1-1))=kn++[c0]:=by
     have e1:d-(r+1-1)=d-(r+1)+1:=by omega
     have e2:d-(r+1)<path.length:=by omega
     have e3:path.take (d-(r+1-1))=kn++[path[d-(r+1)]]:=by rw [e1,i6,hK,bq e2];rfl
     have e4:=(pre path[d-(r+1)]).mp (by rw [hpath,← e3];exact Cn _ _)
     rw [e3,e4]
    rw [hk1] at hu
    obtain⟨ch,ev,rfl,hch1,hev⟩:=hu
    have sub:ak (mn (off p tb rp H1) D) H4:=((lA _ _).trans (dQ _ _ _ _)).trans (s2.trans s24)
    refine⟨_,rfl,_,rfl,p,dx,_,rfl,g4 _ _ ob,(fk _ _ _ _).2.1,_,rfl,_,rfl,_,rfl,cQ (.inl (.inl eD4)) (v9 ts' _) ?_⟩
    refine⟨p,tb,rp,fr,f,L,d,l,n,B,kn,r,c0,ch,ev,rfl,G.same g4,S,hnl,by omega,pre,bX sub hch1,hev.same sub,λy H5 s5 hy=>?_⟩
    have b1:=hwk.ab
    have b2:=hwk.bb
    rw [hmix] at b1 b2
    have bBD:(wo (f::L) f d l (n+1) kn).2*(eN (fK (f::L) f d l (n+1) r kn)).2<=2^8900:=by
     have:2*((wo (f::L) f d l (n+1) kn).2*(eN (fK (f::L) f d l (n+1) r kn)).2)<=2^8900:=b2
     have p1:=cK (show 0<(wo (f::L) f d l (n+1) kn).2 by have:=w1.b1;omega) (show 0<(eN (fK (f::L) f d l (n+1) r kn)).2 by have:1<=(eN (fK (f::L) f d l (n+1) r kn)).2:=hch.b1;omega)
     omega
    refine⟨wt,y,_,_,_,_,rfl,hwt.same s5,hy,dC w1.ab (by decide),dC w1.bb (by decide),dC hch.ab (by decide),dC hch.bb (by decide),dC bBD (by decide),λH6 y6 s6 hy6=>?_⟩
    refine⟨y6,_,_,rfl,hy6,dC b1 (by decide),dC bBD (by decide),λH7 y7 s7 hy7=>?_⟩
    exact hN _ _ ⟨y7,rfl,(s5.trans s6).trans s7,by rw [hmix];exact hy7⟩
   ·have hi0:i=0:=by omega
    subst hi0
    exact hN _ _ ⟨wt,rfl,ak.refl _,hwt⟩
  rintro _ H5 ⟨z,rfl,s5,hz5⟩
  refine⟨_,rfl,kX (.inl (.inl (s5 _ _ eD4))),_,rfl,_,rfl,aV (bX s5 h14) rfl ⟨_,rfl,q0,aR (f::L) f d l kn n,j0,v,rfl,ik s5 h24,hv,by rw [iV];omega,λr6 H6 s6 hr6 e6=>?_⟩⟩
  refine⟨_,rfl,_,rfl,by rw [sizeLine_eq];show 3<=_;decide,λu hu=>⟨by rw [sizeLine_eq];show 2<=_;decide,λch hch=>?_⟩⟩
  rfl'
  have s7:ak H6 (ai (ai H6 u (.tup [.ref r6,wt,z])) ch (.tup [vt kn,.ref u])):=(bL hu _).trans (bL hch _)
  have e7u:ai (ai H6 u (.tup [.ref r6,wt,z])) ch (.tup [vt kn,.ref u]) u=some (.tup [.ref r6,wt,z]):=pd hch aA
  have e7c:ai (ai H6 u (.tup [.ref r6,wt,z])) ch (.tup [vt kn,.ref u]) ch=some (.tup [vt kn,.ref u]):=aA
  generalize ai (ai H6 u (.tup [.ref r6,wt,z])) ch (.tup [vt kn,.ref u])=H7 at s7 e7u e7c ⊢
  have s47:=(s5.trans s6).trans s7
  have eD7:=s47 _ _ eD4
  have g7:=g4.trans s47
  have T3:=G.three.same g7
  have nD:D ≠ p/\D ≠ tb/\D ≠ rp:=by
   obtain⟨⟨_,_,a1⟩,⟨_,a2⟩,⟨_,a3⟩⟩:=G.three
   exact⟨λy=>(by rw [y,a1] at hD;cases hD),λy=>(by rw [y,a2] at hD;cases hD),λy=>(by rw [y,a3] at hD;cases hD)⟩
  have n6:r6 ≠ p/\r6 ≠ tb/\r6 ≠ rp/\r6 ≠ D:=by
   obtain⟨⟨_,_,a1⟩,⟨_,a2⟩,⟨_,a3⟩⟩:=G.three.same (g4.trans s5)
   have a4:=s5 _ _ eD4
   exact⟨λy=>(by rw [y,a1] at hr6;cases hr6),λy=>(by rw [y,a2] at hr6;cases hr6),λy=>(by rw [y,a3] at hr6;cases hr6),λy=>(by rw [y,a4] at hr6;cases hr6)⟩
  have oD7:off p tb rp H7 D=some (.lst ts):=jG eD7 nD.1 nD.2.1 nD.2.2
  have tdn:TD K (mn (off p tb rp H7) D) (f::L) f d l (n+1) (.ref ch) kn:=by
   refine⟨ch,.ref u,rfl,aG.minus oD7 (T3.tup (.inl (.inl e7c))),u,r6,wt,z,rfl,aG.minus oD7 (T3.tup (.inl (.inl e7u))),?_,(T3.fr (hwt.same s47)).minus oD7,?_⟩
   ·rw [hset]
    exact .inl (.inl (n4 (jG (s7 _ _ e6) n6.1 n6.2.1 n6.2.2.1) n6.2.2.2))
   ·rw [hkn]
    exact(T3.fr (hz5.same (s6.trans s7))).minus oD7
  refine vb eD7 (by rw [sizeLine_eq];omega) ?_
  have up:ak (mn (off p tb rp H7) D) (mn (off p tb rp (ai H7 D (.lst (ts++[.ref ch])))) D):=lz λb o hb e=>HV hb e
  refine⟨ts++[.ref ch],_,_,_,_,_,rfl,jF hD g7,aA,by rw [aq,hts];rfl,λj v hj=>?_⟩
  by_cases y:j<ts.length
  ·rw [iH y] at hj
   exact((hTD j v hj).same (lz λb o _ e=>gZ (s2.trans (s24.trans s47)) b o e)).same up
  ·rw [iG (by omega)] at hj
   have:j-ts.length=0:=by
    have:=(bh.mp hj).1
    simp at this;omega
   rw [this] at hj
   cases hj
   have ej:j=i:=by omega
   rw [ej,hK]
   exact tdn.same up
 ·rintro _ H1 ⟨ts,r5,r6,r7,r8,r9,rfl,g,eD,hts,hTD⟩
  exact⟨_,rfl,q D H1 ts g hD eD (by omega) hTD⟩
theorem NX{κ:Type}[DecidableEq κ](kvs:List (κ × V))(k:κ)(v:V):(cE kvs k v).length<=kvs.length+1:=by
 unfold cE
 split
 ·rw [aT];omega
 ·rw [aq];exact aI _
theorem HX{t:Addr}(h:∀b,b ≠ p->b ≠ t->b ≠ r->H' b=H b):off p t r H'=off p t r H:=by
 funext b
 unfold off
 by_cases z:b=p\/b=t\/b=r
 ·rw [if_pos z,if_pos z]
 ·rw [if_neg z,if_neg z]
  exact h b (λe=>z (.inl e)) (λe=>z (.inr (.inl e))) (λe=>z (.inr (.inr e)))
theorem GT.put{m m':List Nat->Nat}{e:V}(h:GT K F L f d l kvs m)(hs:b8 f d l kn (m' kn)=true)(he:eM K F e L f d l (m' kn) kn)(hm:∀k,k ≠ kn->m' k=m k):GT K F L f d l (cE kvs (key kn) e) m':=by
 refine⟨λk hk hl=>?_,λk v hk hl=>?_⟩
 ·rw [k9] at hk
  by_cases z:key k=key kn
  ·rw [if_pos z] at hk;cases hk
  ·rw [if_neg z] at hk
   rw [hm k λy=>z (by rw [y])]
   exact h.non k hk hl
 ·rw [k9] at hk
  by_cases z:key k=key kn
  ·rw [if_pos z] at hk
   cases hk
   have:=su z
   subst this
   exact⟨hs,he⟩
  ·rw [if_neg z] at hk
   rw [hm k λy=>z (by rw [y])]
   exact h.som k v hk hl
theorem GT.next{m:List Nat->Nat}(h:GT K F L f d l kvs m)(h1:∀k,k.length<=d->k <+: bg f d l n->m k=n+1)(h2:∀k,¬ k <+: bg f d l n->m k=n):GT K F L f d l kvs (λ_=>n+1):=by
 refine⟨λk hk hl=>?_,λk v hk hl=>?_⟩
 ·by_cases z:k <+: bg f d l n
  ·have:=h.non k hk hl
   rw [h1 k hl z] at this;exact this
  ·have:=h.non k hk hl
   rw [h2 k z] at this
   show b8 f d l k (n+1)=false
   rw [mG (ji z)];exact this
 ·by_cases z:k <+: bg f d l n
  ·have:=h.som k v hk hl
   rw [h1 k hl z] at this;exact this
  ·have:=h.som k v hk hl
   rw [h2 k z] at this
   refine⟨?_,this.2.congr (pR (ji z)) (mC _ z)⟩
   show b8 f d l k (n+1)=true
   rw [mG (ji z)];exact this.1
theorem GT.congr{m m':List Nat->Nat}(h:GT K F L f d l kvs m)(e:∀k,k.length<=d->m' k=m k):GT K F L f d l kvs m' :=
 ⟨λk hk hl=>by rw [e k hl];exact h.non k hk hl,λk v hk hl=>by rw [e k hl];exact h.som k v hk hl⟩
theorem Qq{t R:Addr}(s:ak H H')(hR:H R=none):ak (off p t r H) (mn (off p t r H') R):=λb o h =>
 n4 (gZ s b o h) λe=>by
  have:=dQ _ _ _ _ b o h
  rw [e,hR] at this;cases this
theorem Hn{a b c:List Nat}(h1:a <+: c)(h2:b <+: c)(h:a.length=b.length):a=b:=by
 rw [List.prefix_iff_eq_take] at h1 h2
 rw [h1,h2,h]
inductive Fl(K:Frag)(C:Addr)(vs:List V)(H:Hp)(Q:VK)(E0x:XK):Prop where
 | mk (p tb rp fr:Addr) (f:Nat) (L:List Nat) (d:Nat) (l:List Nat) (n B c:Nat) (_:vs=[.ref p,vt [c]]) (_:GO K C p tb rp fr H f L d l n B) (_:Sm (f::L) f d l) (_:l[n]?=some c) (_:B<=10000) (_:∀H',GO K C p tb rp fr H' f L d l (n+1) (B+(d+1))->(∀b o,H b=some o->b ≠ p->b ≠ tb->b ≠ rp->H' b=some o)->Q .non H'):Fl K C vs H Q E0x
theorem rS(T:Txt K mg t):ar P w K mg base (ay P w) 7 t.wj t.ub ["self", "sign"] (Fl K t.aS):=by
 refine T.qD.F.okm (k:=6) rC λcdv A outer s H vs Q E hr h=>?_
 obtain⟨p,tb,rp,fr,f,L,d,l,n,B,c,rfl,G,S,hc,hB,q⟩:=h
 have d6:=S.d6
 have ll:=S.ll
 have hnl:=(bh.mp hc).1
 obtain⟨dx,ob⟩:=G.ob
 refine⟨_,(ag (aC 2 rC.nd (cO (pv 0) T.bY T.D6 (HR T) hr (a1 (pv 1)))) (ag (fg (fh nL qg qe mZ (cB (pv 0) rfl) (a1 (iB ["knot", "entry", "self"] [none,none,some 0] (AM (pv 2)) (λ_ h=>mU rfl (ip (bB 0 h) (ip (bB 1 h) mT))) (λ_=>fB (a2 (pv 0) (OH (hG hr) (cB (pv 2) rfl) (pv 0) ⟨rfl,rfl,rfl,rfl⟩))))))) (ag (cW cR rfl (AM (pv 2)) (mU rfl (ip (bB 3 rC.nd) (ip (bB 4 rC.nd) mT))) (aj (rL (hG hr) (cB (pv 0) rfl) (pv 3) (pv 4) rfl))) (aj (O9 (pv 0) (pv 1) kH))))),?_⟩
 nofun
 refine⟨_,rfl,p,dx,_,rfl,ob,(fk _ _ _ _).2.2.1,_,rfl,p,tb,rp,fr,f,L,d,l,n,B,c,rfl,G,S,hc,λD H1 ts s1 hD e1 hts hTD=>?_⟩
 have G1:=G.same s1
 have T1:=G1.three
 obtain⟨kvs,td,kl,gt⟩:=G1.td
 obtain⟨rs,rl,rn,rh⟩:=G1.rl
 have ob1:=s1 _ _ ob
 have hlen:=lP f d l n
 have nD:D ≠ p/\D ≠ tb/\D ≠ rp:=by
  obtain⟨⟨_,_,a1⟩,⟨_,a2⟩,⟨_,a3⟩⟩:=G.three
  exact⟨λy=>(by rw [y,a1] at hD;cases hD),λy=>(by rw [y,a2] at hD;cases hD),λy=>(by rw [y,a3] at hD;cases hD)⟩
 have npt:p ≠ tb:=λy=>by rw [y,td] at ob1;cases ob1
 have npr:p ≠ rp:=λy=>by rw [y,rl] at ob1;cases ob1
 have ntr:tb ≠ rp:=λy=>by rw [y,rl] at td;cases td
 refine⟨_,rfl,p,_,dx,_,_,rfl,ob1,T.bY,T.na_Growth_replaced,IV _ _ _ _,kX (.inl (.inl rl)),?_⟩
 refine⟨_,rfl,D,rfl,⟨_,.inl (.inl e1)⟩,λR hR cp=>?_⟩
 have nR:R ≠ p/\R ≠ tb/\R ≠ rp:=⟨λy=>(by rw [y,ob1] at hR;cases hR),λy=>(by rw [y,td] at hR;cases hR),λy=>(by rw [y,rl] at hR;cases hR)⟩
 refine so (iK (xs:=ts)) (λi σ H'=>∃r0 r1 ys,σ=[r0,r1,some (.ref p)]/\ak H1 H'/\H' R=some (.lst ys)/\ys.length=i/\∀(j:Nat) x,ys[j]?=some x->jq K (mn (off p tb rp H') R) (f::L) f d l x n ((bg f d l n).take (d-j)))
  ⟨none,none,[],rfl,bL hR _,aA,rfl,λj x h=>nomatch h⟩ (λi σ H' _ ⟨_,_,_,_,g,_⟩=>.inl (.inl (g _ _ e1))) ?_ ?_
 ·rintro i x _ H2 hx ⟨r0,r1,ys,rfl,g,eR,hy,hP⟩
  have hi:=(bh.mp hx).1
  obtain⟨ch,e,rfl,h1,h2⟩:=hTD i x hx
  have sub:ak (mn (off p tb rp H1) D) H2:=((lA _ _).trans (dQ _ _ _ _)).trans g
  refine⟨ch,_,rfl,bX sub h1,rfl,_,_,rfl,_,_,rfl,rfl,?_⟩
  simp only [jA,if_true]
  generalize hkn:(bg f d l n).take (d-i)=kn at h1 h2
  have hkl:kn.length<=d:=by rw [← hkn,dM];omega
  refine⟨_,rfl,_,rfl,p,_,dx,_,_,rfl,g _ _ ob1,T.bY,T.na_Growth_table,pG _ _ _ _,tb,rfl,.inl ⟨kvs,.inl (g _ _ td)⟩,_,rfl,aZ kvs (key kn),eW.k (k:=key kn) (g _ _ td),?_⟩
  refine⟨by rw [sizeLine_eq];show 2<=_;decide,λu hu=>?_⟩
  have s3:=bL hu (.tup [vt kn,(aZ kvs (key kn)).getD .non])
  have e3:ai H2 u (.tup [vt kn,(aZ kvs (key kn)).getD .non]) u=some (.tup [vt kn,(aZ kvs (key kn)).getD .non]):=aA
  rfl'
  generalize ai H2 u (.tup [vt kn,(aZ kvs (key kn)).getD .non])=H3 at s3 e3 ⊢
  have g3:=g.trans s3
  have T3:=T1.same g3
  have oR:off p tb rp H3 R=some (.lst ys):=jG (s3 _ _ eR) nR.1 nR.2.1 nR.2.2
  have rp3:jq K (mn (off p tb rp H3) R) (f::L) f d l (.ref u) n kn:=by
   refine⟨u,_,rfl,aG.minus oR (T3.tup (.inl (.inl e3))),?_⟩
   cases z:aZ kvs (key kn) with
   | none=>exact .inl ⟨rfl,gt.non kn z hkl⟩
   | some v=>exact .inr ⟨(gt.som kn v z hkl).1,(gt.som kn v z hkl).2.same (Qq g3 hR)⟩
  have up:ak (mn (off p tb rp H3) R) (mn (off p tb rp (ai H3 R (.lst (ys++[.ref u])))) R):=lz λb o hb e=>HV hb e
  refine⟨ys,s3 _ _ eR,by rw [sizeLine_eq];omega,_,_,ys++[.ref u],rfl,jF hR g3,aA,by rw [aq,hy];rfl,λj x hj=>?_⟩
  by_cases y:j<ys.length
  ·rw [iH y] at hj
   exact((hP j x hj).same (lz λb o _ e=>gZ s3 b o e)).same up
  ·rw [iG (by omega)] at hj
   have:j-ys.length=0:=by
    have:=(bh.mp hj).1
    simp at this;omega
   rw [this] at hj
   cases hj
   have ej:j=i:=by omega
   rw [ej,hkn]
   exact rp3.same up
 rintro _ H2 ⟨r0,r1,ys,rfl,g,eR,hy,hP⟩
 rfl'
 refine vb (g _ _ rl) (by rw [sizeLine_eq];omega) ?_
 have RLn:RL K (off p tb rp H2) (f::L) f d l (.ref R) n:=⟨R,ys,rfl,.inl (.inl (jG eR nR.1 nR.2.1 nR.2.2)),by omega,λi x hx=>(hP i x hx).same (lA _ _)⟩
 have sF:ak (mn (off p tb rp H1) D) (off p tb rp H2):=(lA _ _).trans (gZ g)
 have hoff:∀H',(∀b,b ≠ tb->H' b=ai H2 rp (.lst (rs++[.ref R])) b)->off p tb rp H'=off p tb rp H2:=λH' h=>HX λb h1 h2 h3=>(h b h2).trans (au h3)
 have gt0:=gt.same (gZ (p:=p) (t:=tb) (r:=rp) g)
 have fa2:=bX (gZ (p:=p) (t:=tb) (r:=rp) g) G1.fa
 have rh2:∀(j:Nat) v,rs[j]?=some v->RL K (off p tb rp H2) (f::L) f d l v j:=λj v hj=>(rh j v hj).same (gZ g)
 have ob2:=g _ _ ob1
 have td2:=g _ _ td
 have rl2:=g _ _ rl
 have eD2:=g _ _ e1
 refine⟨_,rfl,D,rfl,⟨_,.inl (.inl ((au nD.2.2).trans eD2))⟩,?_⟩
 refine fD (iK (xs:=ts)) (λi σ H'=>∃r3 r4 kvs',σ=[some (.ref p),some (vt [c]),some (.ref D),r3,r4]/\(∀b,b ≠ tb->H' b=ai H2 rp (.lst (rs++[.ref R])) b)/\H' tb=some (.dK kvs')/\kvs'.length<=B+i/\
  GT K (off p tb rp H2) (f::L) f d l kvs' (λk=>if bG f d l k n=true/\d<k.length+i then n+1 else n)) ⟨_,_,kvs,rfl,λ_ _=>rfl,(au ntr).trans td2,kl,gt0.congr λk hk=>if_neg (by omega)⟩ (λi σ H' _ ⟨_,_,_,_,h,_⟩=>.inl (.inl ((h D nD.2.1).trans ((au nD.2.2).trans eD2)))) ?_ ?_
 ·rintro i x _ H3 hx ⟨r3,r4,kvs',rfl,h3,t3,k3,gt3⟩
  have hi:=(bh.mp hx).1
  have hTx:=(hTD i x hx).same sF
  have hkp:(bg f d l n).take (d-i) <+: bg f d l n:=Cn _ _
  have hkl:((bg f d l n).take (d-i)).length=d-i:=by rw [dM];omega
  generalize (bg f d l n).take (d-i)=kn at hTx hkp hkl
  obtain⟨ch,e,rfl,h1,h2⟩:=hTx
  have s3:ak (off p tb rp H2) H3:=(hoff H3 h3) ▸ dQ p tb rp H3
  have ob3:H3 p=_:=(h3 p npt).trans ((au npr).trans ob2)
  refine⟨ch,_,rfl,bX s3 h1,rfl,_,_,rfl,_,_,rfl,rfl,?_⟩
  refine⟨_,rfl,_,rfl,p,_,dx,_,_,rfl,ob3,T.bY,T.na_Growth_table,pG _ _ _ _,_,rfl,tb,_,rfl,jw.k (k:=key kn) t3 (by rw [sizeLine_eq];omega),?_⟩
  refine⟨_,_,cE kvs' (key kn) e,rfl,λb hb=>by rw [au hb];exact h3 b hb,aA,by have:=NX kvs' (key kn) e;omega,?_⟩
  have hfk:=fq.mpr hkp
  have hmk:(if bG f d l kn n=true/\d<kn.length+(i+1) then n+1 else n)=n+1:=if_pos ⟨hfk,by omega⟩
  refine gt3.put (m':=λk=>if bG f d l k n=true/\d<k.length+(i+1) then n+1 else n) (kn:=kn) ?_ ?_ ?_
  ·show b8 f d l kn (if bG f d l kn n=true/\d<kn.length+(i+1) then n+1 else n)=true
   rw [hmk];exact mF hfk
  ·show eM K _ e (f::L) f d l (if bG f d l kn n=true/\d<kn.length+(i+1) then n+1 else n) kn
   rw [hmk];exact h2
  ·intro k hk
   show (if _ then n+1 else n)=(if _ then n+1 else n)
   by_cases y:bG f d l k n=true/\d<k.length+i
   ·rw [if_pos y,if_pos ⟨y.1,by omega⟩]
   ·rw [if_neg y]
    refine if_neg λ⟨a,b⟩=>?_
    by_cases y2:d<k.length+i
    ·exact y ⟨a,y2⟩
    ·exact hk (Hn (fq.mp a) hkp (by omega))
 ·rintro _ H3 ⟨r3,r4,kvs',rfl,h3,t3,k3,gt3⟩
  have ob3:H3 p=_:=(h3 p npt).trans ((au npr).trans ob2)
  have ht:(l.take n).length=n:=by rw [dM];omega
  have h4:=hoff H3 h3
  refine⟨_,rfl,p,_,dx,_,_,rfl,ob3,T.bY,T.na_Growth_text,lI _ _ _ _,_,rfl,.inr (aY (by rw [sizeLine_eq,ht];show _+1<=_;omega) ?_)⟩
  refine⟨dx,_,ob3,by show 4<1000;decide,?_⟩
  rw [IW,show l.take n++[c]=l.take (n+1) by rw [i6,hc];rfl]
  have h5:off p tb rp (ai H3 p (.ins t.aS dx (eZ fr (vt (l.take (n+1))) tb rp)))=off p tb rp H2:=(HW (.inl rfl)).trans h4
  refine q _ ⟨⟨dx,aA⟩,⟨kvs',(au npt.symm).trans t3,?_,?_⟩,⟨rs++[.ref R],(au npr.symm).trans ((h3 rp ntr.symm).trans aA),by rw [aq,rn];rfl,λj v hj=>?_⟩,?_⟩ λb o hb h1 h2 h3'=>?_
  ·rw [hts] at k3;exact k3
  ·rw [h5]
   refine gt3.next (n:=n) (λk hk hp=>if_pos ⟨fq.mpr hp,by omega⟩) (λk hp=>if_neg λ⟨a,_⟩=>hp (fq.mp a))
  ·rw [h5]
   by_cases y:j<rs.length
   ·rw [iH y] at hj
    exact rh2 j v hj
   ·rw [iG (by omega)] at hj
    have:j-rs.length=0:=by
     have:=(bh.mp hj).1
     simp at this;omega
    rw [this] at hj
    cases hj
    have ej:j=n:=by omega
    rw [ej];exact RLn
  ·rw [h5];exact fa2
  ·rw [au h1,h3 b h2,au h3']
   exact g _ _ (s1 _ _ hb)
inductive Fo(K:Frag)(C:Addr)(vs:List V)(H:Hp)(Q:VK)(E0x:XK):Prop where
 | mk (p tb rp fr:Addr) (f:Nat) (L:List Nat) (d:Nat) (l:List Nat) (n B:Nat) (_:vs=[.ref p]) (_:GO K C p tb rp fr H f L d l n B) (_:(f::L).length<=100) (_:∀z H',ak H H'->bf K H' z (wv (f::L) f d l n d []).1 (wv (f::L) f d l n d []).2->Q z H'):Fo K C vs H Q E0x
theorem p6(T:Txt K mg t):ar P w K mg base (ay P w) 3 t.wR t.uC ["self"] (Fo K t.aS):=by
 refine T.oe.F.okm (k:=2) Nr λcdv A outer s H vs Q E hr h=>?_
 obtain⟨p,tb,rp,fr,f,L,d,l,n,B,rfl,G,hL,q⟩:=h
 obtain⟨dx,ob⟩:=G.ob
 refine⟨_,(aj (az (cA (cO (pv 0) T.bY T.y0 (Be T) hr (a1 aO)) (cC (.int 2) T.sd)))),?_⟩
 nofun
 refine⟨_,rfl,p,dx,_,rfl,ob,(fk _ _ _ _).1,p,tb,rp,fr,f,L,d,l,n,B,[],by rw [gY];rfl,G,hL,cU _,λz H1 s1 hz=>?_⟩
 obtain⟨e,q0,xw,yw,rfl,h1,h2,h3,h4⟩:=hz.same (dQ _ _ _ _)
 exact aV h1 rfl (q yw H1 s1 h4)
theorem Nx{t:Addr}(s:ak H H')(h1:H p=none)(h2:H t=none)(h3:H r=none):ak H (off p t r H'):=λb o e =>
 jG (s b o e) (λz=>by rw [z,h1] at e;cases e) (λz=>by rw [z,h2] at e;cases e) (λz=>by rw [z,h3] at e;cases e)
theorem GT.empty:GT K F L f d l [] (λ_=>0):=⟨λ_ _ _=>rfl,λ_ _ h=>nomatch h⟩
inductive Fj(K:Frag)(C:Addr)(vs:List V)(H:Hp)(Q:VK)(E0x:XK):Prop where
 | mk (fr:Addr) (f:Nat) (L:List Nat) (d:Nat) (l:List Nat) (_:vs=[.ref fr,vt l]) (_:aG K H fr [vt (f::L),.int d]) (_:Sm (f::L) f d l) (_:∀p tb rp H',ak H H'->H p=none->H tb=none->H rp=none->GO K C p tb rp fr H' f L d l l.length (l.length*(d+1))->Q (.ref p) H'):Fj K C vs H Q E0x
theorem B6(T:Txt K mg t):ar P w K mg base (ay P w) 8 t.vi t.sW ["frame", "text"] (Fj K t.aS):=by
 refine T.xV.F.okm (k:=7) yB λcdv A outer s H vs Q E hr h=>?_
 obtain⟨fr,f,L,d,l,rfl,hf,S,q⟩:=h
 refine⟨_,(ag (aC 2 yB.nd (AO T.qE.mi ((HL T).mono (by decide)) hr rfl T.Iu T.qE.b .nil g8 (a1 (pv 0)))) (ag (cW cR rfl (di (pv 1)) (bB 3 yB.nd) (aj (fg (cO (pv 2) T.bY T.qD (rS T) hr (a1 (pv 3)))))) (aj (az (pv 2))))),?_⟩
 nofun
 refine⟨_,rfl,λp dx np ndx nex=>?_⟩
 have s0:ak H (ai (ai H dx (.own p)) p (.ins t.aS dx [])):=λb o e=>by
  rw [au (bQ e np),au (bQ e ndx)]
  exact e
 refine⟨p,fr,dx,rfl,aA,λtb rp H1 htb hrp hne e1 e2 e3 k1=>⟨rfl,?_⟩⟩
 have s1:ak H H1:=λb o e=>k1 b o (s0 b o e) (bQ e np)
 have ntb:=s0.free htb
 have nrp:=s0.free hrp
 have G0:GO K t.aS p tb rp fr H1 f L d l 0 (0*(d+1)):=⟨⟨dx,e1⟩,⟨[],e2,cU _,GT.empty⟩,⟨[],e3,rfl,λj v h=>nomatch h⟩,bX (Nx s1 np ntb nrp) hf⟩
 refine⟨_,rfl,.inr (.inr ⟨_,rfl,?_⟩)⟩
 refine fD (fw l) (λi σ H'=>∃r3,σ=[some (.ref fr),some (vt l),some (.ref p),r3]/\ak H H'/\GO K t.aS p tb rp fr H' f L d l i (i*(d+1))) ⟨_,rfl,s1,G0⟩ (λ_ _ _ _ _=>trivial) ?_ ?_
 ·rintro i x _ H2 hx ⟨r3,rfl,s2,G2⟩
  obtain⟨c,hc,rfl⟩:=fL hx
  obtain⟨dy,ob⟩:=G2.ob
  refine⟨_,rfl,p,dy,_,rfl,ob,(fk _ _ _ _).2.2.2.2.1,_,rfl,p,tb,rp,fr,f,L,d,l,i,_,c,rfl,G2,S,hc,by have:=(bh.mp hc).1;have h1:=S.ll;have h2:=S.d6;exact c7 (md (show i<=200 by omega) (show d+1<=7 by omega)) (by decide),λH3 G3 k3=>?_⟩
  rw [show i*(d+1)+(d+1)=(i+1)*(d+1) by rw [jS,Nat.one_mul]] at G3
  exact⟨_,rfl,λb o e=>k3 b o (s2 b o e) (bQ e np) (bQ e ntb) (bQ e nrp),G3⟩
 ·rintro _ H2 ⟨r3,rfl,s2,G2⟩
  rw [aT] at G2
  exact⟨_,rfl,q p tb rp H2 s2 np ntb nrp G2⟩
inductive Ej(K:Frag)(C:Addr)(vs:List V)(H:Hp)(Q:VK)(E0x:XK):Prop where
 | mk (p tb rp fr:Addr) (f:Nat) (L:List Nat) (d:Nat) (l:List Nat) (n B c:Nat) (_:vs=[.ref p,vt [c]]) (_:GO K C p tb rp fr H f L d l n B) (_:Sm (f::L) f d l) (_:l[n]?=some c) (_:∀z H',ak H H'->bf K H' z (wv (f::L) f d l (n+1) d []).1 (wv (f::L) f d l (n+1) d []).2->Q z H'):Ej K C vs H Q E0x
theorem HU(T:Txt K mg t):ar P w K mg base (ay P w) 7 t.xh t.uN ["self", "sign"] (Ej K t.aS):=by
 refine T.D8.F.okm (k:=6) Nw λcdv A outer s H vs Q E hr h=>?_
 obtain⟨p,tb,rp,fr,f,L,d,l,n,B,c,rfl,G,S,hc,q⟩:=h
 obtain⟨dx,ob⟩:=G.ob
 refine⟨_,(aj (az (cA (cA (cA (cO (pv 0) T.bY T.D6 (HR T) hr (a1 (pv 1))) (iP iL aw)) aw) (cC (.int 2) T.sd)))),?_⟩
 nofun
 refine⟨_,rfl,p,dx,_,rfl,ob,(fk _ _ _ _).2.2.1,_,rfl,p,tb,rp,fr,f,L,d,l,n,B,c,rfl,G,S,hc,λD H1 ts s1 hD e1 hts hTD=>?_⟩
 rcases xK ts with rfl | ⟨ts',u,rfl⟩
 ·simp at hts
 rw [xN] at *
 have hl:ts'.length=d:=by simpa using hts
 obtain⟨ch,e,rfl,h1,h2⟩:=hTD d u (by rw [iG (by omega),hl,Nat.sub_self];rfl)
 rw [Nat.sub_self,List.take_zero] at h1 h2
 have sub:ak (mn (off p tb rp H1) D) H1:=(lA _ _).trans (dQ _ _ _ _)
 obtain⟨e',q0,xw,yw,rfl,g1,g2,g3,g4⟩:=h2.same sub
 refine⟨_,rfl,cQ (.inl (.inl e1)) (v9 ts' _) (aV (bX sub h1) rfl (aV g1 rfl ?_))⟩
 exact q yw H1 s1 g4
noncomputable def og(x y:Int × Int):Prop:=0<x.2/\0<y.2/\x.1*y.2=y.1*x.2
theorem og.refl{x:Int × Int}(h:0<x.2):og x x:=⟨h,h,rfl⟩
theorem og.trans{x y z:Int × Int}(h1:og x y)(h2:og y z):og x z:=by
 obtain⟨a,b,c⟩:=h1
 obtain⟨_,e,f⟩:=h2
 refine⟨a,e,ia (a:=y.2) (by omega) ?_⟩
 grind
theorem pM(f d:Nat)(l x:List Nat)(hn:n<=l.length):bg f d (l++x) n=bg f d l n:=by
 unfold bg
 refine gQ λj _=>?_
 split
 ·rename_i z
  rw [fU,fU,iH (by omega)]
 ·rfl
theorem BP(f d:Nat)(l x k:List Nat)(hn:n<=l.length):bG f d (l++x) k n=bG f d l k n:=by
 unfold bG;rw [pM f d l x hn]
theorem pS(L:List Nat)(f d:Nat)(l x k:List Nat)(hn:n<=l.length):aR L f d (l++x) k n=aR L f d l k n:=by
 unfold aR
 refine gQ λc _=>?_
 congr 1
 refine List.filter_congr λj hj=>?_
 have hj':=jV.mp hj
 rw [BP f d l x k (by omega),iH (by omega)]
theorem l7(f d:Nat)(l x k:List Nat)(hn:n<=l.length):b8 f d (l++x) k n=b8 f d l k n:=by
 unfold b8
 rw [oj,List.any_eq_true,List.any_eq_true]
 constructor
 ·rintro⟨j,hj,h⟩
  exact⟨j,hj,by rw [← BP f d l x k (by have:=jV.mp hj;omega)];exact h⟩
 ·rintro⟨j,hj,h⟩
  exact⟨j,hj,by rw [BP f d l x k (by have:=jV.mp hj;omega)];exact h⟩
theorem qH(L:List Nat)(f d:Nat)(l x:List Nat)(hn:n<=l.length):∀(r:Nat) (k:List Nat),wv L f d (l++x) n r k=wv L f d l n r k
 | 0,k=>by unfold wv wo;rw [pS L f d l x k hn]
 | r+1,k=>by
   show (if _ then _ else _)=(if _ then _ else _)
   rw [l7 f d l x k hn,gQ λc _=>qH L f d l x hn r (k++[c])]
   unfold wo
   rw [pS L f d l x k hn]
theorem E2:∀cs:List Nat,(cs.map λv:Nat=>(2*(v:Int)+1)).sum=2*(cs.sum:Int)+cs.length
 | []=>rfl
 | c::cs=>by
   rw [bR,dA,E2 cs,dA,d8];omega
theorem oB(a:Int){α:Type}(g:α->Int):∀cs:List α,(cs.map λc=>a*g c).sum=a*(cs.map g).sum
 | []=>by simp
 | c::cs=>by rw [bR,dA,bR,dA,oB a g cs];grind
theorem E3(a b:Int){α:Type}(g h:α->Int):∀cs:List α,(cs.map λc=>g c*a+h c*b).sum=(cs.map g).sum*a+(cs.map h).sum*b
 | []=>by simp
 | c::cs=>by rw [bR,dA,bR,dA,bR,dA,E3 a b g h cs];grind
theorem oS{g:Nat->Int}{c0:Nat}:∀{L:List Nat},L.Nodup->c0 ∈ L->aQ (L.map g)=g c0*aQ ((L.filter λc=>decide (c ≠ c0)).map g)
 | [],_,h=>nomatch h
 | c::L,hn,h=>by
   obtain⟨h1,h2⟩:=jU.mp hn
   show g c*aQ (L.map g)=_
   by_cases z:c=c0
   ·subst z
    rw [mh,if_neg (by simp)]
    rw [nW.mpr λy hy=>by simp;exact λe=>h1 (e ▸ hy)]
   ·rcases bE.mp h with e | hm
    ·exact absurd e.symm z
    ·rw [mh,if_pos (by simp [z])]
     show _=g c0*(g c*_)
     rw [oS h2 hm];grind
theorem AK{g:Nat->Int}:∀{L:List Nat},(∀c ∈ L,g c=1)->aQ (L.map g)=1
 | [],_=>rfl
 | c::L,h=>by
   show g c*aQ (L.map g)=1
   rw [h c bO,AK λc' h'=>h c' (df _ h')];rfl
theorem Gh(h:b8 f d l k n=false):b8 f d l (k++[c]) n=false:=by
 unfold b8 at *
 rw [List.any_eq_false] at *
 intro j hj z
 exact h j hj (fq.mpr ((List.prefix_append k [c]).trans (fq.mp z)))
noncomputable def gC(f d:Nat)(l k:List Nat)(n c:Nat):Nat:=((List.range n).filter λj=>bG f d l k j && decide (l[j]?=some c)).length
theorem yf(hL:L.Nodup)(hc:c ∈ L)(hk:k <+: bg f d l l.length):
 wo L f d (l++[c]) (l.length+1) k=((wo L f d l l.length k).1*(2*(gC f d l k l.length c:Int)+1),(wo L f d l l.length k).2*(2*((aR L f d l k l.length).sum:Nat)+(L.length:Nat))):=by
 obtain⟨i,hi⟩:=xJ hc
 obtain⟨v,h1,_,h3⟩:=qI (l:=l++[c]) (n:=l.length) (k:=k) hL (by rw [pM f d l [c] (aI _)];exact hk) hi (by simp)
 have e1:wo L f d (l++[c]) l.length k=wo L f d l l.length k:=by unfold wo;rw [pS L f d l [c] k (aI _)]
 rw [pS L f d l [c] k (aI _)] at h1 h3
 have ev:v=gC f d l k l.length c:=by
  unfold aR at h1
  rw [bS,hi] at h1
  exact(dS h1).symm
 rw [h3,e1,ev]
theorem E4:(L.map λc=>2*(gC f d l k n c:Int)+1).sum=2*((aR L f d l k n).sum:Nat)+(L.length:Nat):=by
 have h:=E2 (aR L f d l k n)
 rw [iV] at h
 rw [← h]
 unfold aR
 rw [d7];rfl
theorem Dj(hL:L.Nodup)(hf:f ∈ L)(hl:∀c ∈ l,c ∈ L):∀(r:Nat) (k:List Nat),k.length+r=d->k <+: bg f d l l.length->
 ∃B,(∀c ∈ L,(wv L f d (l++[c]) (l.length+1) r k).2=B)/\(L.map λc=>(wv L f d (l++[c]) (l.length+1) r k).1).sum*(wv L f d l l.length r k).2=(wv L f d l l.length r k).1*B:=by
 intro r
 induction r with
 | zero =>
   intro k hk hp
   refine⟨(wo L f d l l.length k).2*(2*((aR L f d l k l.length).sum:Nat)+(L.length:Nat)),λc hc=>?_,?_⟩
   ·show (wo L f d (l++[c]) (l.length+1) k).2=_
    rw [yf hL hc hp]
   ·show (L.map λc=>(wo L f d (l++[c]) (l.length+1) k).1).sum*(wo L f d l l.length k).2=(wo L f d l l.length k).1*_
    rw [gQ (g:=λc=>(wo L f d l l.length k).1*(2*(gC f d l k l.length c:Int)+1)) λc hc=>by rw [yf hL hc hp],oB,E4]
    grind
 | succ r ih =>
   intro k hk hp
   obtain⟨c0,hc0,pre⟩:=Bh (show k.length<d by omega) hp
   have hc0L:=Jh hf hl (aI _) c0 hc0
   obtain⟨Y,hY,hS⟩:=ih (k++[c0]) (by rw [aq];show _+1+_=_;omega) ((pre c0).mpr rfl)
   have hoff:∀c c',c' ≠ c0->wv L f d (l++[c]) (l.length+1) r (k++[c'])=wv L f d l l.length r (k++[c']):=λc c' hne=>by
    rw [mC r (λz=>hne ((pre c').mp (by rw [← pM f d l [c] (aI _)];exact z))),qH L f d l [c] (aI _)]
   have hse:∀c,b8 f d (l++[c]) k (l.length+1)=true:=λc=>mF (fq.mpr (by rw [pM f d l [c] (aI _)];exact hp))
   have e1:∀c,(eN (L.map λc'=>wv L f d (l++[c]) (l.length+1) r (k++[c']))).1=(wv L f d (l++[c]) (l.length+1) r (k++[c0])).1*aQ ((L.filter λc'=>decide (c' ≠ c0)).map λc'=>(wv L f d l l.length r (k++[c'])).1):=λc=>by
    show aQ ((L.map _).map _)=_
    rw [d7]
    refine(oS hL hc0L).trans ?_
    refine congrArg (λz=>_*aQ z) ?_
    refine gQ λc' h'=>?_
    show (wv L f d (l++[c]) (l.length+1) r (k++[c'])).1=_
    rw [hoff c c' (by simpa using (xH.mp h').2)]
   have e2:∀c,(eN (L.map λc'=>wv L f d (l++[c]) (l.length+1) r (k++[c']))).2=(wv L f d (l++[c]) (l.length+1) r (k++[c0])).2*aQ ((L.filter λc'=>decide (c' ≠ c0)).map λc'=>(wv L f d l l.length r (k++[c'])).2):=λc=>by
    show aQ ((L.map _).map _)=_
    rw [d7]
    refine(oS hL hc0L).trans ?_
    refine congrArg (λz=>_*aQ z) ?_
    refine gQ λc' h'=>?_
    show (wv L f d (l++[c]) (l.length+1) r (k++[c'])).2=_
    rw [hoff c c' (by simpa using (xH.mp h').2)]
   have z1:(eN (L.map λc'=>wv L f d l l.length r (k++[c']))).1=(wv L f d l l.length r (k++[c0])).1*aQ ((L.filter λc'=>decide (c' ≠ c0)).map λc'=>(wv L f d l l.length r (k++[c'])).1):=by
    show aQ ((L.map _).map _)=_
    rw [d7]
    exact oS hL hc0L
   have z2:(eN (L.map λc'=>wv L f d l l.length r (k++[c']))).2=(wv L f d l l.length r (k++[c0])).2*aQ ((L.filter λc'=>decide (c' ≠ c0)).map λc'=>(wv L f d l l.length r (k++[c'])).2):=by
    show aQ ((L.map _).map _)=_
    rw [d7]
    exact oS hL hc0L
   have hR1:∀c' ∈ L.filter (λc'=>decide (c' ≠ c0)),b8 f d l k l.length=false->wv L f d l l.length r (k++[c'])=(1,1):=λc' _ z=>k8 (Gh z)
   have hX0:b8 f d l k l.length=false->wv L f d l l.length r (k++[c0])=(1,1):=λz=>k8 (Gh z)
   have hR1':b8 f d l k l.length=false->aQ ((L.filter λc'=>decide (c' ≠ c0)).map λc'=>(wv L f d l l.length r (k++[c'])).1)=1:=λz=>AK λc' h'=>by rw [hR1 c' h' z]
   have hR2':b8 f d l k l.length=false->aQ ((L.filter λc'=>decide (c' ≠ c0)).map λc'=>(wv L f d l l.length r (k++[c'])).2)=1:=λz=>AK λc' h'=>by rw [hR1 c' h' z]
   generalize aQ ((L.filter λc'=>decide (c' ≠ c0)).map λc'=>(wv L f d l l.length r (k++[c'])).1)=R1 at *
   generalize aQ ((L.filter λc'=>decide (c' ≠ c0)).map λc'=>(wv L f d l l.length r (k++[c'])).2)=R2 at *
   have hwc:∀c ∈ L,wv L f d (l++[c]) (l.length+1) (r+1) k=((wo L f d l l.length k).1*(2*(gC f d l k l.length c:Int)+1)*(Y*R2)+(wv L f d (l++[c]) (l.length+1) r (k++[c0])).1*R1*((wo L f d l l.length k).2*(2*((aR L f d l k l.length).sum:Nat)+(L.length:Nat))),
    2*((wo L f d l l.length k).2*(2*((aR L f d l k l.length).sum:Nat)+(L.length:Nat))*(Y*R2))):=λc hc=>by
    rw [kU (hse c)]
    unfold lB
    rw [e1,e2,yf hL hc hp,hY c hc]
   refine⟨2*((wo L f d l l.length k).2*(2*((aR L f d l k l.length).sum:Nat)+(L.length:Nat))*(Y*R2)),λc hc=>by rw [hwc c hc],?_⟩
   have hsum:(L.map λc=>(wv L f d (l++[c]) (l.length+1) (r+1) k).1).sum=(wo L f d l l.length k).1*(2*((aR L f d l k l.length).sum:Nat)+(L.length:Nat))*(Y*R2)+(L.map λc=>(wv L f d (l++[c]) (l.length+1) r (k++[c0])).1).sum*(R1*((wo L f d l l.length k).2*(2*((aR L f d l k l.length).sum:Nat)+(L.length:Nat)))):=by
    rw [gQ (g:=λc=>((wo L f d l l.length k).1*(2*(gC f d l k l.length c:Int)+1))*(Y*R2)+(wv L f d (l++[c]) (l.length+1) r (k++[c0])).1*(R1*((wo L f d l l.length k).2*(2*((aR L f d l k l.length).sum:Nat)+(L.length:Nat))))) λc hc=>by rw [hwc c hc];grind]
    rw [E3,oB,E4]
   rw [hsum]
   generalize (L.map λc=>(wv L f d (l++[c]) (l.length+1) r (k++[c0])).1).sum=SX at *
   generalize hSS:(2*((aR L f d l k l.length).sum:Nat)+(L.length:Nat):Int)=SS at *
   cases z:b8 f d l k l.length with
   | true =>
     rw [kU z]
     unfold lB
     rw [z1,z2]
     generalize wv L f d l l.length r (k++[c0])=X0 at *
     generalize wo L f d l l.length k=a at *
     grind
   | false =>
     have hwo:=oq (L:=L) z
     have hX:=hX0 z
     have h1:=hR1' z
     have h2:=hR2' z
     rw [k8 z,hwo,h1,h2]
     rw [hX] at hS
     grind
noncomputable def WT(L:List Nat)(f d:Nat)(l:List Nat):Int × Int:=wv L f d l l.length d []
theorem hV{a:Int}{k:Nat}(h0:0<=a)(h:a<=2^k)(hk:k<100000):a.natAbs<2^100000:=by
 have h1:=dC h hk
 have h2:(a.natAbs:Int)<((2^100000:Nat):Int):=by
  rw [k5]
  have:(a.natAbs:Int)=a:=by omega
  rw [this];exact h1
 exact Int.ofNat_lt.mp h2
theorem Sx{n e t0 t1 B S1 S2:Int}(he:0<e)(ht:0<t1)(hB:0<B)(hS:0<S2)(g1:bM n e=1)(g2:bM t0 t1=1)(c1:n*B=A*e)(c2:t0*S2=S1*t1)(h:S1*B=A*S2):t0=n/\t1=e:=by
 have x:t0*e=n*t1:=by
  refine ia (a:=S2*B) (by have:=cK hS hB;omega) ?_
  grind
 have n1:Nat.gcd n.natAbs e.natAbs=1:=by unfold bM at g1;omega
 have n2:Nat.gcd t0.natAbs t1.natAbs=1:=by unfold bM at g2;omega
 have y:t0.natAbs*e.natAbs=n.natAbs*t1.natAbs:=by rw [← k7,← k7,x]
 have d1:t1.natAbs ∣ e.natAbs:=(Nat.Coprime.symm n2).dvd_of_dvd_mul_left (by rw [y];exact Nat.dvd_mul_left _ _)
 have d2:e.natAbs ∣ t1.natAbs:=(Nat.Coprime.symm n1).dvd_of_dvd_mul_left (by rw [← y];exact Nat.dvd_mul_left _ _)
 have e1:=Nat.dvd_antisymm d1 d2
 have e2:t1=e:=by omega
 subst e2
 exact⟨ia (by omega) x,rfl⟩
theorem y4(F:Hp)(v:V)(L:List Nat)(f d:Nat)(l x k:List Nat)(hn:n<=l.length):eM K F v L f d (l++x) n k ↔ eM K F v L f d l n k:=by
 unfold eM wo
 rw [pS L f d l x k hn,qH L f d l x hn]
theorem Kr(F:Hp)(L:List Nat)(f d:Nat)(l x:List Nat)(kvs:List (aU × V))(hn:n<=l.length):GT K F L f d (l++x) kvs (λ_=>n) ↔ GT K F L f d l kvs (λ_=>n) :=
 ⟨λh=>⟨λk e hl=>(l7 f d l x k hn) ▸ h.non k e hl,λk v e hl=>⟨(l7 f d l x k hn) ▸ (h.som k v e hl).1,(y4 F v L f d l x k hn).mp (h.som k v e hl).2⟩⟩,
  λh=>⟨λk e hl=>(l7 f d l x k hn).symm ▸ h.non k e hl,λk v e hl=>⟨(l7 f d l x k hn).symm ▸ (h.som k v e hl).1,(y4 F v L f d l x k hn).mpr (h.som k v e hl).2⟩⟩⟩
theorem K9(F:Hp)(L:List Nat)(f d:Nat)(l x:List Nat)(v:V)(hj:j<=l.length):RL K F L f d (l++x) v j ↔ RL K F L f d l v j:=by
 unfold RL jq
 rw [pM f d l x hj]
 constructor
 ·rintro⟨a,xs,e,h1,h2,h3⟩
  refine⟨a,xs,e,h1,h2,λi y hy=>?_⟩
  obtain⟨ch,z,e1,e2,e3⟩:=h3 i y hy
  refine⟨ch,z,e1,e2,?_⟩
  rw [l7 f d l x _ hj,y4 F z L f d l x _ hj] at e3
  exact e3
 ·rintro⟨a,xs,e,h1,h2,h3⟩
  refine⟨a,xs,e,h1,h2,λi y hy=>?_⟩
  obtain⟨ch,z,e1,e2,e3⟩:=h3 i y hy
  refine⟨ch,z,e1,e2,?_⟩
  rw [l7 f d l x _ hj,y4 F z L f d l x _ hj]
  exact e3
theorem CA{tb fr:Addr}{x:List Nat}(hn:n<=l.length):GO K C p tb rp fr H f L d (l++x) n B ↔ GO K C p tb rp fr H f L d l n B:=by
 have ht:(l++x).take n=l.take n:=Kl hn
 constructor
 ·intro h
  obtain⟨rs,h1,h2,h3⟩:=h.rl
  obtain⟨kvs,g1,g2,g3⟩:=h.td
  exact⟨ht ▸ h.ob,⟨kvs,g1,g2,(Kr _ _ f d l x kvs hn).mp g3⟩,⟨rs,h1,h2,λj v hj=>(K9 _ _ f d l x v (by have:=(bh.mp hj).1;omega)).mp (h3 j v hj)⟩,h.fa⟩
 ·intro h
  obtain⟨rs,h1,h2,h3⟩:=h.rl
  obtain⟨kvs,g1,g2,g3⟩:=h.td
  exact⟨ht.symm ▸ h.ob,⟨kvs,g1,g2,(Kr _ _ f d l x kvs hn).mpr g3⟩,⟨rs,h1,h2,λj v hj=>(K9 _ _ f d l x v (by have:=(bh.mp hj).1;omega)).mpr (h3 j v hj)⟩,h.fa⟩
theorem GO.more{tb fr:Addr}(x:List Nat)(h:GO K C p tb rp fr H f L d l l.length B):GO K C p tb rp fr H f L d (l++x) l.length B:=(CA (aI _)).mpr h
theorem GO.less{tb fr:Addr}{x:List Nat}(h:GO K C p tb rp fr H f L d (l++x) l.length B):GO K C p tb rp fr H f L d l l.length B:=(CA (aI _)).mp h
theorem Hj{g h:Nat->Int}:∀{L:List Nat},(∀c ∈ L,g c ∣ h c)->aQ (L.map g) ∣ aQ (L.map h)
 | [],_=>gB _
 | c::L,hd=>by
   show g c*aQ (L.map g) ∣ h c*aQ (L.map h)
   exact Int.mul_dvd_mul (hd c bO) (Hj λc' h'=>hd c' (df _ h'))
theorem Lq(hL:L.Nodup)(hl:∀c ∈ l,c ∈ L)(hn:n<l.length):∀(r:Nat) (k:List Nat),(wv L f d l n r k).2 ∣ (wv L f d l (n+1) r k).2:=by
 have hwo:∀k,(wo L f d l n k).2 ∣ (wo L f d l (n+1) k).2:=λk=>by
  by_cases z:k <+: bg f d l n
  ·have hc:=bq hn
   obtain⟨i,hi⟩:=xJ (hl _ (jX hn))
   obtain⟨v,_,_,h3⟩:=qI hL z hi hc
   rw [h3]
   exact Int.dvd_mul_right _ _
  ·rw [qK z];exact gB _
 intro r
 induction r with
 | zero=>exact hwo
 | succ r ih =>
   intro k
   by_cases z:k <+: bg f d l n
   ·cases hs:b8 f d l k n with
    | false=>rw [k8 hs];exact Int.one_dvd _
    | true =>
      rw [kU hs,kU (mF (fq.mpr z))]
      refine Int.mul_dvd_mul (gB _) (Int.mul_dvd_mul (hwo k) ?_)
      show aQ ((L.map _).map _) ∣ aQ ((L.map _).map _)
      rw [d7,d7]
      exact Hj λc _=>ih (k++[c])
   ·rw [mC (r+1) z];exact gB _
theorem K7{t:List Nat}(hL:L.Nodup)(hl:∀x ∈ t++[c],x ∈ L):(WT L f d t).2 ∣ (WT L f d (t++[c])).2:=by
 unfold WT
 rw [aq]
 have:=Lq (f:=f) (d:=d) (l:=t++[c]) (n:=t.length) hL hl (by simp) d []
 rw [qH L f d t [c] (aI _)] at this
 exact this
theorem nK(hL:L.Nodup):∀{x t:List Nat},(∀c ∈ t++x,c ∈ L)->(WT L f d t).2 ∣ (WT L f d (t++x)).2
 | [],t,_=>by rw [gw];exact gB _
 | c::x,t,h=>by
   have e:t++c::x=(t++[c])++x:=by simp
   rw [e] at h ⊢
   exact Int.dvd_trans (K7 hL λy hy=>h y (i8 _ hy)) (nK hL h)
theorem K8{t:List Nat}(hL:L.Nodup)(hf:f ∈ L)(hl:∀x ∈ t,x ∈ L){c':Nat}(hc:c ∈ L)(hc':c' ∈ L):(WT L f d (t++[c])).2=(WT L f d (t++[c'])).2:=by
 obtain⟨B,h1,_⟩:=Dj (d:=d) hL hf hl d [] (by simp) (List.nil_prefix)
 have e:∀c,WT L f d (t++[c])=wv L f d (t++[c]) (t.length+1) d []:=λc=>by unfold WT;rw [aq];rfl
 rw [e,e,h1 c hc,h1 c' hc']
noncomputable def wU(L:List Nat)(f d:Nat)(U:Int)(t:List Nat):Int:=(WT L f d t).1*(U / (WT L f d t).2)
theorem ou{t:List Nat}(h:(WT L f d t).2 ∣ U):wU L f d U t*(WT L f d t).2=(WT L f d t).1*U:=by
 unfold wU
 rw [cg,Int.ediv_mul_cancel h]
theorem Dx{t:List Nat}(hL:L.Nodup)(hf:f ∈ L)(hl:∀x ∈ t,x ∈ L)(hp:0<(WT L f d t).2)(hq:∀c ∈ L,0<(WT L f d (t++[c])).2)(hU:∀c ∈ L,(WT L f d (t++[c])).2 ∣ U)(hU0:(WT L f d t).2 ∣ U):(L.map λc=>wU L f d U (t++[c])).sum=wU L f d U t:=by
 obtain⟨B,h1,h2⟩:=Dj (d:=d) hL hf hl d [] (by simp) (List.nil_prefix)
 have e:∀c,WT L f d (t++[c])=wv L f d (t++[c]) (t.length+1) d []:=λc=>by unfold WT;rw [aq];rfl
 have hB:0<B:=by rw [← h1 f hf,← e];exact hq f hf
 have h3:(L.map λc=>wU L f d U (t++[c])).sum=(U / B)*(L.map λc=>(wv L f d (t++[c]) (t.length+1) d []).1).sum:=by
  rw [← oB]
  congr 1
  refine gQ λc hc=>?_
  unfold wU
  rw [e,h1 c hc,cS]
 have hUB:B ∣ U:=by rw [← h1 f hf,← e];exact hU f hf
 have h4:=Int.ediv_mul_cancel hUB
 have h5:=ou hU0
 have h2':(L.map λc=>(wv L f d (t++[c]) (t.length+1) d []).1).sum*(WT L f d t).2=(WT L f d t).1*B:=h2
 rw [h3]
 refine ia (a:=(WT L f d t).2) (by omega) ?_
 rw [h5,cg,h2',← h4]
 grind
theorem qM{m:Int}{t:List Nat}(hp:0<(WT L f d t).2)(h:(WT L f d t).2 ∣ U):wU L f d (U*m) t=wU L f d U t*m:=by
 have h1:=ou h
 have h2:=ou (f:=f) (d:=d) (t:=t) (Int.dvd_mul_of_dvd_left (c:=m) h)
 refine ia (a:=(WT L f d t).2) (by omega) ?_
 rw [h2]
 grind
noncomputable def pre:List Nat->Nat->List Nat
 | [],_=>[]
 | c::L,x=>if c=x then [] else c::pre L x
theorem mR:∀{L:List Nat} {j x:Nat},L.Nodup->L[j]?=some x->L.take j=pre L x
 | [],_,_,_,h=>nomatch h
 | c::L,0,x,_,h=>by
   cases h
   show []=(if c=c then [] else _)
   rw [if_pos rfl]
 | c::L,j+1,x,hn,h=>by
   obtain⟨h1,h2⟩:=jU.mp hn
   have hx:L[j]?=some x:=h
   have hne:¬ c=x:=λe=>h1 (e ▸ eU hx)
   show c::L.take j=(if c=x then [] else c::pre L x)
   rw [if_neg hne,mR h2 hx]
theorem kx{x:Nat}(h:c ∈ pre L x):c ∈ L:=by
 induction L with
 | nil=>exact nomatch h
 | cons y L ih =>
   unfold pre at h
   split at h
   ·exact nomatch h
   ·rcases bE.mp h with rfl | h
    ·exact bO
    ·exact df _ (ih h)
theorem Oc{x:Nat}(hn:L.Nodup)(hx:L[j]?=some x)(hj:j+1=L.length):pre L x++[x]=L:=by
 rw [← mR hn hx]
 have:L.take j++[x]=L.take (j+1):=by rw [i6,hx];rfl
 rw [this,hj,fH]
noncomputable def aN(L:List Nat)(f d:Nat)(U:Int)(t:List Nat)(x:Nat):Int:=((pre L x).map λc=>wU L f d U (t++[c])).sum
noncomputable def cf(L:List Nat)(f d:Nat)(U:Int):List Nat->List Nat->Int
 | _,[]=>0
 | t,x::xs=>aN L f d U t x+cf L f d U (t++[x]) xs
theorem By(L:List Nat)(f d:Nat)(U:Int):∀(xs ys t:List Nat),cf L f d U t (xs++ys)=cf L f d U t xs+cf L f d U (t++xs) ys
 | [],ys,t=>by rw [gw];show cf L f d U t ys=0+_;omega
 | x::xs,ys,t=>by
   show aN L f d U t x+cf L f d U (t++[x]) (xs++ys)=aN L f d U t x+cf L f d U (t++[x]) xs+cf L f d U (t++x::xs) ys
   rw [By L f d U xs ys (t++[x]),show t++[x]++xs=t++x::xs by simp]
   omega
structure Gd(L:List Nat)(f d N:Nat):Prop where
 nd:L.Nodup
 fm:f ∈ L
 ps:∀t:List Nat,t.length<=N->(∀c ∈ t,c ∈ L)->0<(WT L f d t).2/\0<(WT L f d t).1
theorem Gd.div(g:Gd L f d N){t xs:List Nat}{x:Nat}(ht:∀y ∈ t++x::xs,y ∈ L)(hc:c ∈ L)(hU:(WT L f d (t++x::xs)).2 ∣ U):(WT L f d (t++[c])).2 ∣ U:=by
 have hx:x ∈ L:=ht x (by simp)
 rw [K8 g.nd g.fm (λy hy=>ht y (i8 _ hy)) hc hx]
 have e:t++x::xs=(t++[x])++xs:=by simp
 rw [e] at ht hU
 exact Int.dvd_trans (nK g.nd ht) hU
theorem sh(g:Gd L f d N){m:Int}:∀(xs t:List Nat),(t++xs).length<=N->(∀y ∈ t++xs,y ∈ L)->(WT L f d (t++xs)).2 ∣ U->cf L f d (U*m) t xs=cf L f d U t xs*m
 | [],t,_,_,_=>by show (0:Int)=0*m;rw [o5]
 | x::xs,t,hN,ht,hU=>by
   have e:t++x::xs=(t++[x])++xs:=by simp
   have ih:=sh g (m:=m) xs (t++[x]) (by rw [← e];exact hN) (by rw [← e];exact ht) (by rw [← e];exact hU)
   show aN L f d (U*m) t x+_=(aN L f d U t x+cf L f d U (t++[x]) xs)*m
   rw [ih]
   have h1:aN L f d (U*m) t x=aN L f d U t x*m:=by
    unfold aN
    refine Eq.trans ?_ (cS m _)
    rw [← oB]
    congr 1
    refine gQ λc hc=>?_
    have hcL:=kx hc
    rw [qM (g.ps _ (by rw [aq] at hN ⊢;simp at hN ⊢;omega) λy hy=>by
     rcases cD.mp hy with z | z
     ·exact ht y (i8 _ z)
     ·cases bx.mp z
      exact hcL).1 (g.div ht hcL hU),cS]
   rw [h1,eL]
inductive Eh(K:Frag)(vs:List V)(H:Hp)(Q:VK)(E0x:XK):Prop where
 | mk (p:Addr) (f:Nat) (L l:List Nat) (d:Nat) (_:vs=[.ref p,vt l]) (_:aG K H p [vt (f::L),.int d]) (_:(f::L).length<=6) (_:d<=6) (_:l.length<=200) (_:(∀c ∈ l,c ∈ f::L)) (_:(Sm (f::L) f d l/\∀H' z,ak H H'->bf K H' z (wv (f::L) f d l l.length d []).1 (wv (f::L) f d l l.length d []).2->Q z H')):Eh K vs H Q E0x
theorem Py(T:Txt K mg t):ar P w K mg base (ay P w) 9 t.vm t.sZ ["frame", "text"] (Eh K):=by
 refine T.Kx.F.okm (k:=8) MP λcdv A outer s H vs Q E hr h=>?_
 obtain⟨p,f,L,l,d,rfl,hp,hL6,hd,hll,hall,S,q⟩:=h
 refine⟨_,(aj (az (il (pc (B6 T) hr T.xV (a2 (pv 0) (pc (oX T) hr T.o7 (a2 (pv 0) (pv 1))))) T.bY T.oe (p6 T) hr))),?_⟩
 nofun
 refine⟨_,rfl,_,rfl,_,rfl,p,f::L,_,l,rfl,hp,hall,?_⟩
 refine⟨p,f,L,d,l,rfl,hp,S,λg tb rp H1 s1 _ _ _ G=>?_⟩
 obtain⟨dx,ob⟩:=G.ob
 exact⟨g,dx,_,rfl,ob,(fk _ _ _ _).2.2.2.1,g,tb,rp,p,f,L,d,l,l.length,_,rfl,G,by omega,λz H2 s2 hz=>q H2 z (s1.trans s2) hz⟩
theorem yj(g:Gd L f d N)(hU:0<=U){t:List Nat}(ht:t.length<=N)(hl:∀c ∈ t,c ∈ L):0<=wU L f d U t:=by
 obtain⟨h1,h2⟩:=g.ps t ht hl
 exact fW (by omega) (Int.ediv_nonneg hU (by omega))
theorem Hl:∀{L:List Nat} {x:Nat},x ∈ L->∃r,L=pre L x++x::r
 | [],_,h=>nomatch h
 | c::L,x,h=>by
   unfold pre
   by_cases z:c=x
   ·subst z;rw [if_pos rfl];exact⟨L,rfl⟩
   ·rw [if_neg z]
    rcases bE.mp h with e | h
    ·exact absurd e.symm z
    ·obtain⟨r,hr⟩:=Hl h
     exact⟨r,by rw [List.cons_append,← hr]⟩
theorem oA{g:Nat->Int}:∀{L:List Nat},(∀c ∈ L,0<=g c)->0<=(L.map g).sum
 | [],_=>fJ _
 | c::L,h=>by
   rw [bR,dA]
   have:=h c bO
   have:=oA (L:=L) λc' h'=>h c' (df _ h')
   omega
theorem kD(g:Gd L f d N)(hU0:0<=U):∀(xs t:List Nat),(t++xs).length<=N->(∀y ∈ t++xs,y ∈ L)->(WT L f d (t++xs)).2 ∣ U->0<=cf L f d U t xs/\cf L f d U t xs+wU L f d U (t++xs)<=wU L f d U t
 | [],t,_,_,_=>by rw [gw];exact⟨fJ _,by show 0+_<=_;omega⟩
 | x::xs,t,hN,ht,hU=>by
   have e:t++x::xs=(t++[x])++xs:=by simp
   have ih:=kD g hU0 xs (t++[x]) (by rw [← e];exact hN) (by rw [← e];exact ht) (by rw [← e];exact hU)
   rw [← e] at ih
   have htl:∀y ∈ t,y ∈ L:=λy hy=>ht y (i8 _ hy)
   have hx:x ∈ L:=ht x (by simp)
   have hlen:t.length+1<=N:=by rw [aq] at hN;simp at hN;omega
   have hc1:∀c ∈ L,∀y ∈ t++[c],y ∈ L:=λc hc y hy=>by
    rcases cD.mp hy with z | z
    ·exact htl y z
    ·cases bx.mp z
     exact hc
   have nn:∀c ∈ L,0<=wU L f d U (t++[c]):=λc hc=>yj g hU0 (by rw [aq];exact hlen) (hc1 c hc)
   have hs:=Dx (U:=U) g.nd g.fm htl (g.ps t (by omega) htl).1 (λc hc=>(g.ps _ (by rw [aq];exact hlen) (hc1 c hc)).1) (λc hc=>g.div ht hc hU) (Int.dvd_trans (nK g.nd ht) hU)
   obtain⟨r,hr⟩:=Hl hx
   have h9:(L.map λc=>wU L f d U (t++[c])).sum=((pre L x++x::r).map λc=>wU L f d U (t++[c])).sum:=by rw [← hr]
   rw [gv,ql,bR,dA] at h9
   have n1:0<=aN L f d U t x:=oA λc hc=>nn c (kx hc)
   have n2:0<=(r.map λc=>wU L f d U (t++[c])).sum:=oA λc hc=>nn c (by rw [hr];simp [hc])
   show 0<=aN L f d U t x+_/\aN L f d U t x+_+_<=_
   unfold aN at *
   omega
noncomputable def c8(K:Frag)(H:Hp)(x:V)(A U:Int):Prop:=∃p n e,x=.ref p/\aG K H p [.int n,.int e]/\0<=n/\0<e/\n*U=A*e/\bM n e=1
theorem c8.same(h:c8 K H x A U)(g:ak H H'):c8 K H' x A U:=by
 obtain⟨p,n,e,e0,h1,h2⟩:=h
 exact⟨p,n,e,e0,bX g h1,h2⟩
theorem jO{n e:Int}(hU:0<U)(hn:0<=n)(he:0<e)(hc:n*U=A*e)(hg:bM n e=1):e<=U/\n<=A/\0<=A:=by
 have n1:Nat.gcd n.natAbs e.natAbs=1:=by unfold bM at hg;omega
 have d1:e.natAbs ∣ U.natAbs:=by
  refine(Nat.Coprime.symm n1).dvd_of_dvd_mul_left ?_
  rw [← k7,hc,k7]
  exact Nat.dvd_mul_left _ _
 have d2:=Nat.le_of_dvd (by omega) d1
 have h1:e<=U:=by omega
 have hA:0<=A:=by
  have h0:=fW hn (show 0<=U by omega)
  rw [hc] at h0
  exact qw h0 he
 refine⟨h1,?_,hA⟩
 have h2:A*e<=A*U:=Kp h1 hA
 rw [← hc] at h2
 exact o6 h2 hU
theorem bf.toU{t:List Nat}(h:bf K H x (WT L f d t).1 (WT L f d t).2)(hp:0<(WT L f d t).2)(hU:(WT L f d t).2 ∣ U):c8 K H x (wU L f d U t) U:=by
 obtain⟨p,n,e,e0,h1,n0,d0,c1,g1,_⟩:=h
 refine⟨p,n,e,e0,h1,by omega,d0,?_,g1⟩
 have h2:=ou hU
 refine ia (a:=(WT L f d t).2) (by omega) ?_
 grind
inductive ER(K:Frag)(vs:List V)(H:Hp)(Q:VK)(E0x:XK):Prop where
 | mk x y A C U (_:vs=[x,y]) (_:c8 K H x A U) (_:c8 K H y C U) (_:0<U) (_:U<=2^4400) (_:A<=2^9000) (_:C<=2^9000) (_:∀H' z,ak H H'->c8 K H' z (A+C) U->Q z H'):ER K vs H Q E0x
theorem rP(T:Txt K mg t):ar P w K mg base (ay P w) 3 t.pZ t.pI ["one", "other"] (ER K):=by
 refine T.mr.F.okm (k:=2) Gk λcdv A outer s H vs Q E hr h=>?_
 obtain⟨_,_,a,c,U,rfl,⟨p,n,d,rfl,h1,n0,d0,c1,g1⟩,⟨q',m,f,rfl,h2,m0,f0,c2,g2⟩,hU,bU,ba,bc,q⟩:=h
 obtain⟨l1,l2,l3⟩:=jO hU n0 d0 c1 g1
 obtain⟨k1,k2,k3⟩:=jO hU m0 f0 c2 g2
 refine⟨_,(aj (az (pc (jb T) hr T.j1 (a2 (ao aM (ao cP (aK 0) (aK 1)) (ao cP (aK 1) (aK 0))) (ao cP (aK 0) (aK 1)))))),?_⟩
 nofun
 have sm:∀{x:Int} {e:Nat},0<=x->x<=2^e->e<100000->x.natAbs<2^100000:=λh0 h he=>hV h0 h he
 have mo1:fG n f:=eC (sm n0 (aP l2 ba) (by decide)) (sm (by omega) (aP k1 bU) (by decide))
 have mo2:fG m d:=eC (sm m0 (aP k2 bc) (by decide)) (sm (by omega) (aP l1 bU) (by decide))
 have mo3:fG d f:=eC (sm (by omega) (aP l1 bU) (by decide)) (sm (by omega) (aP k1 bU) (by decide))
 have hde:0<d*f:=cK d0 f0
 have hdf:d*f<2^8999:=dC (eY (by omega) (aP l1 bU) (aP k1 bU)) (by decide)
 have p1:0<=n*f:=fW n0 (by omega)
 have p2:0<=m*d:=fW m0 (by omega)
 refine⟨_,rfl,aV h1 rfl ⟨_,rfl,aV h2 rfl (.inl ⟨_,_,rfl,rfl,mo1,_,rfl,aV h2 rfl ⟨_,rfl,aV h1 rfl (.inl ⟨_,_,rfl,rfl,mo2,.inl ⟨_,_,rfl,rfl,?_⟩⟩)⟩⟩)⟩⟩
 refine⟨_,rfl,aV h1 rfl ⟨_,rfl,aV h2 rfl (.inl ⟨_,_,rfl,rfl,mo3,?_⟩)⟩⟩
 refine⟨n*f+m*d,d*f,rfl,λz=>absurd z (by omega),λ_=>⟨gm hde (fJ _) hdf,λr hr0=>?_⟩⟩
 have nc:=iw (t:=n*f+m*d) (b:=d*f) (by omega)
 have dp:=gj (t:=n*f+m*d) (b:=d*f) (by omega)
 have ng:=jH (t:=n*f+m*d) (b:=d*f) (by omega)
 refine q _ _ (bL hr0 _) ⟨r,_,_,rfl,.inl (.inl aA),?_,dp,?_,ng⟩
 ·have h0:0<=cn (n*f+m*d) (d*f)*(d*f):=by rw [nc];exact fW (by omega) (by omega)
  exact qw h0 hde
 ·generalize cn (n*f+m*d) (d*f)=N at *
  generalize cI (n*f+m*d) (d*f)=M at *
  refine ia (a:=d*f) (by omega) ?_
  grind
inductive EV(K:Frag)(vs:List V)(H:Hp)(Q:VK)(E0x:XK):Prop where
 | mk x y A U C D (_:vs=[x,y]) (_:c8 K H x A U) (_:bf K H y C D) (_:0<U) (_:U<=2^4400) (_:C<=2^4400) (_:A<=2^9000) (_:D<=2^9000) (_:∀H' z,ak H H'->c8 K H' z (A*D) (U*C)->Q z H'):EV K vs H Q E0x
theorem Hx(T:Txt K mg t):ar P w K mg base (ay P w) 3 t.vd t.sR ["one", "other"] (EV K):=by
 refine T.CD.F.okm (k:=2) MK λcdv A outer s H vs Q E hr h=>?_
 obtain⟨_,_,a,U,c,e,rfl,⟨p,n,d,rfl,h1,n0,d0,c1,g1⟩,⟨q',m,f,rfl,h2,m0,f0,c2,g2,l3,l4⟩,hU,bU,bc,ba,be,q⟩:=h
 obtain⟨l1,l2,_⟩:=jO hU n0 d0 c1 g1
 refine⟨_,(aj (az (pc (jb T) hr T.j1 (a2 (ao cP (aK 0) (aK 1)) (ao cP (aK 0) (aK 1)))))),?_⟩
 nofun
 have mo1:fG n f:=eC (hV n0 (aP l2 ba) (by decide)) (hV (by omega) (aP l4 be) (by decide))
 have mo2:fG d m:=eC (hV (by omega) (aP l1 bU) (by decide)) (hV (by omega) (aP l3 bc) (by decide))
 have hde:0<d*m:=cK d0 m0
 have hdf:d*m<2^8999:=dC (eY (by omega) (aP l1 bU) (aP l3 bc)) (by decide)
 have p1:0<=n*f:=fW n0 (by omega)
 refine⟨_,rfl,aV h1 rfl ⟨_,rfl,aV h2 rfl (.inl ⟨_,_,rfl,rfl,mo1,?_⟩)⟩⟩
 refine⟨_,rfl,aV h1 rfl ⟨_,rfl,aV h2 rfl (.inl ⟨_,_,rfl,rfl,mo2,?_⟩)⟩⟩
 refine⟨n*f,d*m,rfl,λz=>absurd z (by omega),λ_=>⟨gm hde (fJ _) hdf,λr hr0=>?_⟩⟩
 have nc:=iw (t:=n*f) (b:=d*m) (by omega)
 have dp:=gj (t:=n*f) (b:=d*m) (by omega)
 have ng:=jH (t:=n*f) (b:=d*m) (by omega)
 refine q _ _ (bL hr0 _) ⟨r,_,_,rfl,.inl (.inl aA),?_,dp,?_,ng⟩
 ·have h0:0<=cn (n*f) (d*m)*(d*m):=by rw [nc];exact fW (by omega) (by omega)
  exact qw h0 hde
 ·generalize cn (n*f) (d*m)=N at *
  generalize cI (n*f) (d*m)=M at *
  refine ia (a:=d*m) (by omega) ?_
  grind
theorem Bg(T:Txt K mg t)(H:Hp)(U:Int):c8 K H (.ref t.q_NOUGHT) 0 U:=⟨t.q_NOUGHT,0,1,rfl,.inr T.tc_NOUGHT,by decide,by decide,by rw [o5,o5],by decide⟩
theorem JR(hm:m<=6):∀n:Nat,n<=125->dY m n<=2^(8*n)
 | 0,_=>by show (1:Int)<=1;decide
 | n+1,h=>by
   rw [JQ,show 8*(n+1)=8*n+8 by omega]
   exact eY (by omega) (JR hm n (by omega)) (by show 2*(n:Int)+(m:Int)<=256;omega)
theorem Dr(S:Sm L f d l)(k:List Nat):∀{n:Nat},n<=l.length->(wo L f d l n k).1<=(wo L f d l n k).2
 | 0,_=>by
   have:b8 f d l k 0=false:=rfl
   rw [oq this];exact fJ _
 | n+1,hn=>by
   have ih:=Dr S k (n:=n) (by omega)
   by_cases z:k <+: bg f d l n
   ·have hc:=bq (show n<l.length by omega)
    obtain⟨i,hi⟩:=xJ (S.al _ (jX (show n<l.length by omega)))
    obtain⟨v,h1,_,h3⟩:=qI S.nd z hi hc
    have h4:=sj h1
    have h1M:1<=L.length:=Cp S.fm
    rw [h3]
    obtain⟨a1,b1,_⟩:=qJ S (show n<=l.length by omega) k
    exact iI ih (by omega) (by omega) (by omega)
   ·rw [qK z];exact ih
structure P3(x:Int × Int)(e:Nat):Prop where
 a1:1<=x.1
 ab:x.1<=x.2
 bb:x.2<=2^e
theorem P3.one(e:Nat):P3 (1,1) e:=⟨by decide,by decide,jM e⟩
theorem P3.p2{x:Int × Int}{e:Nat}(h:P3 x e):P2 x e:=⟨h.a1,aP h.a1 h.ab,aP h.ab h.bb,h.bb⟩
theorem P3.mono{x:Int × Int}{e e':Nat}(h:P3 x e)(z:e<=e'):P3 x e':=⟨h.a1,h.ab,aP h.bb (c9 z)⟩
theorem Hg:∀{ab:List (Int × Int)} {es:List Nat},ab.length=es.length->(∀(i:Nat) x e,ab[i]?=some x->es[i]?=some e->P3 x e)->P3 (eN ab) es.sum
 | [],[],_,_=>P3.one 0
 | x::ab,e::es,hl,h=>by
   have h1:=h 0 x e rfl rfl
   have h2:=Hg (ab:=ab) (es:=es) (by simpa using hl) λi y g hy hg=>h (i+1) y g hy hg
   have a1:=h1.a1
   have a2:=h2.a1
   have b1:=h1.ab
   have b2:=h2.ab
   refine⟨?_,?_,?_⟩
   ·show 1<=x.1*(eN ab).1
    exact cK (by omega) (by omega)
   ·show x.1*(eN ab).1<=x.2*(eN ab).2
    exact iI b1 b2 (by omega) (by omega)
   ·show x.2*(eN ab).2<=_
    rw [dA]
    exact eY (by omega) h1.bb h2.bb
 | [],_::_,hl,_=>by cases hl
 | _::_,[],hl,_=>by cases hl
noncomputable def tb(r n:Nat):Nat:=(8+9*r)*n
theorem E1(r:Nat)(g:Nat->Nat):∀L:List Nat,(L.map λc=>tb r (g c)).sum=tb r (L.map g).sum
 | []=>by simp [tb]
 | c::L=>by
   rw [bR,dA,bR,dA,E1 r g L]
   unfold tb
   rw [Nat.mul_add]
theorem Dt(S:Sm L f d l)(hn:n<=l.length)(h125:l.length<=125)(k:List Nat):P3 (wo L f d l n k) (8*(sg f d l k n).length):=by
 obtain⟨a,_⟩:=qJ S hn k
 refine⟨a,Dr S k hn,?_⟩
 have hsum:(aR L f d l k n).sum=(sg f d l k n).length:=oI S.nd S.al _ hn
 have hle:(sg f d l k n).length<=n:=j7 ..
 unfold wo
 rw [hsum]
 exact JR S.l6 _ (by omega)
theorem QT{a b:Int × Int}{e s:Nat}(hs:1<=s)(ha:P3 a (8*s))(hb:P3 b e):P3 (lB a b) (e+9*s):=by
 have a1:=ha.a1
 have b1:=hb.a1
 have a2:=ha.ab
 have b2:=hb.ab
 have m1:a.1*b.2<=a.2*b.2:=fI a2 (by omega)
 have m2:b.1*a.2<=a.2*b.2:=by rw [cS a.2];exact fI b2 (by omega)
 have p1:0<a.1*b.2:=cK (by omega) (by omega)
 have p2:0<b.1*a.2:=cK (by omega) (by omega)
 have q:=eY (by omega) ha.bb hb.bb
 refine⟨?_,?_,?_⟩
 ·show 1<=a.1*b.2+b.1*a.2;omega
 ·show a.1*b.2+b.1*a.2<=2*(a.2*b.2);omega
 ·show 2*(a.2*b.2)<=_
  have q2:=eY (x:=2) (a:=1) (by have:=cK (show 0<a.2 by omega) (show 0<b.2 by omega);omega) (by decide) q
  exact aP q2 (c9 (by omega))
theorem Ls(S:Sm L f d l)(hn:n<=l.length)(h125:l.length<=125):∀r k,k.length+r=d->P3 (wv L f d l n r k) (tb r (sg f d l k n).length):=by
 intro r
 induction r with
 | zero=>intro k _;exact(Dt S hn h125 k).mono (by unfold tb;omega)
 | succ r ih =>
   intro k hk
   cases z:b8 f d l k n with
   | false=>rw [k8 z];exact P3.one _
   | true =>
     rw [kU z]
     have:=Hg (ab:=L.map λc=>wv L f d l n r (k++[c])) (es:=L.map λc=>tb r (sg f d l (k++[c]) n).length) (by simp) λi x e hx he=>by
      rw [bS] at hx he
      cases hc:L[i]? with
      | none=>rw [hc] at hx;cases hx
      | some c=>rw [hc] at hx he;cases hx;cases he;exact ih _ (by rw [aq];show _+1+_=_;omega)
     rw [E1,yx S.nd S.fm S.al (by omega) n hn] at this
     exact(QT (mH z) (Dt S hn h125 k) this).mono (by unfold tb;rw [show 8+9*(r+1)=(8+9*r)+9 by omega,jS (8+9*r) 9];exact aI _)
inductive El(K:Frag)(C:Addr)(vs:List V)(H:Hp)(Q:VK)(E0x:XK):Prop where
 | mk (p tb rp fr:Addr) (f:Nat) (L:List Nat) (d:Nat) (t:List Nat) (B x:Nat) (U:Int) (_:vs=[.ref p,vt [x]]) (_:GO K C p tb rp fr H f L d t t.length B) (_:x ∈ f::L) (_:(∀c ∈ f::L,Sm (f::L) f d (t++[c]))) (_:(∀c ∈ f::L,(WT (f::L) f d (t++[c])).2 ∣ U)) (_:0<U) (_:U<=2^4400) (_:(∀c ∈ f::L,0<=wU (f::L) f d U (t++[c])/\wU (f::L) f d U (t++[c])<=2^8900)) (_:∀z H',ak H H'->c8 K H' z (aN (f::L) f d U t x) U->Q z H'):El K C vs H Q E0x
theorem yp{g:Nat->Int}(hb:0<=b):∀{L:List Nat},(∀c ∈ L,g c<=b)->(L.map g).sum<=L.length*b
 | [],_=>by show (0:Int)<=((0:Nat):Int)*b;rw [Int.natCast_zero,o5];exact fJ _
 | c::L,h=>by
   rw [bR,dA,d8]
   have h1:=h c bO
   have h2:=yp hb (L:=L) λc' h'=>h c' (df _ h')
   rw [Int.natCast_add,eL]
   have:((1:Nat):Int)*b=b:=by rw [Int.natCast_one,mq]
   omega
theorem Qe(T:Txt K mg t):ar P w K mg base (ay P w) 8 t.wL t.ux ["growth", "sign"] (El K t.aS):=by
 refine T.L7.F.okm (k:=7) oM λcdv A outer s H vs Q E hr h=>?_
 obtain⟨p,tb,rp,fr,f,L,d,tt,B,x,U,rfl,G,hx,Sc,hdv,hU,bU,hw,q⟩:=h
 have l6:=(Sc x hx).l6
 have nd:=(Sc x hx).nd
 have zL:(f::L).length<=sizeLine:=by rw [sizeLine_eq];omega
 obtain⟨dx,ob⟩:=G.ob
 have fa:=bX (dQ p tb rp H) G.fa
 refine⟨_,(ag (aC 2 oM.nd (cA (cB (pv 0) rfl) aw)) (ag (aC 3 oM.nd (ja (v:=.ref t.q_NOUGHT) rfl T.Bt rfl)) (ag (cW cR rfl (di (ez ei (pv 2) fO (dv (fh hZ qf xm pf (pv 2) (a1 (pv 1)))))) (bB 4 oM.nd) (aj (aC 3 oM.nd (pc (rP T) hr T.mr (a2 (pv 3) (cO (pv 0) T.bY T.D8 (HU T) hr (a1 (pv 4)))))))) (aj (az (pv 3)))))),?_⟩
 nofun
 refine⟨_,rfl,p,_,dx,_,_,rfl,ob,T.bY,T.na_Growth_frame,nC _ _ _ _,aV fa rfl ?_⟩
 refine⟨_,rfl,_,rfl,rfl,_,rfl,f::L,x,rfl,rfl,hx,λj hj=>⟨_,rfl,.inr (eF zL ?_)⟩⟩
 rw [pP,mR nd hj]
 refine .inr (.inr ⟨_,rfl,?_⟩)
 refine fD (fw (pre (f::L) x)) (λi σ H'=>∃v r4,σ=[some (.ref p),some (vt [x]),some (vt (f::L)),some v,r4]/\ak H H'/\c8 K H' v (((pre (f::L) x).take i).map λc=>wU (f::L) f d U (tt++[c])).sum U) ⟨_,_,rfl,ak.refl _,Bg T H U⟩ (λ_ _ _ _ _=>trivial) ?_ ?_
 ·rintro i y _ H1 hy ⟨v,r4,rfl,g,hv⟩
  obtain⟨c,hc,rfl⟩:=fL hy
  have hcm:=kx (eU hc)
  have hpl:(pre (f::L) x).length<=6:=by
   rw [← mR nd hj,dM];omega
  obtain⟨w0,w1⟩:=hw c hcm
  have hs:=yp (b:=(2:Int)^8900) (L:=(pre (f::L) x).take i) (g:=λc=>wU (f::L) f d U (tt++[c])) (aP (by decide) (jM 8900)) λc hc=>(hw c (kx (nU hc))).2
  have hs2:(((pre (f::L) x).take i).map λc=>wU (f::L) f d U (tt++[c])).sum<=2^9000:=by
   refine aP hs ?_
   have h1:((((pre (f::L) x).take i).length:Nat):Int)<=2^3:=by rw [dM];omega
   exact aP (eY (aP (by decide) (jM 8900)) h1 (fJ _)) (c9 (by decide))
  refine⟨_,rfl,_,rfl,p,dx,_,rfl,g _ _ ob,(fk _ _ _ _).2.2.2.2.2.2,_,rfl,p,tb,rp,fr,f,L,d,tt++[c],tt.length,B,c,rfl,(G.same g).more [c],Sc c hcm,by simp,λz H2 s2 hz=>?_⟩
  have hz':bf K H2 z (WT (f::L) f d (tt++[c])).1 (WT (f::L) f d (tt++[c])).2:=by unfold WT;rw [aq];exact hz
  have hb1:0<(WT (f::L) f d (tt++[c])).2:=by have:=(oo (Sc c hcm) (aI _) d [] (by simp)).b1;show 0<(wv (f::L) f d (tt++[c]) (tt++[c]).length d []).2;omega
  refine⟨v,z,_,_,U,rfl,hv.same s2,hz'.toU hb1 (hdv c hcm),hU,bU,hs2,aP w1 (c9 (by decide)),λH3 y3 s3 hy3=>?_⟩
  refine⟨y3,_,rfl,g.trans (s2.trans s3),?_⟩
  rw [i6,hc,gv,ql]
  show c8 K H3 y3 (_+(wU (f::L) f d U (tt++[c])+0)) U
  rw [ib];exact hy3
 ·rintro _ H1 ⟨v,r4,rfl,g,hv⟩
  rw [aT,fH] at hv
  exact⟨_,rfl,q v H1 g hv⟩
structure Sp(L:List Nat)(f d N:Nat):Prop where
 nd:L.Nodup
 l6:L.length<=6
 fm:f ∈ L
 d6:d<=6
 ll:N<=125
 lw:wb d N<=8900
 lb:tb d N<=4400
theorem Sp.sm(h:Sp L f d N){t:List Nat}(ht:t.length<=N)(hc:∀c ∈ t,c ∈ L):Sm L f d t:=⟨h.nd,h.l6,h.fm,h.d6,by have:=h.ll;omega,c7 (by unfold wb;exact Ck _ ht) h.lw,hc⟩
theorem Sp.p3(h:Sp L f d N){t:List Nat}(ht:t.length<=N)(hc:∀c ∈ t,c ∈ L):P3 (WT L f d t) (tb d t.length):=(Ls (h.sm ht hc) (aI _) (c7 ht h.ll) d [] (by simp)).mono (by unfold tb;exact Ck _ (j7 ..))
theorem Sp.p2(h:Sp L f d N){t:List Nat}(ht:t.length<=N)(hc:∀c ∈ t,c ∈ L):P2 (WT L f d t) 4400:=(h.p3 ht hc).p2.mono (c7 (by unfold tb;exact Ck _ ht) h.lb)
theorem Sp.gd(h:Sp L f d N):Gd L f d N:=⟨h.nd,h.fm,λt ht hc=>by have:=h.p2 ht hc;have a:=this.a1;have b:=this.b1;exact⟨by omega,by omega⟩⟩
theorem Sp.wU_le(h:Sp L f d N){t:List Nat}(ht:t.length<=N)(hc:∀c ∈ t,c ∈ L)(hU:0<U)(bU:U<=2^4400):0<=wU L f d U t/\wU L f d U t<=2^8800:=by
 have g:=h.p2 ht hc
 refine⟨yj h.gd (by omega) ht hc,?_⟩
 have h0:=Int.ediv_nonneg (a:=U) (b:=(WT L f d t).2) (by omega) (by have:=g.b1;omega)
 have h1:U / (WT L f d t).2<=U:=Int.ediv_le_self _ (by omega)
 exact eY h0 g.ab (aP h1 bU)
theorem _root_.L2.FunD.okn{x qual:Str}{st:Stmt}{f:Addr}{fd:FuncData}{N ps:List Str}{k:Nat}{sp:L2.Sp}(F:FunD K x qual st f fd D)(S:aF N ps (ax st))(len:∀vs H Q E,sp vs H Q E->vs.length=ps.length)
 (hbody:∀(cdv:Value) (A:Around) (outer:List Env) (s:Shared) (H:Hp) (vs:List V) (Q:VK) (E:XK),cb k (A.deeper (envOfC qual (ax st) s.heap.objs.size f cdv))->sp vs H Q E->
  ∃t,eJ (iD (ay P w) P w K mg base N qual (ax st) f cdv A outer s H E).nox (dJ st) t/\t { nx:=λ_ H'=>Q .non H',rt:=Q } (L2.start N vs) H):ar P w K mg base (ay P w) (k+1) f fd ps sp:=by
 refine F.okx S len λcdv A outer s H vs Q E hr hsp=>?_
 obtain⟨t,h,q⟩:=hbody cdv A outer s H vs Q E hr hsp
 exact⟨t,h.nox,q⟩
theorem BE{tb:Addr}(h:∀b o,H b=some o->b ≠ p->b ≠ tb->b ≠ rp->H' b=some o):ak (off p tb rp H) (off p tb rp H'):=λb o e=>by
 unfold Bp.off at e ⊢
 split at e
 ·cases e
 ·rename_i z
  rw [if_neg z]
  exact h b o e (λy=>z (.inl y)) (λy=>z (.inr (.inl y))) (λy=>z (.inr (.inr y)))
theorem iX.fru{t:Addr}(T3:iX C p t r H)(h:c8 K H x A U):c8 K (off p t r H) x A U:=by
 obtain⟨q,n,d,e,h1,h2⟩:=h
 exact⟨q,n,d,e,T3.tup h1,h2⟩
noncomputable def xi(K:Frag)(H:Hp)(z1 z2:V)(L:List Nat)(f d:Nat)(ah l:List Nat):Prop :=
 c8 K H z1 (cf L f d (WT L f d (ah++l)).2 ah l*(WT L f d ah).2) ((WT L f d (ah++l)).2*(WT L f d ah).1)/\c8 K H z2 (wU L f d (WT L f d (ah++l)).2 (ah++l)*(WT L f d ah).2) ((WT L f d (ah++l)).2*(WT L f d ah).1)
theorem xi.same{z1 z2:V}{ah:List Nat}(h:xi K H z1 z2 L f d ah l)(s:ak H H'):xi K H' z1 z2 L f d ah l:=⟨h.1.same s,h.2.same s⟩
inductive EH(K:Frag)(vs:List V)(H:Hp)(Q:VK)(E0x:XK):Prop where
 | mk (fr:Addr) (f:Nat) (L:List Nat) (d:Nat) (l ah:List Nat) (_:vs=[.ref fr,vt l,vt ah]) (_:aG K H fr [vt (f::L),.int d]) (_:(∀c ∈ ah,c ∈ f::L)) (_:(∀c ∈ l,c ∈ f::L)) (_:Bp.Sp (f::L) f d (ah++l).length) (_:∀H' r z1 z2,ak H H'->H' r=some (.tup [z1,z2])->xi K H' z1 z2 (f::L) f d ah l->Q (.ref r) H'):EH K vs H Q E0x
theorem Pl(T:Txt K mg t):ar P w K mg base (ay P w) 9 t.lT t.sP ["frame", "text", "ahead"] (EH K):=by
 refine T.F_span.okn (k:=8) mI (λvs H Q E h=>?_) (λcdv A outer s H vs Q E hr h=>?_)
 ·obtain⟨fr,f,L,d,l,ah,rfl,_⟩:=h;rfl
 obtain⟨fr,f,L,d,l,ah,rfl,hF,ha,hl,P0,q⟩:=h
 refine⟨_,(ag (fg (pc (oX T) hr T.o7 (a2 (pv 0) (pv 2)))) (ag (fg (pc (oX T) hr T.o7 (a2 (pv 0) (pv 1)))) (ag (aC 3 mI.nd (pc (B6 T) hr T.xV (a2 (pv 0) (pv 2)))) (ag (aC 4 mI.nd (il (pv 3) T.bY T.oe (p6 T) hr)) (ag (aC 5 mI.nd (ja (v:=.ref t.q_NOUGHT) rfl T.Bt rfl)) (ag (cW cR rfl (di (pv 1)) (bB 6 mI.nd) (ag (aC 5 mI.nd (pc (rP T) hr T.mr (a2 (pv 5) (pc (Qe T) hr T.L7 (a2 (pv 3) (pv 6)))))) (aj (fg (cO (pv 3) T.bY T.qD (rS T) hr (a1 (pv 6))))))) (aj (az (fB (a2 (pc (Hx T) hr T.CD (a2 (pv 5) (pv 4))) (pc (Hx T) hr T.CD (a2 (il (pv 3) T.bY T.oe (p6 T) hr) (pv 4))))))))))))),?_⟩
 nofun
 refine⟨_,rfl,_,rfl,fr,f::L,_,ah,rfl,hF,ha,?_⟩
 refine⟨_,rfl,_,rfl,fr,f::L,_,l,rfl,hF,hl,?_⟩
 have hT:∀c ∈ ah++l,c ∈ f::L:=λc hc=>by
  rcases cD.mp hc with z | z
  ·exact ha c z
  ·exact hl c z
 have hTl:(ah++l).length=ah.length+l.length:=aq
 have gd:=P0.gd
 have pT:=P0.p2 (t:=ah++l) (aI _) hT
 have pA:=P0.p2 (t:=ah) (by omega) ha
 have l6:=P0.l6
 have ST:=P0.sm (t:=ah++l) (aI _) hT
 have SA:=P0.sm (t:=ah) (by omega) ha
 have hU0:0<(WT (f::L) f d (ah++l)).2:=by have:=pT.b1;omega
 have hUb:=pT.bb
 generalize hU:(WT (f::L) f d (ah++l)).2=U at hU0 hUb
 have hll:=P0.ll
 have hd6:=P0.d6
 refine⟨_,rfl,_,rfl,fr,f,L,d,ah,rfl,hF,SA,λg tb rp H1 s1 ng ntb nrp G1=>?_⟩
 obtain⟨dx,ob1⟩:=G1.ob
 refine⟨_,rfl,g,dx,_,rfl,ob1,(fk _ _ _ _).2.2.2.1,g,tb,rp,fr,f,L,d,ah,ah.length,_,rfl,G1,by omega,λwh H2 s2 hwh=>?_⟩
 have G2:=(G1.same s2).more l
 have s02:=s1.trans s2
 have hB0:ah.length*(d+1)<=2000:=c7 (md (show ah.length<=150 by omega) (show d+1<=7 by omega)) (by decide)
 generalize ah.length*(d+1)=B0 at G2 hB0
 refine⟨_,rfl,.inr (.inr ⟨_,rfl,?_⟩)⟩
 refine fD (fw l) (λi σ H'=>∃low r6 B,σ=[some (.ref fr),some (vt l),some (vt ah),some (.ref g),some wh,some low,r6]/\ak H H'/\GO K t.aS g tb rp fr H' f L d (ah++l) (ah.length+i) B/\B<=2000+7*i/\bf K (off g tb rp H') wh (WT (f::L) f d ah).1 (WT (f::L) f d ah).2/\c8 K (off g tb rp H') low (cf (f::L) f d U ah (l.take i)) U)
  ⟨_,_,B0,rfl,s02,G2,by omega,G2.three.fr hwh,Bg T _ U⟩ (λ_ _ _ _ _=>trivial) ?_ ?_
 ·rintro i x _ H3 hx ⟨low,r6,B,rfl,s3,G3,hB,k1,k2⟩
  obtain⟨c,hc,rfl⟩:=fL hx
  have hi:=(bh.mp hc).1
  have hcL:=hl c (eU hc)
  have sub3:=dQ g tb rp H3
  have et:ah++l=(ah++l.take i)++l.drop i:=by rw [gA,kO]
  have elen:(ah++l.take i).length=ah.length+i:=by rw [aq,dM];omega
  have hti:∀y ∈ ah++l.take i,y ∈ f::L:=λy hy=>by
   rcases cD.mp hy with z | z
   ·exact ha y z
   ·exact hl y (nU z)
  have htc:∀c' ∈ f::L,∀y ∈ ah++l.take i++[c'],y ∈ f::L:=λc' hc' y hy=>by
   rcases cD.mp hy with z | z
   ·exact hti y z
   ·cases bx.mp z
    exact hc'
  have hlen:∀c':Nat,(ah++l.take i++[c']).length<=(ah++l).length:=λc'=>by rw [aq,elen,hTl];show _+1<=_;omega
  have etc:ah++l=(ah++l.take i)++c::l.drop (i+1):=by
   rw [et];congr 1
   rw [← List.getElem_cons_drop hi]
   rw [bq hi] at hc
   cases hc;rfl
  have hdv:∀c' ∈ f::L,(WT (f::L) f d (ah++l.take i++[c'])).2 ∣ U:=λc' hc'=>gd.div (t:=ah++l.take i) (x:=c) (xs:=l.drop (i+1)) (by rw [← etc];exact hT) hc' (by rw [← etc,hU];exact gB _)
  have Gt:GO K t.aS g tb rp fr H3 f L d (ah++l.take i) (ah++l.take i).length B:=by
   rw [elen]
   rw [et] at G3
   exact(CA (by rw [elen];exact aI _)).mp G3
  have hdi:(WT (f::L) f d (ah++l.take i)).2 ∣ U:=by
   have:=nK (f:=f) (d:=d) gd.nd (t:=ah++l.take i) (x:=l.drop i) (by rw [← et];exact hT)
   rw [← et,hU] at this;exact this
  have hlow:=kD gd (cx hU0) (l.take i) ah (by rw [elen,hTl];omega) hti hdi
  have hwa:=P0.wU_le (t:=ah) (by omega) ha hU0 hUb
  have hwi:=P0.wU_le (t:=ah++l.take i) (by rw [elen,hTl];omega) hti hU0 hUb
  refine⟨_,rfl,_,rfl,_,rfl,g,tb,rp,fr,f,L,d,ah++l.take i,B,c,U,rfl,Gt,hcL,λc' hc'=>P0.sm (hlen c') (htc c' hc'),hdv,hU0,hUb,λc' hc'=>?_,λz H4 s4 hz=>?_⟩
  ·have:=P0.wU_le (hlen c') (htc c' hc') hU0 hUb
   exact⟨this.1,aP this.2 (c9 (by decide))⟩
  have hai:aN (f::L) f d U (ah++l.take i) c<=2^9000:=by
   have h1:=kD gd (cx hU0) [c] (ah++l.take i) (hlen c) (htc c hcL) (hdv c hcL)
   have h2:=(P0.wU_le (hlen c) (htc c hcL) hU0 hUb).1
   have h3:cf (f::L) f d U (ah++l.take i) [c]=aN (f::L) f d U (ah++l.take i) c:=by show _+0=_;rw [ib]
   rw [h3] at h1
   exact aP (show _<=wU (f::L) f d U (ah++l.take i) by omega) (aP hwi.2 (c9 (by decide)))
  refine⟨low,z,_,_,U,rfl,(k2.same sub3).same s4,hz,hU0,hUb,aP (show _<=wU (f::L) f d U ah by omega) (aP hwa.2 (c9 (by decide))),hai,λH5 y s5 hy=>?_⟩
  have s35:=s4.trans s5
  have G5:=G3.same s35
  obtain⟨d5,ob5⟩:=G5.ob
  refine⟨_,rfl,g,d5,_,rfl,ob5,(fk _ _ _ _).2.2.2.2.1,_,rfl,g,tb,rp,fr,f,L,d,ah++l,ah.length+i,B,c,rfl,G5,ST,by rw [iG (by omega),Nat.add_sub_cancel_left];exact hc,by omega,λH6 G6 k6=>?_⟩
  refine⟨y,_,_,rfl,λb o e=>k6 b o (s35 b o (s3 b o e)) (bQ e ng) (bQ e ntb) (bQ e nrp),G6,by omega,(k1.same (gZ s35)).same (BE k6),?_⟩
  rw [i6,hc,show (some c).toList=[c] from rfl,By]
  show c8 K _ y (_+(aN (f::L) f d U (ah++l.take i) c+0)) U
  rw [ib]
  exact(G5.three.fru hy).same (BE k6)
 ·rintro _ H3 ⟨low,r6,B,rfl,s3,G3,hB,k1,k2⟩
  rw [aT,fH] at k2
  rw [aT,← hTl] at G3
  have sub3:=dQ g tb rp H3
  obtain⟨d3,ob3⟩:=G3.ob
  have hlow:=kD gd (cx hU0) l ah (aI _) hT (by rw [hU];exact gB _)
  have hwa:=P0.wU_le (t:=ah) (by omega) ha hU0 hUb
  have hwT:=P0.wU_le (t:=ah++l) (aI _) hT hU0 hUb
  refine⟨_,rfl,_,rfl,low,wh,_,U,_,_,rfl,k2.same sub3,k1.same sub3,hU0,hUb,pA.ab,aP (show _<=wU (f::L) f d U ah by omega) (aP hwa.2 (c9 (by decide))),aP pA.bb (c9 (by decide)),λH4 z1 s4 hz1=>?_⟩
  refine⟨_,rfl,g,d3,_,rfl,s4 _ _ ob3,(fk _ _ _ _).2.2.2.1,g,tb,rp,fr,f,L,d,ah++l,(ah++l).length,B,rfl,G3.same s4,by omega,λy H5 s5 hy=>?_⟩
  have hy':c8 K H5 y (wU (f::L) f d U (ah++l)) U:=bf.toU hy (by rw [hU];exact hU0) (by rw [hU];exact gB _)
  refine⟨_,rfl,y,wh,_,U,_,_,rfl,hy',((k1.same sub3).same s4).same s5,hU0,hUb,pA.ab,aP hwT.2 (c9 (by decide)),aP pA.bb (c9 (by decide)),λH6 z2 s6 hz2=>?_⟩
  refine⟨by rw [sizeLine_eq];show 2<=_;decide,λr hr0=>?_⟩
  have s7:=bL hr0 (.tup [z1,z2])
  refine q _ r z1 z2 (s3.trans (s4.trans (s5.trans (s6.trans s7)))) aA ⟨?_,?_⟩
  ·rw [hU];exact((hz1.same s5).same s6).same s7
  ·rw [hU];exact hz2.same s7
noncomputable def eP(c:Nat):Bool:=decide (c ∈ [48,49])
noncomputable def bI(l:List Nat):Int:=l.foldl (λa c=>a*2+if c=49 then 1 else 0) 0
theorem ox(l:List Nat)(c:Nat):bI (l++[c])=bI l*2+if c=49 then 1 else 0:=by unfold bI;rw [List.foldl_append];rfl
theorem GF{α:Type}{p:List α->Prop}(h0:p [])(h1:∀l c,p l->p (l++[c])):∀l,p l:=by
 intro l
 have:∀n (l:List α),l.length=n->p l:=by
  intro n
  induction n with
  | zero=>intro l h;cases l with
    | nil=>exact h0
    | cons _ _=>cases h
  | succ n ih =>
    intro l h
    have hne:l ≠ []:=by intro z;subst z;cases h
    rw [← List.dropLast_concat_getLast hne]
    exact h1 _ _ (ih _ (by rw [List.length_dropLast];omega))
 exact this _ l rfl
theorem qP(l:List Nat):0<=bI l/\bI l<2^l.length:=by
 refine GF (p:=λl=>0<=bI l/\bI l<2^l.length) ?_ ?_ l
 ·decide
 ·intro l c ⟨h0,h1⟩
  rw [ox,aq,show [c].length=1 from rfl,xR]
  split<;>omega
theorem E9:V.str (Str.ofString "01")=vt [48,49]:=congrArg V.str (by decide +kernel)
theorem Mt:V.str (Str.ofString "1")=vt [49]:=congrArg V.str (by decide +kernel)
theorem mE(m:Nat):(0:Int)<2^m:=Int.pow_pos (by decide)
theorem kb(m:Nat):(2:Int)^(m+1)=2^m*2:=xR ..
theorem LB(c:Nat)(l:List Nat):bI (c::l)=(if c=49 then 1 else 0)*2^l.length+bI l:=by
 have go:∀(l:List Nat) (a:Int),l.foldl (λa c=>a*2+if c=49 then 1 else 0) a=a*2^l.length+l.foldl (λa c=>a*2+if c=49 then 1 else 0) 0:=by
  intro l
  induction l with
  | nil=>intro a;show a=a*1+0;omega
  | cons d l ih =>
    intro a
    rw [nV,nV,ih,ih (0*2+_),d8,kb,eL,o5,qv,cg,cS 2 (2^l.length),xT]
 unfold bI
 rw [nV,go l,o5,qv]
inductive Es(vs:List V)(H:Hp)(Q:VK)(E0x:XK):Prop where
 | mk (n:Int) (m:Nat) (_:vs=[.int n,.int m]) (_:0<=n) (_:n<2^m) (_:m<=9000) (_:∀(l:List Nat) H',ak H H'->l.length=m->l.all eP=true->bI l=n->Q (vt l) H'):Es vs H Q E0x
theorem Jd(n:Int):n.fdiv 2=n / 2:=Kq _ (by decide)
theorem HQ(T:Txt K mg t):ar P w K mg base (ay P w) 1 t.wM t.uy ["number", "many"] Es:=by
 refine T.D5.F.okm (k:=0) rD λcdv A outer s H vs Q E hr h=>?_
 obtain⟨n,m,rfl,n0,nm,hm,q⟩:=h
 refine⟨_,(ag (aC 2 rD.nd (jC lp)) (ag (cW cR rfl (ky rfl T.iQ (a1 (pv 1))) (bB 3 rD.nd) (ag (fg (fh nL qg qe mZ (pv 2) (a1 (cA aO (ao dP (pv 0) aw))))) (aj (aC 0 rD.nd (ao oV (pv 0) aw))))) (aj (az (OD rfl rfl T.Io JM aO (pv 2)))))),?_⟩
 nofun
 refine⟨by decide,λl0 hl0=>?_⟩
 ac_rfl
 refine⟨by omega,by omega,?_⟩
 refine kI (λi σ H'=>∃(bs:List Nat) (k:Int) (r:Option V),σ=[some (.int k),some (.int (m:Int)),some (.ref l0),r]/\ak H H'/\H' l0=some (.lst ((bs.map λc=>[c]).map vt))/\bs.length=i/\bs.all eP=true/\0<=k/\n=bI bs.reverse+2^i*k)
  ⟨[],n,_,rfl,bL hl0 _,aA,rfl,rfl,n0,by show n=0+1*n;omega⟩ ?_ ?_
 ·rintro i _ H1 hi ⟨bs,k,r,rfl,g1,e1,hbl,hB,k0,hn⟩
  rw [eK] at hi
  have m1:=gS k (show (2:Int) ≠ 0 by decide)
  have m2:=ju k (show (0:Int)<2 by decide)
  have hk:=Int.mul_ediv_add_emod k 2
  have step:∀c:Nat,eP c=true->(if c=49 then 1 else 0)=k % 2->(bs++[c]).length=i+1/\(bs++[c]).all eP=true/\0<=k.fdiv 2/\n=bI (bs++[c]).reverse+2^(i+1)*k.fdiv 2:=by
   intro c hc hck
   refine⟨by rw [aq,hbl];rfl,by rw [List.all_append,hB];simpa using hc,by rw [Jd];omega,?_⟩
   rw [List.reverse_append,List.reverse_singleton,List.singleton_append,LB,i9,hbl,hck,hn,kb,Jd]
   have e2:(2:Int)^i*k=2^i*(2*(k / 2)+k % 2):=by rw [hk]
   rw [e2,Int.mul_add,cS (k % 2),← cg]
   omega
  have zb:((bs.map λc=>[c]).map vt).length<sizeLine:=by rw [aT,aT,sizeLine_eq];omega
  refine⟨_,rfl,kX (aD.of e1),?_⟩
  ac_rfl
  rw [E9]
  have hc:k % 2=0\/k % 2=1:=by omega
  rcases hc with e | e
  ·refine gH (l:=[48,49]) (by decide) (show dz [48,49] (k % 2)=some 48 by rw [e];rfl) ?_
   refine⟨l0,_,_,rfl,rfl,e1,zb,?_⟩
   ac_rfl
   refine⟨bs++[48],_,_,rfl,jF hl0 g1,?_,step 48 rfl (by rw [e];rfl)⟩
   rw [aA,gv,gv];rfl
  ·refine gH (l:=[48,49]) (by decide) (show dz [48,49] (k % 2)=some 49 by rw [e];rfl) ?_
   refine⟨l0,_,_,rfl,rfl,e1,zb,?_⟩
   ac_rfl
   refine⟨bs++[49],_,_,rfl,jF hl0 g1,?_,step 49 rfl (by rw [e];rfl)⟩
   rw [aA,gv,gv];rfl
 ·rintro _ H1 ⟨bs,k,r,rfl,g1,e1,hbl,hB,k0,hn⟩
  rw [eK] at hbl hn
  refine⟨[],E8,_,rfl,l0,bs.map λc=>[c],rfl,aD.of e1,⟨by rw [BM];omega,by rw [aT];omega,by decide⟩,?_⟩
  rw [v7,← List.map_reverse,BM]
  refine q _ _ g1 (by rw [i9];exact hbl) (by rw [List.all_reverse];exact hB) ?_
  have hv:=(qP bs.reverse).1
  have kz:k=0:=by
   by_cases z:k=0
   ·exact z
   ·exfalso
    have:(2:Int)^m*1<=2^m*k:=Kp (by omega) (cx (mE m))
    omega
  rw [hn,kz,Int.mul_zero,ib]
theorem Tu{n d:Int}(hd:0<d):n<=(n+d-1).fdiv d*d/\((n+d-1).fdiv d-1)*d<n:=by
 rw [Kq _ (by omega)]
 have h1:=Int.mul_ediv_add_emod (n+d-1) d
 have h2:=gS (n+d-1) (show d ≠ 0 by omega)
 have h3:=ju (n+d-1) hd
 rw [cS] at h1
 generalize (n+d-1) / d=x at *
 rw [Int.sub_mul,mq]
 omega
inductive Fs(K:Frag)(vs:List V)(H:Hp)(Q:VK)(E0x:XK):Prop where
 | mk (p:Addr) (a b pt:Int) (_:vs=[.ref p,.int pt]) (_:aG K H p [.int a,.int b]) (_:0<b) (_:b.natAbs<2^8999) (_:a.natAbs<2^20000) (_:pt.natAbs<2^20000) (_:∀x:Int,a*pt<=x*b->(x-1)*b<a*pt->Q (.int x) H):Fs K vs H Q E0x
theorem HM(T:Txt K mg t):ar P w K mg base (ay P w) 1 t.wu t.ue ["low", "parts"] (Fs K):=by
 refine T.CY.F.okm (k:=0) Nf λcdv A outer s H vs Q E hr h=>?_
 obtain⟨p,a,b,pt,rfl,e0,b0,bb,ba,bp,q⟩:=h
 refine⟨_,(aj (az (ao oV (ao lq (ao aM (ao cP (aK 0) (pv 1)) (aK 0)) aw) (aK 0)))),?_⟩
 nofun
 refine⟨_,rfl,aV e0 rfl ⟨_,rfl,.inl ⟨_,_,rfl,rfl,eC (bJ ba (by decide)) (bJ bp (by decide)),_,rfl,aV e0 rfl (.inl ⟨_,_,rfl,rfl,_,_,rfl,rfl,_,rfl,aV e0 rfl ⟨_,_,rfl,rfl,⟨by omega,bb⟩,?_⟩⟩)⟩⟩⟩
 obtain⟨c1,c2⟩:=Tu (n:=a*pt) b0
 exact q _ c1 c2
theorem nF{a p x:Int}(hb:0<b)(hW:0<W)(e:a*W=lo*b):a*p<=x*b ↔ lo*p<=x*W:=by
 have e1:a*p*W=lo*p*b:=by rw [ff,e,ff]
 constructor
 ·intro h
  have h1:=fI h (cx hW)
  rw [e1,ff x b W] at h1
  exact o6 h1 hb
 ·intro h
  have h1:=fI h (cx hb)
  rw [← e1,ff x W b] at h1
  exact o6 h1 hW
theorem C1{a p x:Int}(hb:0<b)(hW:0<W)(e:a*W=lo*b):x*b<a*p ↔ x*W<lo*p:=by
 have:=nF (p:=p) (x:=x) hb hW e
 omega
noncomputable def jr(lo wi W:Int)(m:Nat):Prop:=∀x:Int,lo*2^m<=x*W->(lo+wi)*2^m<(x+1)*W
structure eh(lo wi W:Int)(l:List Nat):Prop where
 len:l.length<=4402
 all:l.all eP=true
 low:lo*2^l.length<=bI l*W
 fst:(bI l-1)*W<lo*2^l.length
 hig:(bI l+1)*W<=(lo+wi)*2^l.length
 few:l.length=0\/jr lo wi W (l.length-1)
 sml:wi*2^l.length<4*W
inductive FK(K:Frag)(vs:List V)(H:Hp)(Q:VK)(E0x:XK):Prop where
 | mk (x y:V) (W lo wi:Int) (_:vs=[x,y]) (_:c8 K H x lo W) (_:c8 K H y wi W) (_:0<W) (_:W<2^4400) (_:0<=lo) (_:0<wi) (_:lo+wi<=W) (_:∀(l:List Nat) H',ak H H'->eh lo wi W l->Q (vt l) H'):FK K vs H Q E0x
theorem QF{wi:Int}(h:wi*2^m<W):jr lo wi W m:=λx hx=>by
 rw [eL,eL,mq];omega
theorem nh{x y p:Int}(hW:0<W)(h:(x-1)*W<lo*p)(hy:lo*p<=y*W):x<=y:=by
 have:(x-1)*W<y*W:=by omega
 have:=Cz this (cx hW)
 omega
theorem PL(T:Txt K mg t):ar P w K mg base (ay P w) 4 t.vA t.tq ["low", "width"] (FK K):=by
 refine T.KG.F.okm (k:=3) ke λcdv A outer s H vs Q E hr h=>?_
 obtain⟨_,_,W,lo,wi,rfl,F1,F2,W0,W1,lo0,wi0,hle,k⟩:=h
 have F1':=F1
 have F2':=F2
 obtain⟨p,a,b,rfl,h1,a0,b0,ea,ga⟩:=F1'
 obtain⟨q,c,e,rfl,h2,c0,e0,ec,gc⟩:=F2'
 obtain⟨bb,ba,_⟩:=jO W0 a0 b0 ea ga
 obtain⟨be,bc,_⟩:=jO W0 c0 e0 ec gc
 have W44:W<=2^4400:=cx W1
 have up:(2:Int)^4400<=2^9000:=c9 (by decide)
 refine⟨_,(ag (aC 2 ke.nd (pc (rP T) hr T.mr (a2 (pv 0) (pv 1)))) (ag (aC 3 ke.nd aw) (ag (aC 4 ke.nd aw) (ag (AI cR (bo p7 (ao cP (aK 1) (pv 4)) (aK 1)) (ag (iO (i:=3) ke.nd rfl (Or.inl rfl) aw kH) (aj (iO (i:=4) ke.nd rfl (Or.inl rfl) aw nA)))) (ag (AI cR (bo oU (ao cP (ao aM (pc (HM T) hr T.CY (a2 (pv 0) (pv 4))) aw) (aK 2)) (ao cP (aK 2) (pv 4))) (ag (iO (i:=3) ke.nd rfl (Or.inl rfl) aw kH) (aj (iO (i:=4) ke.nd rfl (Or.inl rfl) aw nA)))) (aj (az (pc (HQ T) hr T.D5 (a2 (pc (HM T) hr T.CY (a2 (pv 0) (pv 4))) (pv 3)))))))))),?_⟩
 nofun
 refine⟨_,rfl,_,rfl,_,_,lo,wi,W,rfl,F1,F2,W0,W44,by omega,by omega,λH1 z g1 hz=>?_⟩
 obtain⟨r,u,v,rfl,h3,u0,v0,eu,gu⟩:=hz
 obtain⟨bv,bu,_⟩:=jO W0 u0 v0 eu gu
 have nb:∀{x:Int},0<=x->x<=2^4400->x.natAbs<2^4401:=λ {x} h0 h=>by
  have h1:=dC h (show 4400<4401 by decide)
  have h2:x<((2^4401:Nat):Int):=by rw [k5];exact h1
  omega
 have xa:=nb a0 (by omega)
 have xb:=nb (show 0<=b by omega) (by omega)
 have xc:=nb c0 (by omega)
 have xu:=nb u0 (by omega)
 have xv:=nb (show 0<=v by omega) (by omega)
 have h1':=bX g1 h1
 have h2':=bX g1 h2
 clear h1 h2
 have pb:∀{m:Nat},m<=4402->((2:Int)^m).natAbs<2^4403:=λh=>by rw [Int.natAbs_pow];exact Nat.pow_lt_pow_right (by decide) (by omega)
 refine yh (λσ H'=>∃m:Nat,σ=[some (.ref p),some (.ref q),some (.ref r),some (.int (m:Int)),some (.int (2^m))]/\H'=H1/\m<=4400/\(m=0\/wi*2^(m-1)<W)) (λσ _=>match σ with | [_,_,_,some (.int m),_]=>(5000-m).toNat | _=>0) ⟨0,rfl,rfl,by decide,.inl rfl⟩ ?_ ?_
 ·rintro _ H1 ⟨m,rfl,rfl,hm,hnf⟩
  refine⟨_,rfl,aV h2' rfl ⟨_,rfl,.inl ⟨_,_,rfl,rfl,eC (bJ xc (by decide)) (bJ (pb (by omega)) (by decide)),_,rfl,aV h2' rfl (.inl ⟨_,_,rfl,rfl,_,rfl,?_⟩)⟩⟩⟩
  refine dr (λhlt=>?_) (λhge=>?_)
  ·have hlt':wi*2^m<W:=by
    have l1:c*2^m<e:=hlt
    have l2:c*2^m*W<e*W:=kR l1 W0
    rw [ff,ec,ff,cS e W] at l2
    exact Cz l2 (cx e0)
   have hm2:m<4400:=by
    rcases xC m 4400 with h | h
    ·exact h
    ·exfalso
     have p1:(2:Int)^4400<=2^m:=c9 h
     have p2:1*(2:Int)^m<=wi*2^m:=fI (by omega) (cx (mE m))
     omega
   ac_rfl
   rfl'
   rw [← kb]
   refine⟨⟨m+1,by push_cast;rfl,rfl,by omega,.inr hlt'⟩,?_⟩
   show (5000-((m:Int)+1)).toNat<(5000-(m:Int)).toNat
   omega
  ·have hge':W<=wi*2^m:=by
    have l1:e<=c*2^m:=by have:=hge;omega
    have l2:e*W<=c*2^m*W:=fI l1 (cx W0)
    rw [ff,ec,ff,cS e W] at l2
    exact o6 l2 e0
   have hlt2:wi*2^m<2*W:=by
    rcases hnf with rfl | h
    ·rw [Int.pow_zero,qx];omega
    ·rcases m with _ | m
     ·rw [Int.pow_zero,qx];omega
     ·rw [kb,← cg]
      have h':wi*2^m<W:=h
      omega
   have hnf0:m=0\/jr lo wi W (m-1):=hnf.imp id λh=>QF h
   refine yh (λσ H'=>∃m:Nat,σ=[some (.ref p),some (.ref q),some (.ref r),some (.int (m:Int)),some (.int (2^m))]/\H'=H1/\m<=4401/\W<=wi*2^m/\(2*W<=wi*2^m\/m<=4400)/\(m=0\/jr lo wi W (m-1))/\wi*2^m<4*W)
    (λσ _=>match σ with | [_,_,_,_,some (.int pt)]=>if 2*W<=wi*pt then 0 else 1 | _=>0) ⟨m,rfl,rfl,by omega,hge',.inr hm,hnf0,by omega⟩ ?_ ?_
   ·rintro _ H1 ⟨m,rfl,rfl,hm2,hW2,hm3,hnf2,hsm⟩
    refine⟨_,rfl,_,rfl,p,a,b,2^m,rfl,h1',b0,bJ xb (by decide),bJ xa (by decide),bJ (pb (by omega)) (by decide),λx hx1 hx2=>?_⟩
    have hx1':lo*2^m<=x*W:=(nF b0 W0 ea).mp hx1
    have hx2':(x-1)*W<lo*2^m:=(C1 b0 W0 ea).mp hx2
    have hx0:0<=x:=by
     rcases Int.lt_or_le x 0 with h | h
     ·exfalso
      have s1:x*W<0:=Int.mul_neg_of_neg_of_pos h W0
      have s2:0<=lo*2^m:=fW lo0 (cx (mE m))
      omega
     ·exact h
    have hxb:x<=2^m:=by
     refine nh W0 hx2' ?_
     have:lo*2^m<=W*2^m:=fI (by omega) (cx (mE m))
     rw [cS W] at this;exact this
    have pbm:=pb (m:=m) (by omega)
    have xb1:(x+1).natAbs<2^4404:=by rw [show (4404:Nat)=4403+1 from rfl,Nat.pow_succ];omega
    have fit:(u*2^m<(x+1)*v) ↔ ((lo+wi)*2^m<(x+1)*W):=by
     have:=nF (p:=2^m) (x:=x+1) v0 W0 eu
     have e3:u*2^m=(x+1)*v ↔ (lo+wi)*2^m=(x+1)*W:=by
      have y1:u*2^m*W=(lo+wi)*2^m*v:=by rw [ff,eu,ff]
      constructor
      ·intro h
       rw [h,ff] at y1
       exact(ia (by omega) y1).symm
      ·intro h
       rw [h,ff (x+1)] at y1
       exact ia (by omega) y1
     omega
    refine .inl ⟨_,_,rfl,rfl,_,rfl,aV h3 rfl (.inl ⟨_,_,rfl,rfl,eC (bJ xb1 (by decide)) (bJ xv (by decide)),_,rfl,aV h3 rfl ⟨_,rfl,.inl ⟨_,_,rfl,rfl,eC (bJ xu (by decide)) (bJ pbm (by decide)),_,_,rfl,rfl,_,rfl,?_⟩⟩⟩)⟩
    refine dr (λhgt=>?_) (λhng=>?_)
    ·have hgt':=fit.mp hgt
     have small:wi*2^m<2*W:=by
      rw [eL] at hgt'
      have:(x+1)*W=(x-1)*W+2*W:=by rw [eL,Int.sub_mul];omega
      omega
     have m400:m<=4400:=by omega
     ac_rfl
     rfl'
     rw [← kb]
     have dbl:wi*2^(m+1)=wi*2^m*2:=by rw [kb,← cg]
     have big:2*W<=wi*2^(m+1):=by omega
     refine⟨⟨m+1,by push_cast;rfl,rfl,by omega,by omega,.inl big,.inr λy hy=>?_,by omega⟩,?_⟩
     ·have:=nh W0 hx2' hy
      have:(x+1)*W<=(y+1)*W:=fI (by omega) (cx W0)
      show (lo+wi)*2^m<(y+1)*W
      omega
     ·show (if 2*W<=wi*2^(m+1) then 0 else 1)<(if 2*W<=wi*2^m then 0 else 1)
      rw [if_pos big,if_neg (by omega)];decide
    ·have hng':(x+1)*W<=(lo+wi)*2^m:=by
      have:=λh=>hng (fit.mpr h)
      omega
     refine⟨_,rfl,_,rfl,p,a,b,2^m,rfl,h1',b0,bJ xb (by decide),bJ xa (by decide),bJ pbm (by decide),λx2 hy1 hy2=>?_⟩
     have hy1':lo*2^m<=x2*W:=(nF b0 W0 ea).mp hy1
     have hy2':(x2-1)*W<lo*2^m:=(C1 b0 W0 ea).mp hy2
     have exx:x2=x:=by have s1:=nh W0 hx2' hy1';have s2:=nh W0 hy2' hx1';omega
     subst exx
     have hlt:x2<2^m:=by
      have s1:(lo+wi)*2^m<=W*2^m:=fI hle (cx (mE m))
      rw [cS W] at s1
      have s2:(x2+1)*W<=2^m*W:=by omega
      have:=o6 s2 W0
      omega
     refine⟨_,rfl,x2,m,rfl,hx0,hlt,by omega,λl H3 g3 hll hlB hlv=>?_⟩
     refine k l H3 (g1.trans g3) ⟨by omega,hlB,?_,?_,?_,?_,?_⟩
     ·rw [hll,hlv];exact hx1'
     ·rw [hll,hlv];exact hx2'
     ·rw [hll,hlv];exact hng'
     ·rw [hll];exact hnf2
     ·rw [hll];exact hsm
   ·exact Ij (je Bm (je (jd Bo (jd Bk Bl)) (je (jd Bm (jd QO (jd QQ QP))) (QR (λvs H Q Q' hq ⟨p,a,b,pt,e1,f,z,z2,z3,z4,q⟩=>⟨p,a,b,pt,e1,f,z,z2,z3,z4,λx y1 y2=>hq _ _ (q x y1 y2)⟩) kB kB) ph) (je rY kB ph)) (je (jd Bo (jd Bk Bl)) (je rY kB ph) kB))
 ·exact Ij (je (jd Bm QN) (je (jd Bo (jd Bk Bl)) (je rY kB ph) kB) (je rY kB ph))
theorem C2{a p x:Int}(hb:0<b)(hW:0<W)(e:a*W=lo*b):x*b<=a*p ↔ x*W<=lo*p:=by
 have e1:a*p*W=lo*p*b:=by rw [ff,e,ff]
 constructor
 ·intro h
  have h1:=fI h (cx hW)
  rw [e1,ff x b W] at h1
  exact o6 h1 hb
 ·intro h
  have h1:=fI h (cx hb)
  rw [← e1,ff x W b] at h1
  exact o6 h1 hW
theorem eh.conv{wi lo' wi' W':Int}(h:eh lo wi W l)(hW:0<W)(hW':0<W')(e1:lo'*W=lo*W')(e2:wi'*W=wi*W'):eh lo' wi' W' l:=by
 have e3:(lo'+wi')*W=(lo+wi)*W':=by rw [eL,e1,e2,eL]
 refine⟨h.len,h.all,(nF hW' hW e1).mpr h.low,(C1 hW' hW e1).mpr h.fst,(C2 hW' hW e3).mpr h.hig,?_,?_⟩
 ·rcases h.few with z | z
  ·exact .inl z
  ·refine .inr λx hx=>?_
   have h1:=z x ((nF hW' hW e1).mp hx)
   have h2:=C2 (p:=2^(l.length-1)) (x:=x+1) hW' hW e3
   omega
 ·have h1:=C2 (p:=2^l.length) (x:=4) hW' hW e2
  have:=h.sml
  omega
theorem jr.less{wi:Int}(hW:0<W)(h:jr lo wi W (m+1)):jr lo wi W m:=λx hx=>by
 have e1:(2*x+1)*W=x*W*2+W:=by rw [eL,mq,cg,cS 2]
 have e2:(x+1)*W=x*W+W:=by rw [eL,mq]
 have e3:2*x*W=x*W*2:=by rw [cg,cS]
 have h1:=h (2*x) (by rw [kb,← cg];omega)
 rw [kb,← cg] at h1
 omega
theorem jr.down{wi:Int}(hW:0<W)(h:jr lo wi W n)(hmn:m<=n):jr lo wi W m:=by
 induction n with
 | zero=>have:m=0:=by omega
         subst this;exact h
 | succ n ih =>
   by_cases z:m=n+1
   ·subst z;exact h
   ·exact ih (h.less hW) (by omega)
theorem JS:∀(l m:List Nat),l.length=m.length->l.all eP=true->m.all eP=true->bI l=bI m->l=m:=by
 refine GF (p:=λl=>∀m:List Nat,l.length=m.length->l.all eP=true->m.all eP=true->bI l=bI m->l=m) ?_ ?_
 ·intro m h _ _ _
  exact(xI.mp h.symm).symm
 ·intro l c ih m hl h1 h2 hv
  rcases xK m with rfl | ⟨m',d,rfl⟩
  ·simp at hl
  rw [xN] at *
  rw [List.all_append,fZ] at h1 h2
  have hc:c ∈ [48,49]:=by have:=eV.mp h1.2 c (by simp);exact of_decide_eq_true this
  have hd:d ∈ [48,49]:=by have:=eV.mp h2.2 d (by simp);exact of_decide_eq_true this
  rw [ox,ox] at hv
  have hcd:c=d/\bI l=bI m':=by
   simp only [bE,iZ,or_false] at hc hd
   rcases hc with rfl | rfl<;>rcases hd with rfl | rfl<;>simp at hv ⊢<;>omega
  rw [hcd.1,ih m' (by simpa using hl) h1.1 h2.1 hcd.2]
theorem eh.len_le{wi:Int}{m:List Nat}(hW:0<W)(hl:eh lo wi W l)(hm:eh lo wi W m):m.length<=l.length:=by
 rcases xC l.length m.length with z | z
 ·exfalso
  rcases hm.few with y | y
  ·omega
  ·have:=(y.down hW (m:=l.length) (by omega)) _ hl.low
   have:=hl.hig
   omega
 ·exact z
theorem eh.one{wi:Int}{m:List Nat}(hW:0<W)(hl:eh lo wi W l)(hm:eh lo wi W m):l=m:=by
 have e:l.length=m.length:=Nat.le_antisymm (eh.len_le hW hm hl) (eh.len_le hW hl hm)
 refine JS l m e hl.all hm.all ?_
 have h1:=hl.fst
 have h2:=hl.low
 have h3:=hm.fst
 have h4:=hm.low
 rw [← e] at h3 h4
 have s1:=nh hW h1 h4
 have s2:=nh hW h3 h2
 omega
noncomputable def eT(L:List Nat)(f d:Nat)(ah l:List Nat):Int:=cf L f d (WT L f d (ah++l)).2 ah l*(WT L f d ah).2
noncomputable def fS(L:List Nat)(f d:Nat)(ah l:List Nat):Int:=wU L f d (WT L f d (ah++l)).2 (ah++l)*(WT L f d ah).2
noncomputable def eI(L:List Nat)(f d:Nat)(ah l:List Nat):Int:=(WT L f d (ah++l)).2*(WT L f d ah).1
theorem Dy{t:List Nat}(h:0<(WT L f d t).2):wU L f d (WT L f d t).2 t=(WT L f d t).1:=by
 unfold wU
 rw [Int.ediv_self (by omega),qx]
structure SB(L:List Nat)(f d:Nat)(ah l:List Nat):Prop where
 w0:0<eI L f d ah l
 w1:eI L f d ah l<2^4400
 lo:0<=eT L f d ah l
 wi:0<fS L f d ah l
 le:eT L f d ah l+fS L f d ah l<=eI L f d ah l
theorem rG{ah:List Nat}(P0:Bp.Sp L f d (ah++l).length)(hT:∀c ∈ ah++l,c ∈ L)(hb:tb d (ah++l).length+tb d ah.length<4400):SB L f d ah l:=by
 have ha:∀c ∈ ah,c ∈ L:=λc hc=>hT c (i8 _ hc)
 have hNa:ah.length<=(ah++l).length:=by rw [aq];omega
 have pT:=P0.p3 (aI _) hT
 have pA:=P0.p3 hNa ha
 have g:=P0.gd
 have t1:=pT.a1
 have t2:=pT.ab
 have q1:=pA.a1
 have q2:=pA.ab
 obtain⟨l1,l2⟩:=kD g (U:=(WT L f d (ah++l)).2) (by omega) l ah (aI _) hT (gB _)
 refine⟨cK (by omega) (by omega),?_,fW l1 (by omega),?_,?_⟩
 ·exact dC (eY (by omega) pT.bb (aP q2 pA.bb)) hb
 ·unfold fS;rw [Dy (by omega)];exact cK (by omega) (by omega)
 ·unfold eT fS eI
  rw [← eL]
  have h3:=fI l2 (show 0<=(WT L f d ah).2 by omega)
  rw [ou (nK g.nd hT),cS (WT L f d ah).1] at h3
  exact h3
inductive EO(K:Frag)(vs:List V)(H:Hp)(Q:VK)(E0x:XK):Prop where
 | mk (fr:Addr) (f:Nat) (L:List Nat) (d:Nat) (l ah:List Nat) (_:vs=[.ref fr,vt l,vt ah]) (_:aG K H fr [vt (f::L),.int d]) (_:(∀c ∈ ah,c ∈ f::L)) (_:(∀c ∈ l,c ∈ f::L)) (_:Bp.Sp (f::L) f d (ah++l).length) (_:tb d (ah++l).length+tb d ah.length<4400) (_:∀H' b,ak H H'->eh (eT (f::L) f d ah l) (fS (f::L) f d ah l) (eI (f::L) f d ah l) b->Q (vt b) H'):EO K vs H Q E0x
theorem rQ(T:Txt K mg t):ar P w K mg base (ay P w) 10 t.lV t.sV ["frame", "text", "ahead"] (EO K):=by
 refine T.F_Qwa.okn (k:=9) Gm (λvs H Q E h=>?_) (λcdv A outer s H vs Q E hr h=>?_)
 ·obtain⟨fr,f,L,d,l,ah,rfl,_⟩:=h;rfl
 obtain⟨fr,f,L,d,l,ah,rfl,hF,ya,yl,P0,hb,q⟩:=h
 refine⟨_,(ag (aC 3 Gm.nd (jD ((Pl T).mono (by decide)) hr rfl T.R5 T.F_span.kp T.b_span .nil g8 (cF.h (aE (pv 0) (aE (pv 1) (aE (pv 2) cT)))))) (aj (az (pc (PL T) hr T.KG (a2 (aK 3) (aK 3)))))),?_⟩
 nofun
 refine⟨_,rfl,_,rfl,_,rfl,fr,f,L,d,l,ah,rfl,hF,ya,yl,P0,?_⟩
 have hT:∀c ∈ ah++l,c ∈ f::L:=λc hc=>by
  rcases cD.mp hc with z | z
  ·exact ya c z
  ·exact yl c z
 have hB:=rG P0 hT hb
 refine λH1 r z1 z2 s1 e1 hz=>?_
 have hr1:aG K H1 r [z1,z2]:=.inl (.inl e1)
 refine⟨_,rfl,aV hr1 rfl ⟨_,rfl,aV hr1 rfl ⟨z1,z2,eI (f::L) f d ah l,eT (f::L) f d ah l,fS (f::L) f d ah l,rfl,hz.1,hz.2,hB.w0,hB.w1,hB.lo,hB.wi,hB.le,λb H2 s2 hb2=>?_⟩⟩⟩
 exact q H2 b (s1.trans s2) hb2
theorem T8(l:List Nat):dE l none (some (-1))=l.take (l.length-1):=by
 unfold dE
 rw [HT.sIx_none,nX,xx]
 have:HT.sIx l.length l.length (some (-1))=l.length-1:=by
  show (if (-1:Int)<0 then (-1+(l.length:Int)).toNat else min (-1:Int).toNat l.length)=_
  rw [if_pos (by decide)];omega
 rw [this]
theorem c8.mul(h:c8 K H x A U)(m:Int):c8 K H x (A*m) (U*m):=by
 obtain⟨p,n,e,rfl,h1,n0,e0,c,g⟩:=h
 exact⟨p,n,e,rfl,h1,n0,e0,by rw [← cg,c,ff],g⟩
inductive Ew(K:Frag)(vs:List V)(H:Hp)(Q:VK)(E0x:XK):Prop where
 | mk x y A U C D (_:vs=[x,y]) (_:c8 K H x A U) (_:bf K H y C D) (_:0<U) (_:0<D) (_:U*D<2^8999) (_:A<=2^9000) (_:C<=2^9000) (_:U<=2^9000) (_:D<=2^9000) (_:∀H' z,ak H H'->c8 K H' z (A*C) (U*D)->Q z H'):Ew K vs H Q E0x
theorem Pk(T:Txt K mg t):ar P w K mg base (ay P w) 3 t.qb t.pL ["one", "other"] (Ew K):=by
 refine T.qB.F.okm (k:=2) Gn λcdv A outer s H vs Q E hr h=>?_
 obtain⟨_,_,a,U,c,D,rfl,⟨p,n,d,rfl,h1,n0,d0,c1,g1⟩,⟨q',m,f,rfl,h2,m0,f0,c2,g2,l3,l4⟩,hU,hD,hUD,ba,bc,bU,bD,q⟩:=h
 obtain⟨l1,l2,_⟩:=jO hU n0 d0 c1 g1
 refine⟨_,(aj (az (pc (jb T) hr T.j1 (a2 (ao cP (aK 0) (aK 1)) (ao cP (aK 0) (aK 1)))))),?_⟩
 nofun
 have mo1:fG n m:=eC (hV n0 (aP l2 ba) (by decide)) (hV (by omega) (aP l3 bc) (by decide))
 have mo2:fG d f:=eC (hV (by omega) (aP l1 bU) (by decide)) (hV (by omega) (aP l4 bD) (by decide))
 have hde:0<d*f:=cK d0 f0
 have hdf:d*f<2^8999:=xS (iI l1 l4 (by omega) (by omega)) hUD
 have p1:0<=n*m:=fW n0 (by omega)
 refine⟨_,rfl,aV h1 rfl ⟨_,rfl,aV h2 rfl (.inl ⟨_,_,rfl,rfl,mo1,?_⟩)⟩⟩
 refine⟨_,rfl,aV h1 rfl ⟨_,rfl,aV h2 rfl (.inl ⟨_,_,rfl,rfl,mo2,?_⟩)⟩⟩
 refine⟨n*m,d*f,rfl,λz=>absurd z (by omega),λ_=>⟨gm hde (fJ _) hdf,λr hr0=>?_⟩⟩
 have nc:=iw (t:=n*m) (b:=d*f) (by omega)
 have dp:=gj (t:=n*m) (b:=d*f) (by omega)
 have ng:=jH (t:=n*m) (b:=d*f) (by omega)
 refine q _ _ (bL hr0 _) ⟨r,_,_,rfl,.inl (.inl aA),?_,dp,?_,ng⟩
 ·have h0:0<=cn (n*m) (d*f)*(d*f):=by rw [nc];exact fW (by omega) (by omega)
  exact qw h0 hde
 ·generalize cn (n*m) (d*f)=N at *
  generalize cI (n*m) (d*f)=M at *
  refine ia (a:=d*f) (by omega) ?_
  grind
inductive En(K:Frag)(vs:List V)(H:Hp)(Q:VK)(E0x:XK):Prop where
 | mk x y A U C W (_:vs=[x,y]) (_:c8 K H x A U) (_:c8 K H y C W) (_:0<U) (_:0<W) (_:A<=2^20000) (_:C<=2^20000) (_:U<=2^20000) (_:W<=2^20000) (_:Q (.bl (decide (A*W<C*U))) H):En K vs H Q E0x
theorem LC{n1 d1 n2 d2 C:Int}(hU:0<U)(hW:0<W)(h1:0<d1)(h2:0<d2)(c1:n1*U=A*d1)(c2:n2*W=C*d2):n1*d2<n2*d1 ↔ A*W<C*U:=by
 have p1:0<d1*d2:=cK h1 h2
 have p2:0<U*W:=cK hU hW
 have e1:n1*d2*(U*W)=A*W*(d1*d2):=by grind
 have e2:n2*d1*(U*W)=C*U*(d1*d2):=by grind
 constructor
 ·intro h
  have:=kR h p2
  rw [e1,e2] at this
  exact Cz this (by omega)
 ·intro h
  have:=kR h p1
  rw [← e1,← e2] at this
  exact Cz this (by omega)
theorem Hw(T:Txt K mg t):ar P w K mg base (ay P w) 1 t.qa t.pK ["one", "other"] (En K):=by
 refine T.CG.F.okm (k:=0) MO λcdv A outer s H vs Q E hr h=>?_
 obtain⟨_,_,a,U,c,W,rfl,⟨p,n,d,rfl,h1,n0,d0,c1,g1⟩,⟨q',m,f,rfl,h2,m0,f0,c2,g2⟩,hU,hW,ba,bc,bU,bW,q⟩:=h
 obtain⟨l1,l2,_⟩:=jO hU n0 d0 c1 g1
 obtain⟨k1,k2,_⟩:=jO hW m0 f0 c2 g2
 refine⟨_,(aj (az (lN p7 (ao cP (aK 0) (aK 1)) (ao cP (aK 1) (aK 0))))),?_⟩
 nofun
 have an:=hV n0 (aP l2 ba) (by decide)
 have ad:=hV (show 0<=d by omega) (aP l1 bU) (by decide)
 have am:=hV m0 (aP k2 bc) (by decide)
 have af:=hV (show 0<=f by omega) (aP k1 bW) (by decide)
 refine⟨_,rfl,aV h1 rfl ⟨_,rfl,aV h2 rfl (.inl ⟨_,_,rfl,rfl,eC an af,_,rfl,aV h2 rfl ⟨_,rfl,aV h1 rfl (.inl ⟨_,_,rfl,rfl,eC am ad,.inl ⟨_,_,rfl,rfl,?_⟩⟩)⟩⟩)⟩⟩
 have:=LC hU hW d0 f0 c1 c2
 rfl'
 rw [show decide (n*f<m*d)=decide (a*W<c*U) from decide_eq_decide.mpr this]
 exact q
inductive F7(K:Frag)(C:Addr)(vs:List V)(H:Hp)(Q:VK)(E0x:XK):Prop where
 | mk (p tb rp fr:Addr) (f:Nat) (L:List Nat) (d:Nat) (t:List Nat) (B:Nat) (z pt:V) (A U Pn Pq:Int) (_:vs=[.ref p,z,pt]) (_:GO K C p tb rp fr H f L d t t.length B) (_:(∀c ∈ f::L,Sm (f::L) f d (t++[c]))) (_:(∀c ∈ f::L,(WT (f::L) f d (t++[c])).2 ∣ U)) (_:0<U) (_:U<=2^4400) (_:(∀c ∈ f::L,0<=wU (f::L) f d U (t++[c])/\wU (f::L) f d U (t++[c])<=2^8900)) (_:c8 K H z A U) (_:0<=A) (_:A<=2^8950) (_:c8 K H pt Pn Pq) (_:0<Pq) (_:Pq<=2^9000) (_:Pn<=2^9000) (_:A*Pq<=Pn*U) (_:Pn*U<(A+wU (f::L) f d U t)*Pq) (_:((f::L).map λc=>wU (f::L) f d U (t++[c])).sum=wU (f::L) f d U t) (_:∀H' r x z',ak H H'->x ∈ f::L->H' r=some (.tup [vt [x],z'])->c8 K H' z' (A+aN (f::L) f d U t x) U->(A+aN (f::L) f d U t x)*Pq<=Pn*U->Pn*U<(A+aN (f::L) f d U t x+wU (f::L) f d U (t++[x]))*Pq->Q (.ref r) H'):F7 K C vs H Q E0x
theorem PZ(T:Txt K mg t):ar P w K mg base (ay P w) 8 t.vX t.tW ["growth", "low", "point"] (F7 K t.aS):=by
 refine T.KQ.F.okm (k:=7) oK λcdv A outer s H vs Q E hr h=>?_
 obtain⟨p,tb,rp,fr,f,L,d,tt,B,z,pt,A0,U,Pn,Pq,rfl,G,Sc,hdv,hU,bU,hw,hz,A00,bA,hpt,hPq,bPq,bPn,hA1,hA2,hsum,q⟩:=h
 have l6:=(Sc f bO).l6
 have nd:=(Sc f bO).nd
 have zL:(f::L).length<=sizeLine:=by rw [sizeLine_eq];omega
 have hlast:=bq (show (f::L).length-1<(f::L).length by simp)
 generalize hz0:(f::L)[(f::L).length-1]=z0 at hlast
 have hpz:pre (f::L) z0++[z0]=f::L:=Oc nd hlast (by simp)
 have hzm:z0 ∈ f::L:=eU hlast
 have hzl:dz (f::L) (-1)=some z0:=by
  have:=v9 (pre (f::L) z0) z0
  rw [hpz] at this;exact this
 have hD:(f::L).take ((f::L).length-1)=pre (f::L) z0:=mR nd hlast
 obtain⟨dx,ob⟩:=G.ob
 have fa:=bX (dQ p tb rp H) G.fa
 refine⟨_,(ag (aC 3 oK.nd (cA (cB (pv 0) rfl) aw)) (ag (cW cR rfl (di (ez ei (pv 3) fO (dv (iP iL aw)))) (bB 4 oK.nd) (ag (aC 5 oK.nd (pc (rP T) hr T.mr (a2 (pv 1) (cO (pv 0) T.bY T.D8 (HU T) hr (a1 (pv 4)))))) (ag (aW (du (pc (Hw T) hr T.CG (a2 (pv 2) (pv 5)))) (aj (az (fB (a2 (pv 4) (pv 1))))) aX) (aj (aC 1 oK.nd (pv 5)))))) (aj (az (fB (a2 (cA (pv 3) (iP iL aw)) (pv 1))))))),?_⟩
 nofun
 refine⟨_,rfl,p,_,dx,_,_,rfl,ob,T.bY,T.na_Growth_frame,nC _ _ _ _,aV fa rfl ?_⟩
 refine⟨_,rfl,_,rfl,_,rfl,.inr (eF zL ?_)⟩
 rw [T8,hD]
 refine .inr (.inr ⟨_,rfl,?_⟩)
 refine fD (fw (pre (f::L) z0)) (λi σ H'=>∃v r4 r5,σ=[some (.ref p),some v,some pt,some (vt (f::L)),r4,r5]/\ak H H'/\c8 K H' v (A0+(((pre (f::L) z0).take i).map λc=>wU (f::L) f d U (tt++[c])).sum) U/\(A0+(((pre (f::L) z0).take i).map λc=>wU (f::L) f d U (tt++[c])).sum)*Pq<=Pn*U)
  ⟨_,_,_,rfl,ak.refl _,by show c8 K H z (A0+0) U;rw [ib];exact hz,by show (A0+0)*Pq<=_;rw [ib];exact hA1⟩ (λ_ _ _ _ _=>trivial) ?_ ?_
 ·rintro i y _ H1 hy ⟨v,r4,r5,rfl,g,hv,hle⟩
  obtain⟨c,hc,rfl⟩:=fL hy
  have hcm:=kx (eU hc)
  have hi:=(bh.mp hc).1
  have hpl:(pre (f::L) z0).length+1=(f::L).length:=by
   have:=congrArg List.length hpz;rw [aq] at this;exact this
  have hcL:(f::L)[i]?=some c:=by
   rw [← hpz,iH hi];exact hc
  have htk:(pre (f::L) z0).take i=pre (f::L) c:=by
   rw [← mR nd hcL]
   conv=>rhs;rw [← hpz]
   rw [Kl (by omega)]
  have haN:(((pre (f::L) z0).take i).map λc=>wU (f::L) f d U (tt++[c])).sum=aN (f::L) f d U tt c:=by rw [htk];rfl
  obtain⟨w0,w1⟩:=hw c hcm
  have hs:=yp (b:=(2:Int)^8900) (L:=(pre (f::L) z0).take i) (g:=λc=>wU (f::L) f d U (tt++[c])) (aP (by decide) (jM 8900)) λc hc=>(hw c (kx (nU hc))).2
  have hs2:A0+(((pre (f::L) z0).take i).map λc=>wU (f::L) f d U (tt++[c])).sum<=2^9000:=by
   have h1:((((pre (f::L) z0).take i).length:Nat):Int)<=2^3:=by rw [dM];omega
   have h2:(((pre (f::L) z0).take i).map λc=>wU (f::L) f d U (tt++[c])).sum<=2^8950:=aP hs (aP (eY (aP (by decide) (jM 8900)) h1 (fJ _)) (c9 (by decide)))
   have h3:(2:Int)^8950*2^1<=2^9000:=aP (eY (by decide) (fJ _) (fJ _)) (c9 (by decide))
   have h4:(2:Int)^8950*2^1=2^8950*2:=rfl
   omega
  have hs0:0<=(((pre (f::L) z0).take i).map λc=>wU (f::L) f d U (tt++[c])).sum:=oA λc hc=>(hw c (kx (nU hc))).1
  refine⟨_,rfl,_,rfl,p,dx,_,rfl,g _ _ ob,(fk _ _ _ _).2.2.2.2.2.2,_,rfl,p,tb,rp,fr,f,L,d,tt++[c],tt.length,B,c,rfl,(G.same g).more [c],Sc c hcm,by simp,λz H2 s2 hz=>?_⟩
  have hz':bf K H2 z (WT (f::L) f d (tt++[c])).1 (WT (f::L) f d (tt++[c])).2:=by unfold WT;rw [aq];exact hz
  have hb1:0<(WT (f::L) f d (tt++[c])).2:=by have:=(oo (Sc c hcm) (aI _) d [] (by simp)).b1;show 0<(wv (f::L) f d (tt++[c]) (tt++[c]).length d []).2;omega
  refine⟨v,z,_,_,U,rfl,hv.same s2,hz'.toU hb1 (hdv c hcm),hU,bU,hs2,aP w1 (c9 (by decide)),λH3 y3 s3 hy3=>?_⟩
  have s13:=s2.trans s3
  rw [haN] at hle hy3 hv hs0 hs2
  have hb3:A0+aN (f::L) f d U tt c+wU (f::L) f d U (tt++[c])<=2^20000:=by
   have h4:(2:Int)^9000*2^1<=2^20000:=aP (eY (by decide) (fJ _) (fJ _)) (c9 (by decide))
   have h5:(2:Int)^9000*2^1=2^9000*2:=rfl
   have h6:(2:Int)^8900<=2^9000:=c9 (by decide)
   omega
  refine⟨_,rfl,_,rfl,pt,y3,Pn,Pq,_,U,rfl,(hpt.same g).same s13,hy3,hPq,hU,aP bPn (c9 (by decide)),hb3,aP bPq (c9 (by decide)),aP bU (c9 (by decide)),_,rfl,dr (λhlt=>?_) (λhge=>?_)⟩
  ·refine⟨_,rfl,_,rfl,by rw [sizeLine_eq];show 2<=_;decide,λr hr0=>?_⟩
   have s4:=bL hr0 (.tup [vt [c],v])
   exact q _ r c v (g.trans (s13.trans s4)) hcm aA ((hv.same s13).same s4) hle hlt
  ·refine⟨_,rfl,y3,_,_,rfl,g.trans s13,?_,?_⟩
   ·rw [i6,hc,gv,ql,haN]
    show c8 K H3 y3 (A0+(_+(wU (f::L) f d U (tt++[c])+0))) U
    rw [ib,← xT];exact hy3
   ·rw [i6,hc,gv,ql,haN]
    show (A0+(_+(wU (f::L) f d U (tt++[c])+0)))*Pq<=_
    rw [ib,← xT];omega
 ·rintro _ H1 ⟨v,r4,r5,rfl,g,hv,hle⟩
  rw [aT,fH] at hv hle
  refine⟨_,rfl,_,rfl,gH zL hzl ⟨_,rfl,by rw [sizeLine_eq];show 2<=_;decide,λr hr0=>?_⟩⟩
  have s4:=bL hr0 (.tup [vt [z0],v])
  refine q _ r z0 v (g.trans s4) hzm aA (hv.same s4) hle ?_
  have e2:wU (f::L) f d U tt=aN (f::L) f d U tt z0+wU (f::L) f d U (tt++[z0]):=by
   have h9:((f::L).map λc=>wU (f::L) f d U (tt++[c])).sum=((pre (f::L) z0++[z0]).map λc=>wU (f::L) f d U (tt++[c])).sum:=by rw [hpz]
   rw [← hsum,h9,gv,ql]
   show _+(_+0)=_
   rw [ib];rfl
  rw [xT,← e2];exact hA2
noncomputable def jv(L:List Nat)(f d:Nat)(ah l:List Nat)(v N:Int):Prop:=eT L f d ah l*N<=v*eI L f d ah l/\v*eI L f d ah l<(eT L f d ah l+fS L f d ah l)*N
inductive EA(K:Frag)(vs:List V)(H:Hp)(Q:VK)(E0x:XK):Prop where
 | mk (fr:Addr) (f:Nat) (L:List Nat) (d m:Nat) (pt:V) (ah:List Nat) (v N:Int) (_:vs=[.ref fr,.int (m:Int),pt,vt ah]) (_:aG K H fr [vt (f::L),.int d]) (_:(∀c ∈ ah,c ∈ f::L)) (_:Bp.Sp (f::L) f d (ah.length+m)) (_:c8 K H pt v N) (_:0<N) (_:N<=2^4500) (_:0<=v) (_:v<N) (_:∀H' l,ak H H'->l.length=m->(∀c ∈ l,c ∈ f::L)->jv (f::L) f d ah l v N->Q (vt l) H'):EA K vs H Q E0x
theorem HA(T:Txt K mg t):ar P w K mg base (ay P w) 9 t.lX t.tm ["frame", "many", "point", "ahead"] (EA K):=by
 refine T.F_Qte.okn (k:=8) l8 (λvs H Q E h=>?_) (λcdv A outer s H vs Q E hr h=>?_)
 ·obtain⟨fr,f,L,d,m,pt,ah,v,N,rfl,_⟩:=h;rfl
 obtain⟨fr,f,L,d,m,pt,ah,v,N,rfl,hF,ha,P0,hpt,hN,bN,v0,vN,q⟩:=h
 have gd:=P0.gd
 have pA:=P0.p2 (t:=ah) (by omega) ha
 have SA:=P0.sm (t:=ah) (by omega) ha
 have hll:=P0.ll
 have hd6:=P0.d6
 have l6:=P0.l6
 have pA1:=pA.a1
 have pA2:=pA.b1
 have za:ah.length<=sizeLine:=by rw [sizeLine_eq];omega
 refine⟨_,(ag (aC 4 l8.nd (pc (B6 T) hr T.xV (a2 (pv 0) (pv 3)))) (ag (aC 2 l8.nd (pc (Pk T) hr T.qB (a2 (pv 2) (il (pv 4) T.bY T.oe (p6 T) hr)))) (ag (aC 5 l8.nd (ja (v:=.ref t.q_NOUGHT) rfl T.Bt rfl)) (ag (cW cR rfl (ky rfl T.iQ (a1 (pv 1))) (bB 6 l8.nd) (ag (aC 7 l8.nd (pc (PZ T) hr T.KQ (cF.h (aE (pv 4) (aE (pv 5) (aE (pv 2) cT)))))) (ag (fg (cO (pv 4) T.bY T.qD (rS T) hr (a1 (aK 7)))) (aj (aC 5 l8.nd (aK 7)))))) (aj (az (ez ei (cB (pv 4) rfl) (dv (cq T.ck (pv 3))) fO))))))),?_⟩
 nofun
 refine⟨_,rfl,_,rfl,fr,f,L,d,ah,rfl,hF,SA,λg tb rp H1 s1 ng ntb nrp G1=>?_⟩
 obtain⟨dx,ob1⟩:=G1.ob
 refine⟨_,rfl,_,rfl,g,dx,_,rfl,ob1,(fk _ _ _ _).2.2.2.1,g,tb,rp,fr,f,L,d,ah,ah.length,_,rfl,G1,by omega,λwh H2 s2 hwh=>?_⟩
 have s02:=s1.trans s2
 refine⟨pt,wh,v,N,(WT (f::L) f d ah).1,(WT (f::L) f d ah).2,rfl,hpt.same s02,hwh,hN,by omega,dC (eY (by omega) bN pA.bb) (by decide),aP (show v<=N by omega) (aP bN (c9 (by decide))),aP pA.ab (c9 (by decide)),aP bN (c9 (by decide)),aP pA.bb (c9 (by decide)),λH3 pw s3 hpw=>?_⟩
 have hPq:0<N*(WT (f::L) f d ah).2:=cK hN (by omega)
 have bPq:N*(WT (f::L) f d ah).2<=2^9000:=aP (eY (by omega) bN pA.bb) (c9 (by decide))
 have bPn:v*(WT (f::L) f d ah).1<=2^9000:=aP (eY (by omega) (show v<=2^4500 by omega) pA.ab) (c9 (by decide))
 have G3:=(G1.same s2).same s3
 have hB0:ah.length*(d+1)<=2000:=c7 (md (show ah.length<=150 by omega) (show d+1<=7 by omega)) (by decide)
 generalize ah.length*(d+1)=B0 at G3 hB0
 refine⟨_,rfl,_,rfl,by omega,by omega,?_⟩
 refine kI (λi σ H'=>∃done low r6 r7 B,σ=[some (.ref fr),some (.int (m:Int)),some pw,some (vt ah),some (.ref g),some low,r6,r7]/\ak H H'/\GO K t.aS g tb rp fr H' f L d (ah++done) (ah++done).length B/\B<=2000+7*i/\done.length=i/\(∀c ∈ done,c ∈ f::L)/\c8 K (off g tb rp H') pw (v*(WT (f::L) f d ah).1) (N*(WT (f::L) f d ah).2)/\
  c8 K (off g tb rp H') low (cf (f::L) f d (WT (f::L) f d (ah++done)).2 ah done) (WT (f::L) f d (ah++done)).2/\
  cf (f::L) f d (WT (f::L) f d (ah++done)).2 ah done*(N*(WT (f::L) f d ah).2)<=v*(WT (f::L) f d ah).1*(WT (f::L) f d (ah++done)).2/\
  v*(WT (f::L) f d ah).1*(WT (f::L) f d (ah++done)).2<(cf (f::L) f d (WT (f::L) f d (ah++done)).2 ah done+wU (f::L) f d (WT (f::L) f d (ah++done)).2 (ah++done))*(N*(WT (f::L) f d ah).2))
  ⟨[],_,_,_,B0,rfl,s02.trans s3,by rw [gw];exact G3,by omega,rfl,(λc h=>nomatch h),G3.three.fru hpw,Bg T _ _,?_,?_⟩ ?_ ?_
 ·rw [gw]
  show 0*_<=_
  rw [o5]
  exact fW (fW v0 (by omega)) (by omega)
 ·rw [gw,Dy (by omega)]
  show _<(0+_)*_
  rw [qv,← cg,cS _ N]
  exact kR (kR vN (by omega)) (by omega)
 ·rintro i _ H4 hi ⟨done,low,r6,r7,B,rfl,s4,G4,hB,hdl,hdm,k1,k2,k3,k4⟩
  rw [eK] at hi
  have sub4:=dQ g tb rp H4
  have hlt:(ah++done).length=ah.length+i:=by rw [aq,hdl]
  have hti:∀y ∈ ah++done,y ∈ f::L:=λy hy=>by
   rcases cD.mp hy with z | z
   ·exact ha y z
   ·exact hdm y z
  have htc:∀c' ∈ f::L,∀y ∈ ah++done++[c'],y ∈ f::L:=λc' hc' y hy=>by
   rcases cD.mp hy with z | z
   ·exact hti y z
   ·cases bx.mp z
    exact hc'
  have hlen:∀c':Nat,(ah++done++[c']).length<=ah.length+m:=λc'=>by rw [aq,hlt];show _+1<=_;omega
  have fm:f ∈ f::L:=bO
  have bot:∀c ∈ f::L,(WT (f::L) f d (ah++done++[c])).2=(WT (f::L) f d (ah++done++[f])).2:=λc hc=>K8 gd.nd gd.fm hti hc fm
  have pF:=P0.p2 (hlen f) (htc f fm)
  have pT:=P0.p2 (t:=ah++done) (by omega) hti
  obtain⟨mm,hmm⟩:(WT (f::L) f d (ah++done)).2 ∣ (WT (f::L) f d (ah++done++[f])).2:=K7 gd.nd (htc f fm)
  have hU0:0<(WT (f::L) f d (ah++done)).2:=by have:=pT.b1;omega
  have hV0:0<(WT (f::L) f d (ah++done++[f])).2:=by have:=pF.b1;omega
  have hm0:0<mm:=by rw [hmm] at hV0;exact Int.pos_of_mul_pos_right hV0 hU0
  have hdA:=nK (f:=f) (d:=d) gd.nd (t:=ah) (x:=done) hti
  have lm:=sh gd (m:=mm) done ah (by omega) hti (gB _)
  have wm:=qM (m:=mm) hU0 (gB (WT (f::L) f d (ah++done)).2)
  rw [← hmm] at lm wm
  have dF:(WT (f::L) f d (ah++done)).2 ∣ (WT (f::L) f d (ah++done++[f])).2:=⟨mm,hmm⟩
  have k2':=k2.mul mm
  rw [← lm,← hmm] at k2'
  have k3':=fI k3 (cx hm0)
  rw [ff,← lm,cg (v*_),← hmm] at k3'
  have k4':=kR k4 hm0
  rw [ff (_+_),eL,← lm,← wm,cg (v*_),← hmm] at k4'
  clear k2 k3 k4 lm wm hmm
  have hUb:=pF.bb
  have hdv:∀c ∈ f::L,(WT (f::L) f d (ah++done++[c])).2 ∣ (WT (f::L) f d (ah++done++[f])).2:=λc hc=>by rw [bot c hc];exact gB _
  have hsum:=Dx (U:=(WT (f::L) f d (ah++done++[f])).2) gd.nd gd.fm hti hU0 (λc hc=>(gd.ps _ (hlen c) (htc c hc)).1) hdv dF
  have hlow:=kD gd (cx hV0) done ah (by omega) hti dF
  have hwa:=P0.wU_le (t:=ah) (by omega) ha hV0 hUb
  have hwi:=P0.wU_le (t:=ah++done) (by omega) hti hV0 hUb
  have bA:cf (f::L) f d (WT (f::L) f d (ah++done++[f])).2 ah done<=2^8950:=aP (show _<=wU (f::L) f d (WT (f::L) f d (ah++done++[f])).2 ah by omega) (aP hwa.2 (c9 (by decide)))
  refine⟨_,rfl,_,rfl,_,rfl,g,tb,rp,fr,f,L,d,ah++done,B,low,pw,_,_,_,_,rfl,G4,λc hc=>P0.sm (hlen c) (htc c hc),hdv,hV0,hUb,λc hc=>?_,k2'.same sub4,hlow.1,bA,k1.same sub4,hPq,bPq,bPn,k3',k4',hsum,λH5 r x z' s5 hx er hz' hA1 hA2=>?_⟩
  ·have:=P0.wU_le (hlen c) (htc c hc) hV0 hUb
   exact⟨this.1,aP this.2 (c9 (by decide))⟩
  have G5:=(G4.same s5).more [x]
  obtain⟨d5,ob5⟩:=G5.ob
  have hr5:aG K H5 r [vt [x],z']:=.inl (.inl er)
  refine⟨_,rfl,g,d5,_,rfl,ob5,(fk _ _ _ _).2.2.2.2.1,_,rfl,aV hr5 rfl ⟨g,tb,rp,fr,f,L,d,ah++done++[x],(ah++done).length,B,x,rfl,G5,P0.sm (hlen x) (htc x hx),by simp,by omega,λH6 G6 k6=>?_⟩⟩
  have three5:=G5.three
  have sK:ak (off g tb rp H5) (off g tb rp H6):=BE k6
  have hr6:aG K H6 r [vt [x],z']:=bX (dQ g tb rp H6) (bX sK (three5.tup hr5))
  refine⟨_,rfl,aV hr6 rfl ?_⟩
  have e1:ah++(done++[x])=ah++done++[x]:=by simp
  refine⟨done++[x],z',_,_,B+(d+1),rfl,λb o e=>k6 b o (s5 b o (s4 b o e)) (bQ e ng) (bQ e ntb) (bQ e nrp),?_,by omega,by rw [aq,hdl];rfl,λy hy=>?_,(k1.same (gZ s5)).same sK,?_,?_,?_⟩
  ·rw [e1,aq];exact G6
  ·rcases cD.mp hy with z | z
   ·exact hdm y z
   ·cases bx.mp z
    exact hx
  all_goals rw [e1,bot x hx,By]
  ·show c8 K _ z' (_+(aN (f::L) f d _ (ah++done) x+0)) _
   rw [ib]
   exact(three5.fru hz').same sK
  ·show (_+(aN (f::L) f d _ (ah++done) x+0))*_<=_
   rw [ib];exact hA1
  ·show _<(_+(aN (f::L) f d _ (ah++done) x+0)+_)*_
   rw [ib];exact hA2
 ·rintro _ H4 ⟨done,low,r6,r7,B,rfl,s4,G4,hB,hdl,hdm,k1,k2,k3,k4⟩
  rw [eK] at hdl
  have hti:∀y ∈ ah++done,y ∈ f::L:=λy hy=>by
   rcases cD.mp hy with z | z
   ·exact ha y z
   ·exact hdm y z
  obtain⟨d4,ob4⟩:=G4.ob
  have zt:((ah++done).take (ah++done).length).length<=sizeLine:=by rw [fH,aq,sizeLine_eq];omega
  refine⟨_,rfl,g,_,d4,_,_,rfl,ob4,T.bY,T.na_Growth_text,lI _ _ _ _,_,rfl,_,_,rfl,dD za,_,rfl,.inr (eF zt ?_)⟩
  rw [BY,fH,List.drop_append_of_le_length (aI _),List.drop_length,List.nil_append]
  refine q H4 done s4 hdl hdm ⟨?_,?_⟩
  ·unfold eT eI
   rw [cg,cS (WT (f::L) f d ah).2 N,cS (WT (f::L) f d (ah++done)).2,← cg v]
   exact k3
  ·unfold eT eI fS
   rw [← eL,cg _ _ N,cS (WT (f::L) f d ah).2 N,cS (WT (f::L) f d (ah++done)).2,← cg v]
   exact k4
inductive Fg(K:Frag)(vs:List V)(H:Hp)(Q:VK)(E0x:XK):Prop where
 | mk l (_:vs=[vt l]) (_:l.length<=10000) (_:∀H',ak H H'->Q (.bl (l.all eP)) H'):Fg K vs H Q E0x
noncomputable def bV:V->V
 | .str z=>.bl (eP (z.cps.toList.headD 0))
 | v=>v
theorem PM(T:Txt K mg t):ar P w K mg base (ay P w) 1 t.vC t.tw ["thing"] (Fg K):=by
 refine T.KH.F.okm (k:=0) MV λcdv A outer s H vs Q E hr h=>?_
 obtain⟨l,rfl,hl,q⟩:=h
 refine⟨_,(aj (az (lj (dB jL rfl T.jJ jP (a2 (pv 0) (jE (v:=.ty "str") rfl T.g9 nH rfl))) (kA (dB (nG rfl) rfl T.n5 nI (a1 (iB ["sign"] [none] (di (pv 0)) (λ_ h=>bB 0 h) (λ_=>mV p8 (pv 0) aO (by with_unfolding_all rfl))))))))),?_⟩
 nofun
 refine⟨_,rfl,.inl ⟨_,_,_,true,rfl,.str _,jg K _,true,rfl,gb ?_⟩⟩
 refine⟨_,rfl,.inr (.inr ⟨_,rfl,λD hD cp=>?_⟩)⟩
 refine nj (fw l) (caps:=[]) (λ_=>true) bV (λ_=>trivial) (by rw [aT,sizeLine_eq];omega) ?_ ?_
 ·intro i x ys R hx hy h1 _
  obtain⟨c,_,rfl⟩:=fL hx
  refine ni ⟨_,rfl,?_⟩
  rw [E9]
  refine .inl ⟨c,[48,49],rfl,rfl,ys,aA,hy,?_⟩
  rw [kW,if_neg cz];exact h1 rfl
 have e:((l.map λc=>vt [c]).filter λ_=>true).map bV=(l.map eP).map V.bl:=by
  rw [nW.mpr (λ_ _=>rfl),d7,d7];rfl
 rw [e]
 refine⟨D,l.map eP,rfl,aD.of aA,?_⟩
 rw [ml]
 exact q _ (bL hD _)
inductive Et(vs:List V)(H:Hp)(Q:VK)(E0x:XK):Prop where
 | mk (l:List Nat) (_:vs=[vt l]) (_:l.length<=10000) (_:Q (.int (bI l)) H):Et vs H Q E0x
theorem HS(T:Txt K mg t):ar P w K mg base (ay P w) 1 t.wZ t.uH ["bits"] Et:=by
 refine T.D7.F.okm (k:=0) oN λcdv A outer s H vs Q E hr h=>?_
 obtain⟨l,rfl,hl,q⟩:=h
 refine⟨_,(ag (aC 1 oN.nd aw) (ag (cW cR rfl (di (pv 0)) (bB 2 oN.nd) (ag (iO (i:=1) oN.nd rfl (Or.inl rfl) aw nA) (aj (aW (bo (dR (hr.units0)) (pv 2) aO) (aj (iO (i:=1) oN.nd rfl (Or.inl rfl) aw kH)) aX)))) (aj (az (pv 1))))),?_⟩
 nofun
 refine⟨_,rfl,.inr (.inr ⟨_,rfl,?_⟩)⟩
 refine fD (fw l) (λi σ H'=>∃r,σ=[some (vt l),some (.int (bI (l.take i))),r]/\H'=H) ⟨_,rfl,rfl⟩ (λ_ _ _ _ _=>trivial) ?_ ?_
 ·rintro i x _ _ hx ⟨r,rfl,rfl⟩
  obtain⟨c,hc,rfl⟩:=fL hx
  have e:bI (l.take (i+1))=bI (l.take i)*2+if c=49 then 1 else 0:=by rw [i6,hc];exact ox _ _
  ac_rfl
  rw [Mt]
  refine dr (λz=>?_) (λz=>?_)
  ·have z':c=49:=by simpa using gE.mp z
   ac_rfl
   rfl'
   rw [e,if_pos z']
   exact⟨_,rfl,rfl⟩
  ·have z':c ≠ 49:=λy=>z (by rw [y])
   rfl'
   rw [e,if_neg z',ib]
   exact⟨_,rfl,rfl⟩
 ·rintro _ _ ⟨r,rfl,rfl⟩
  rw [aT,fH]
  exact⟨_,rfl,q⟩
inductive EF(K:Frag)(vs:List V)(H:Hp)(Q:VK)(E0x:XK):Prop where
 | mk l (_:vs=[vt l]) (_:l.length<=8990) (_:l.all eP=true) (_:(∀H' p a b,ak H H'->H' p=some (.tup [.ref a,.ref b])->H' a=some (.tup [.int (cn (bI l) (2^l.length)),.int (cI (bI l) (2^l.length))])->H' b=some (.tup [.int (cn 1 (2^l.length)),.int (cI 1 (2^l.length))])->Q (.ref p) H')):EF K vs H Q E0x
theorem Oe(h:n<m):((2:Int)^n).natAbs<2^m:=by
 rw [Int.natAbs_pow];exact Nat.pow_lt_pow_right (by decide) h
theorem HB(T:Txt K mg t):ar P w K mg base (ay P w) 3 t.vB t.tu ["bits"] (EF K):=by
 refine T.CI.F.okm (k:=2) rk λcdv A outer s H vs Q E hr h=>?_
 obtain⟨l,rfl,hl,hb,q1⟩:=h
 refine⟨_,(ag (aW (dh (du (pc (PM T) hr T.KH (a1 (pv 0))))) (aj dH) aX) (ag (aC 1 rk.nd aw) (ag (cW cR rfl (di (pv 0)) (bB 2 rk.nd) (aj (iO (i:=1) rk.nd rfl (Or.inl rfl) aw nA))) (aj (az (fB (a2 (pc (jb T) hr T.j1 (a2 (pc (HS T) hr T.D7 (a1 (pv 0))) (pv 1))) (pc (jb T) hr T.j1 (a2 aw (pv 1)))))))))),?_⟩
 nofun
 refine⟨_,rfl,l,rfl,by omega,λH1 g1=>⟨_,rfl,?_⟩⟩
 rw [hb]
 ·refine bK ?_
  refine⟨_,rfl,.inr (.inr ⟨_,rfl,?_⟩)⟩
  refine fD (fw l) (λi σ H'=>∃r,σ=[some (vt l),some (.int (2^i)),r]/\H'=H1) ⟨_,rfl,rfl⟩ (λ_ _ _ _ _=>trivial) ?_ ?_
  ·rintro i x _ _ hx ⟨r,rfl,rfl⟩
   ac_rfl
   rfl
  ·rintro _ _ ⟨r,rfl,rfl⟩
   rw [aT]
   have z:(2:Int)^l.length ≠ 0:=by have:(0:Int)<2^l.length:=Int.pow_pos (by decide);omega
   have b9:((2:Int)^l.length).natAbs<2^8999:=Oe (by omega)
   refine⟨_,rfl,l,rfl,by omega,_,rfl,?_⟩
   refine⟨_,_,rfl,λy=>absurd y z,λ_=>⟨b9,λa ha=>?_⟩⟩
   refine⟨_,rfl,_,_,rfl,λy=>absurd y z,λ_=>⟨b9,λb hb'=>?_⟩⟩
   refine⟨by show 2<=sizeLine;decide,λp hp=>?_⟩
   exact q1 _ p a b (by array_mem_dec) (by array_mem_dec) (by array_mem_dec) (by array_mem_dec)
theorem Hm:∀{L:List Nat} {x y:Nat},x ∈ L->y ∈ L->x ≠ y->x ∈ pre L y\/y ∈ pre L x
 | [],_,_,h,_,_=>nomatch h
 | c::L,x,y,hx,hy,hne=>by
   unfold pre
   by_cases z1:c=x
   ·subst z1
    rw [if_neg hne]
    exact .inl bO
   ·by_cases z2:c=y
    ·subst z2
     rw [if_neg z1]
     exact .inr bO
    ·rw [if_neg z1,if_neg z2]
     have hx':x ∈ L:=(bE.mp hx).resolve_left λe=>z1 e.symm
     have hy':y ∈ L:=(bE.mp hy).resolve_left λe=>z2 e.symm
     exact(Hm hx' hy' hne).imp (df _) (df _)
theorem Ho:∀{L:List Nat} {x y:Nat},x ∈ pre L y->∃r,pre L y=pre L x++x::r
 | [],_,_,h=>nomatch h
 | c::L,x,y,h=>by
   unfold pre at h ⊢
   by_cases z2:c=y
   ·rw [if_pos z2] at h;exact nomatch h
   rw [if_neg z2] at h ⊢
   by_cases z1:c=x
   ·subst z1;rw [if_pos rfl];exact⟨_,rfl⟩
   ·rw [if_neg z1]
    have h':=(bE.mp h).resolve_left λe=>z1 e.symm
    obtain⟨r,hr⟩:=Ho h'
    exact⟨r,by rw [hr];rfl⟩
theorem K6{t:List Nat}{x y:Nat}(h:x ∈ pre L y)(hn:∀c ∈ L,0<=wU L f d U (t++[c])):aN L f d U t x+wU L f d U (t++[x])<=aN L f d U t y:=by
 obtain⟨r,hr⟩:=Ho h
 unfold aN
 rw [hr,gv,ql,bR,dA]
 have:0<=(r.map λc=>wU L f d U (t++[c])).sum:=oA λc hc=>hn c (kx (x:=y) (by rw [hr];simp [hc]))
 omega
theorem Eb(g:Gd L f d N){Q:Int}(hQ:0<Q)(hU0:0<=U):∀(xs ys t:List Nat) (P:Int),xs.length=ys.length->(t++xs).length<=N->(∀y ∈ t++xs,y ∈ L)->(∀y ∈ t++ys,y ∈ L)->(WT L f d (t++xs)).2 ∣ U->(WT L f d (t++ys)).2 ∣ U->
 cf L f d U t xs*Q<=P->P<(cf L f d U t xs+wU L f d U (t++xs))*Q->cf L f d U t ys*Q<=P->P<(cf L f d U t ys+wU L f d U (t++ys))*Q->xs=ys
 | [],[],_,_,_,_,_,_,_,_,_,_,_,_=>rfl
 | [],_::_,_,_,h,_,_,_,_,_,_,_,_,_=>by cases h
 | _::_,[],_,_,h,_,_,_,_,_,_,_,_,_=>by cases h
 | x::xs,y::ys,t,P,hl,hN,hx,hy,dx,dy,a1,a2,b1,b2=>by
   have hl':xs.length=ys.length:=by simpa using hl
   have ex:t++x::xs=(t++[x])++xs:=by simp
   have ey:t++y::ys=(t++[y])++ys:=by simp
   have hNy:(t++y::ys).length<=N:=by rw [aq] at hN ⊢;simp at hN ⊢;omega
   have htl:∀z ∈ t,z ∈ L:=λz hz=>hx z (i8 _ hz)
   have hxL:x ∈ L:=hx x (by simp)
   have hyL:y ∈ L:=hy y (by simp)
   have hc1:∀c ∈ L,∀z ∈ t++[c],z ∈ L:=λc hc z hz=>by
    rcases cD.mp hz with h | h
    ·exact htl z h
    ·cases bx.mp h
     exact hc
   have hlen:t.length+1<=N:=by rw [aq] at hN;simp at hN;omega
   have nn:∀c ∈ L,0<=wU L f d U (t++[c]):=λc hc=>yj g hU0 (by rw [aq];exact hlen) (hc1 c hc)
   by_cases e:x=y
   ·subst e
    rw [ex] at hN hx dx a2
    rw [ey] at hy dy b2
    have r1:cf L f d U t (x::xs)=aN L f d U t x+cf L f d U (t++[x]) xs:=rfl
    have r2:cf L f d U t (x::ys)=aN L f d U t x+cf L f d U (t++[x]) ys:=rfl
    rw [r1] at a1 a2
    rw [r2] at b1 b2
    rw [eL] at a1 b1
    rw [xT,eL] at a2 b2
    rw [Eb g hQ hU0 xs ys (t++[x]) (P-aN L f d U t x*Q) hl' hN hx hy dx dy (by omega) (by omega) (by omega) (by omega)]
   ·exfalso
    have lx:=kD g hU0 xs (t++[x]) (by rw [← ex];exact hN) (by rw [← ex];exact hx) (by rw [← ex];exact dx)
    have ly:=kD g hU0 ys (t++[y]) (by rw [← ey];exact hNy) (by rw [← ey];exact hy) (by rw [← ey];exact dy)
    rw [← ex] at lx
    rw [← ey] at ly
    have r1:cf L f d U t (x::xs)=aN L f d U t x+cf L f d U (t++[x]) xs:=rfl
    have r2:cf L f d U t (y::ys)=aN L f d U t y+cf L f d U (t++[y]) ys:=rfl
    rcases Hm hxL hyL e with z | z
    ·have h1:=K6 (f:=f) (d:=d) (U:=U) (t:=t) z nn
     have h2:(cf L f d U t (x::xs)+wU L f d U (t++x::xs))*Q<=cf L f d U t (y::ys)*Q:=fI (by rw [r1,r2];omega) (cx hQ)
     omega
    ·have h1:=K6 (f:=f) (d:=d) (U:=U) (t:=t) z nn
     have h2:(cf L f d U t (y::ys)+wU L f d U (t++y::ys))*Q<=cf L f d U t (x::xs)*Q:=fI (by rw [r1,r2];omega) (cx hQ)
     omega
theorem jv.one(g:Gd L f d N){ah m:List Nat}{v n:Int}(hn:0<n)(hl:l.length=m.length)(hN:(ah++l).length<=N)(h1:∀y ∈ ah++l,y ∈ L)(h2:∀y ∈ ah++m,y ∈ L)(i1:jv L f d ah l v n)(i2:jv L f d ah m v n):l=m:=by
 have hNm:(ah++m).length<=N:=by rw [aq] at hN ⊢;omega
 have p1:=g.ps _ hN h1
 have p2:=g.ps _ hNm h2
 have pa:=g.ps ah (by rw [aq] at hN;omega) λy hy=>h1 y (i8 _ hy)
 have l1:=sh g (m:=(WT L f d (ah++m)).2) l ah hN h1 (gB _)
 have l2:=sh g (m:=(WT L f d (ah++l)).2) m ah hNm h2 (gB _)
 have w1:=qM (m:=(WT L f d (ah++m)).2) p1.1 (gB (WT L f d (ah++l)).2)
 have w2:=qM (m:=(WT L f d (ah++l)).2) p2.1 (gB (WT L f d (ah++m)).2)
 rw [cS (WT L f d (ah++m)).2] at l2 w2
 obtain⟨a1,a2⟩:=i1
 obtain⟨b1,b2⟩:=i2
 unfold eT eI at a1 b1
 unfold eT eI fS at a2 b2
 rw [← eL] at a2 b2
 have s1:=fI a1 (cx p2.1)
 have s2:=kR a2 p2.1
 have s3:=fI b1 (cx p1.1)
 have s4:=kR b2 p1.1
 refine Eb g (U:=(WT L f d (ah++l)).2*(WT L f d (ah++m)).2) (Q:=(WT L f d ah).2*n) (cK pa.1 hn) (cx (cK p1.1 p2.1)) l m ah (v*(WT L f d ah).1*((WT L f d (ah++l)).2*(WT L f d (ah++m)).2)) hl hN h1 h2 (Int.dvd_mul_right _ _) (Int.dvd_mul_left _ _) ?_ ?_ ?_ ?_
 ·rw [l1];grind
 ·rw [l1,w1,← eL];grind
 ·rw [l2];grind
 ·rw [l2,w2,← eL];grind
theorem eh.inSp{ah b:List Nat}(hW:0<eI L f d ah l)(h:eh (eT L f d ah l) (fS L f d ah l) (eI L f d ah l) b):jv L f d ah l (bI b) (2^b.length):=by
 refine⟨h.low,?_⟩
 have:=h.hig
 rw [eL,mq] at this
 omega
inductive EL(K:Frag)(vs:List V)(H:Hp)(Q:VK)(E0x:XK):Prop where
 | mk (fr:Addr) (f:Nat) (L:List Nat) (d:Nat) (l b ah:List Nat) (_:vs=[.ref fr,.int (l.length:Int),vt b,vt ah]) (_:aG K H fr [vt (f::L),.int d]) (_:(∀c ∈ ah,c ∈ f::L)) (_:(∀c ∈ l,c ∈ f::L)) (_:ah.length+l.length<=100) (_:Bp.Sp (f::L) f d (ah++l).length) (_:tb d (ah++l).length+tb d ah.length<4400) (_:eh (eT (f::L) f d ah l) (fS (f::L) f d ah l) (eI (f::L) f d ah l) b) (_:∀H',ak H H'->Q (vt l) H'):EL K vs H Q E0x
theorem Pm(T:Txt K mg t):ar P w K mg base (ay P w) 11 t.lU t.sQ ["frame", "many", "bits", "ahead"] (EL K):=by
 refine T.F_read.okn (k:=10) yz (λvs H Q E h=>?_) (λcdv A outer s H vs Q E hr h=>?_)
 ·obtain⟨fr,f,L,d,l,b,ah,rfl,_⟩:=h;rfl
 obtain⟨fr,f,L,d,l,b,ah,rfl,hF,ha,hl,hal,P0,htb,hb,q⟩:=h
 have bl:=hb.len
 obtain⟨v0,v1⟩:=qP b
 have e1:(ah++l).length=ah.length+l.length:=aq
 have hT:∀c ∈ ah++l,c ∈ f::L:=λc hc=>by
  rcases cD.mp hc with z | z
  ·exact ha c z
  ·exact hl c z
 have hB:=rG P0 hT htb
 have za:ah.length<=sizeLine:=by rw [sizeLine_eq];omega
 refine⟨_,(ag (fg (pc (oX T) hr T.o7 (a2 (pv 0) (pv 3)))) (ag (aC 4 yz.nd (cA (pc (HB T) hr T.CI (a1 (pv 2))) aw)) (ag (aW (dh (AH iu iu aw (pv 1) (ao lq (cC (.int 100) T.Ir) (cq T.ck (pv 3))))) (aj dH) aX) (ag (aC 5 yz.nd (jD ((HA T).mono (by decide)) hr rfl T.Il T.F_Qte.kp T.b_text_at .nil g8 (cF.h (aE (pv 0) (aE (pv 1) (aE (pv 4) (aE (pv 3) cT))))))) (ag (aW (bo (fP (hr.units0)) (jD ((rQ T).mono (by decide)) hr rfl T.rZ T.F_Qwa.kp T.b_press .nil g8 (cF.h (aE (pv 0) (aE (pv 5) (aE (pv 3) cT))))) (pv 2)) (aj dH) aX) (aj (az (pv 5)))))))),?_⟩
 nofun
 refine⟨_,rfl,_,rfl,fr,f::L,_,ah,rfl,hF,ha,?_⟩
 refine⟨_,rfl,b,rfl,by omega,hb.all,λH1 r pa pb s1 er ea eb=>?_⟩
 refine aV (.inl (.inl er)) rfl ?_
 have hF1:=bX s1 hF
 have hN0:(0:Int)<2^b.length:=mE _
 have nz:(2:Int)^b.length ≠ 0:=by omega
 have hpt:c8 K H1 (.ref pa) (bI b) (2^b.length):=⟨pa,_,_,rfl,.inl (.inl ea),by
  have nc:=iw (t:=bI b) nz
  have:0<=cn (bI b) (2^b.length)*2^b.length:=by rw [nc];exact fW v0 (by have:=gj (t:=bI b) nz;omega)
  exact qw this hN0,gj nz,iw nz,jH nz⟩
 refine⟨_,rfl,.inl ⟨_,_,rfl,rfl,_,rfl,lG (by omega) ⟨_,rfl,_,_,rfl,dD za,_,_,rfl,rfl,.inl ⟨_,_,rfl,rfl,_,rfl,eE (by omega) ?_⟩⟩⟩⟩
 refine⟨_,rfl,_,rfl,_,rfl,_,rfl,fr,f,L,d,l.length,.ref pa,ah,bI b,2^b.length,rfl,hF1,ha,by rw [← e1];exact P0,hpt,hN0,c9 (by omega),v0,v1,λH2 l' s2 hlm hl' hin=>?_⟩
 have el:l'=l:=jv.one P0.gd hN0 hlm (by rw [aq,hlm];omega) (λc hc=>by
  rcases cD.mp hc with z | z
  ·exact ha c z
  ·exact hl' c z) hT hin (hb.inSp hB.w0)
 subst el
 refine⟨_,rfl,_,rfl,_,rfl,fr,f,L,d,l',ah,rfl,bX s2 hF1,ha,hl,P0,htb,λH3 b2 s3 hb2=>?_⟩
 refine⟨_,rfl,.inl ⟨rfl,_,rfl,eE (congrArg vt (hb2.one hB.w0 hb)) ?_⟩⟩
 exact⟨_,rfl,q H3 ((s1.trans s2).trans s3)⟩
noncomputable def dm(c:Nat):Bool:=decide (32<=c) && (decide (c<=126) && !decide (c=37))
theorem Rx(c:Nat):(!decide ((tx [c]).cps.toList<(Str.ofString " ").cps.toList))=decide (32<=c):=by
 have e:(Str.ofString " ").cps.toList=[32]:=by decide +kernel
 rw [e,oy]
 have:([c]<[32]) ↔ c<32:=by simp [List.cons_lt_cons_iff]
 by_cases h:32<=c
 ·rw [decide_eq_true h,decide_eq_false (by rw [this];omega)];rfl
 ·rw [decide_eq_false h,decide_eq_true (by rw [this];omega)];rfl
theorem Ry(c:Nat):(!decide ((Str.ofString "~").cps.toList<(tx [c]).cps.toList))=decide (c<=126):=by
 have e:(Str.ofString "~").cps.toList=[126]:=by decide +kernel
 rw [e,oy]
 have:([126]<[c]) ↔ 126<c:=by simp [List.cons_lt_cons_iff]
 by_cases h:c<=126
 ·rw [decide_eq_true h,decide_eq_false (by rw [this];omega)];rfl
 ·rw [decide_eq_false h,decide_eq_true (by rw [this];omega)];rfl
theorem SW(c n:Nat):decide (V.int (c:Int)=V.int (n:Int))=decide (c=n):=by
 by_cases h:c=n
 ·subst h;simp
 ·rw [decide_eq_false h,decide_eq_false (λz=>h (by have:=V.int.inj z;omega))]
inductive EI(vs:List V)(H:Hp)(Q:VK)(E0x:XK):Prop where
 | mk c (_:vs=[vt [c]]) (_:Q (.bl (dm c)) H):EI vs H Q E0x
theorem HE(T:Txt K mg t):ar P w K mg base (ay P w) 1 t.vG t.tG ["thing"] EI:=by
 refine T.CL.F.okm (k:=0) MY λcdv A outer s H vs Q E hr h=>?_
 obtain⟨c,rfl,q⟩:=h
 have hz:(tx [c]).length<=sizeLine:=by show 1<=sizeLine;decide
 refine⟨_,(ag (aW (PW.pt (fA (dh (du (dB jL rfl T.jJ jP (a2 (pv 0) (jE (v:=.ty "str") rfl T.g9 nH rfl))))) (fM (bo (fP (hr.units0)) (cq T.ck (pv 0)) aw)))) (aj (az eA)) aX) (aj (az (lj (AS iu iu aO (pv 0) aO) (kA (lN (fP (hr.units0)) (dB JE rfl T.m_ord JN (a1 (pv 0))) (cC (.int 37) T.Rg))))))),?_⟩
 nofun
 refine⟨_,rfl,.inl ⟨_,_,_,true,rfl,.str _,jg K _,true,rfl,bK ?_⟩⟩
 refine⟨_,rfl,_,_,rfl,⟨hz,rfl⟩,.inl ⟨rfl,_,rfl,RS rfl ?_⟩⟩
 refine⟨_,rfl,.inr ⟨_,_,rfl,rfl,_,rfl,?_⟩⟩
 rw [Rx]
 unfold dm at q
 refine IJ (λh1=>?_) (λh1=>?_)
 ·rw [h1,y9] at q
  refine .inr ⟨_,_,rfl,rfl,_,rfl,?_⟩
  rw [Ry]
  refine IJ (λh2=>?_) (λh2=>?_)
  ·rw [h2,y9] at q
   refine⟨_,rfl,_,rfl,rfl,.inl ⟨rfl,?_⟩⟩
   show Q (.bl (!decide (V.int ((c:Nat):Int)=V.int ((37:Nat):Int)))) H
   rw [SW];exact q
  ·rw [Bool.not_eq_true _ |>.mp h2,yb] at q
   exact q
 ·rw [Bool.not_eq_true _ |>.mp h1,yb] at q
  exact⟨false,rfl,bK q⟩
noncomputable def Gb:V->V
 | .str z=>.bl (dm (z.cps.toList.headD 0))
 | v=>v
inductive EB(K:Frag)(vs:List V)(H:Hp)(Q:VK)(E0x:XK):Prop where
 | mk l (_:vs=[vt l]) (_:l.length<=20000) (_:∀H',ak H H'->Q (.bl (l.all dm)) H'):EB K vs H Q E0x
theorem HD(T:Txt K mg t):ar P w K mg base (ay P w) 2 t.vF t.tF ["thing"] (EB K):=by
 refine T.CK.F.okm (k:=1) MW λcdv A outer s H vs Q E hr h=>?_
 obtain⟨l,rfl,hl,q⟩:=h
 refine⟨_,(aj (az (lj (dB jL rfl T.jJ jP (a2 (pv 0) (jE (v:=.ty "str") rfl T.g9 nH rfl))) (kA (dB (nG rfl) rfl T.n5 nI (a1 (iB ["sign"] [none] (di (pv 0)) (λ_ h=>bB 0 h) (λ_=>pc (HE T) hr T.CL (a1 (pv 0)))))))))),?_⟩
 nofun
 refine⟨_,rfl,.inl ⟨_,_,_,true,rfl,.str _,jg K _,true,rfl,gb ?_⟩⟩
 refine⟨_,rfl,.inr (.inr ⟨_,rfl,λD hD cp=>?_⟩)⟩
 refine nj (fw l) (caps:=[]) (λ_=>true) Gb (λ_=>trivial) (by rw [aT,sizeLine_eq];omega) ?_ ?_
 ·intro i x ys R hx hy h4 _
  obtain⟨c,_,rfl⟩:=fL hx
  refine ni ⟨_,rfl,c,rfl,ys,aA,hy,?_⟩
  rw [kW];exact h4 rfl
 ·refine⟨D,l.map dm,rfl,?_,?_⟩
  ·have e4:((l.map λc=>vt [c]).filter (λ_=>true)).map Gb=(l.map dm).map V.bl:=by
    rw [nW.mpr (λ_ _=>rfl),d7,d7];rfl
   rw [e4];exact aD.of aA
  ·have e5:(l.map dm).all id=l.all dm:=by rw [ml];rfl
   rw [e5];exact q _ (bL hD _)
inductive F6(K:Frag)(vs:List V)(H:Hp)(Q:VK)(E0x:XK):Prop where
 | mk l (_:vs=[vt l]) (_:2<=l.length) (_:l.length<=6) (_:l.Nodup) (_:(∀c ∈ l,dm c=true)) (_:∀H',ak H H'->Q (.bl true) H'):F6 K vs H Q E0x
theorem HN(T:Txt K mg t):ar P w K mg base (ay P w) 3 t.wy t.ug ["thing"] (F6 K):=by
 refine T.CZ.F.okm (k:=2) Ng λcdv A outer s H vs Q E hr h=>?_
 obtain⟨l,rfl,h2,h6,hnd,hsg,q⟩:=h
 refine⟨_,(ag (aW (dh (du (pc (HD T) hr T.CK (a1 (pv 0))))) (aj (az eA)) aX) (aj (az (lj (AS iu iu (cC (.int 2) T.m_FEWEST_LETTERS) (cq T.ck (pv 0)) (cC (.int 6) T.Ri)) (kA (lN (dR (hr.units0)) (dB U1 rfl T.ck U6 (a1 (mW (TV rfl) rfl T.R6 U2 (a1 (pv 0))))) (cq T.ck (pv 0)))))))),?_⟩
 nofun
 have zl:l.length<=sizeLine:=by rw [sizeLine_eq];omega
 refine⟨_,rfl,l,rfl,by omega,λH1 g1=>?_⟩
 rw [eV.mpr hsg]
 refine⟨true,rfl,bK ?_⟩
 refine⟨_,rfl,_,_,rfl,dD zl,.inl ⟨_,_,rfl,rfl,_,rfl,?_⟩⟩
 refine lG (by show (2:Int)<=(l.length:Nat);omega) ?_
 refine .inl ⟨_,_,rfl,rfl,_,rfl,lG (by show ((l.length:Nat):Int)<=6;omega) ?_⟩
 refine⟨_,rfl,l,rfl,by omega,λp hp=>⟨p,l,rfl,aA,_,rfl,_,_,rfl,dD zl,.inl ⟨rfl,?_⟩⟩⟩
 have e3:(fb l).length=l.length:=(SH l).mpr hnd
 rw [e3,decide_eq_true rfl]
 exact q _ (g1.trans (bL hp _))
inductive Fz(K:Frag)(vs:List V)(H:Hp)(Q:VK)(E0x:XK):Prop where
 | mk (d:Nat) (_:vs=[.int (d:Int)]) (_:d<=6) (_:Q (.bl true) H):Fz K vs H Q E0x
theorem HG(T:Txt K mg t):ar P w K mg base (ay P w) 2 t.vL t.tL ["thing"] (Fz K):=by
 refine T.CN.F.okm (k:=1) MZ λcdv A outer s H vs Q E hr h=>?_
 obtain⟨d,rfl,hd,q⟩:=h
 refine⟨_,(aj (az (lj (pc (B9 T) hr T.xX (a1 (pv 0))) (kA (AS iu iu aw (pv 0) (cC (.int 6) T.m_GREATEST_DEPTH)))))),?_⟩
 nofun
 refine⟨_,rfl,_,_,true,false,rfl,.int _,jg K _,BC K,true,rfl,gb ?_⟩
 refine⟨_,rfl,.inl ⟨_,_,rfl,rfl,_,rfl,lG (by show (0:Int)<=(d:Int);omega) (.inl ⟨_,_,rfl,rfl,?_⟩)⟩⟩
 rfl'
 rw [decide_eq_true (show (d:Int)<=6 by omega)]
 exact q
inductive F5(K:Frag)(vs:List V)(H:Hp)(Q:VK)(E0x:XK):Prop where
 | mk (l:List Nat) (d:Nat) (_:vs=[vt l,.int (d:Int)]) (_:2<=l.length) (_:l.length<=6) (_:l.Nodup) (_:(∀c ∈ l,dm c=true)) (_:d<=6) (_:∀H' p,ak H H'->H' p=none->Q (.ref p) (ai H' p (.tup [vt l,.int (d:Int)]))):F5 K vs H Q E0x
theorem Bd(T:Txt K mg t):ar P w K mg base (ay P w) 4 t.wg t.ua ["letters", "depth"] (F5 K):=by
 refine T.xZ.F.okm (k:=3) Nb λcdv A outer s H vs Q E hr h=>?_
 obtain⟨l,d,rfl,h2,h6,hnd,hsg,hd,q⟩:=h
 refine⟨_,(ag (aW (dh (du (pc (HN T) hr T.CZ (a1 (pv 0))))) (aj dH) aX) (ag (aW (dh (du (pc (HG T) hr T.CN (a1 (pv 1))))) (aj dH) aX) (aj (az (fB (a2 (pv 0) (pv 1))))))),?_⟩
 nofun
 refine⟨_,rfl,l,rfl,h2,h6,hnd,hsg,λH1 g1=>⟨true,rfl,bK ?_⟩⟩
 refine⟨_,rfl,d,rfl,hd,true,rfl,bK ?_⟩
 exact⟨_,rfl,_,rfl,(by show 2<=sizeLine;decide),λp hp=>q H1 p g1 hp⟩
noncomputable def pU(l:List Nat):Nat->Nat
 | 0=>0
 | n+1=>pU l n+l.getD n 0*(n+1)
noncomputable def iW(l:List Nat):Nat:=pU l l.length % 97
noncomputable def jj(l:List Nat):List Nat:=[65+iW l / 10,65+iW l % 10]
noncomputable def C5:List Nat:=[65,66,67,68,69,70,71,72,73,74]
theorem JB{k:Nat}(h:k<10):C5[k]?=some (65+k):=by
 match k,h with
 | 0,_=>rfl
 | 1,_=>rfl
 | 2,_=>rfl
 | 3,_=>rfl
 | 4,_=>rfl
 | 5,_=>rfl
 | 6,_=>rfl
 | 7,_=>rfl
 | 8,_=>rfl
 | 9,_=>rfl
 | n+10,h=>omega
theorem Tr:V.str (Str.ofString "ABCDEFGHIJ")=vt C5:=congrArg V.str (by decide +kernel)
theorem JA(l:List Nat):iW l<97:=Nat.mod_lt _ (by decide)
inductive FE(vs:List V)(H:Hp)(Q:VK)(E0x:XK):Prop where
 | mk (l:List Nat) (_:vs=[vt l]) (_:l.length<=2000) (_:(∀c ∈ l,c<16^8)) (_:∀H',ak H H'->Q (vt (jj l)) H'):FE vs H Q E0x
theorem Ts{n:Int}(h:n=((pU l l.length:Nat):Int)):n % 97=((iW l:Nat):Int):=by rw [h];unfold iW;omega
theorem HF(T:Txt K mg t):ar P w K mg base (ay P w) 1 t.vJ t.tJ ["body"] FE:=by
 refine T.CM.F.okm (k:=0) mJ λcdv A outer s H vs Q E hr h=>?_
 obtain⟨l,rfl,hl,h16,q⟩:=h
 refine⟨_,(ag (aC 1 mJ.nd aw) (ag (cW cR rfl (Ol rfl T.Ip JO (pv 0) aw) (mU rfl (ip (bB 2 mJ.nd) (ip (bB 3 mJ.nd) mT))) (aj (iO (i:=1) mJ.nd rfl (Or.inl rfl) (ao cP (dB JE rfl T.m_ord JN (a1 (pv 3))) (pv 2)) kH))) (ag (aC 4 mJ.nd (ao dP (pv 1) (cC (.int 97) T.m_CHECK_DIVISOR))) (aj (az (ao aM (cA (cC (.str "ABCDEFGHIJ") T.Iw) (ao oV (pv 4) aw)) (cA (cC (.str "ABCDEFGHIJ") T.Iw) (ao dP (pv 4) aw)))))))),?_⟩
 rw [Tr]
 nofun
 refine⟨_,rfl,l,rfl,rfl,?_⟩
 refine Sy (l:=l) (K:=K) (λi σ H'=>∃r2 r3,σ=[some (vt l),some (.int ((pU l i:Nat):Int)),r2,r3,none]/\ak H H') ⟨_,_,rfl,ak.refl _⟩ ?_ ?_
 ·rintro i c _ H' p hc ⟨r2,r3,rfl,s1⟩ hp
  have hi:=(bh.mp hc).1
  have hcl:=h16 c (eU hc)
  have hD:l.getD i 0=c:=by rw [fU,hc];rfl
  have s2:=fQ (o:=.tup [.int ((i+1:Nat):Int),vt [c]]) hp s1
  refine⟨_,rfl,_,rfl,tx [c],rfl,rfl,_,rfl,.inl ⟨_,_,rfl,rfl,rW (by omega) (by omega),.inl ⟨_,_,rfl,rfl,?_⟩⟩⟩
  refine⟨some (.int ((i+1:Nat):Int)),some (vt [c]),?_,s2⟩
  show _=[some (vt l),some (.int ((pU l i+l.getD i 0*(i+1):Nat):Int)),_,_,none]
  rw [hD];rfl
 ·rintro _ H' ⟨r2,r3,rfl,s1⟩
  have hr:=JA l
  refine⟨_,rfl,_,_,rfl,rfl,(by show (0:Int)<97;decide),?_⟩
  rfl'
  rw [Ts rfl]
  have zc:C5.length<=sizeLine:=by rw [sizeLine_eq];decide
  refine⟨_,rfl,_,_,rfl,rfl,JD (by decide) (by decide),?_⟩
  rfl'
  rw [show ((iW l:Nat):Int).fdiv 10=((iW l / 10:Nat):Int) by rw [Kq _ (by decide)];omega]
  refine gH zc (fR (JB (show iW l / 10<10 by omega))) ?_
  refine⟨_,rfl,_,_,rfl,rfl,(by show (0:Int)<10;decide),?_⟩
  rfl'
  rw [show ((iW l:Nat):Int) % 10=((iW l % 10:Nat):Int) by omega]
  refine gH zc (fR (JB (show iW l % 10<10 by omega))) (.inr (.inl (aY (by rw [sizeLine_eq];show 1+1<=_;decide) ?_)))
  exact q H' s1
noncomputable def cY:List Nat:=[97,98,99,100,101,102,103,104,105,106,107,108,109,110,111,112,113,114,115,116,117,118,119,120,121,122,50,51,52,53,54,55]
theorem IT:V.str (Str.ofString "abcdefghijklmnopqrstuvwxyz234567")=vt cY:=congrArg V.str (by decide +kernel)
theorem Sg:cY.Nodup:=by decide +kernel
noncomputable def eQ(b:List Nat):List Nat:=b.take 5++List.replicate (5-b.length) 48
noncomputable def dt:Nat->List Nat->List Nat
 | 0,_=>[]
 | n+1,b=>cY.getD (bI (eQ b)).toNat 0::dt n (b.drop 5)
noncomputable def bz(b:List Nat):Nat:=(b.length+4) / 5
theorem BN(b:List Nat):(eQ b).length=5:=by
 unfold eQ
 rw [aq,dM,qm];omega
theorem SE{b:List Nat}(h:b.all eP=true):(eQ b).all eP=true:=by
 rw [eV] at h ⊢
 intro c hc
 unfold eQ at hc
 rcases cD.mp hc with z | z
 ·exact h c (nU z)
 ·rw [(List.mem_replicate.mp z).2];rfl
theorem sJ(b:List Nat):0<=bI (eQ b)/\bI (eQ b)<32:=by
 have h:=qP (eQ b)
 rw [BN] at h
 exact h
theorem IU:∀(n:Nat) (b:List Nat),dt (n+1) b=dt n b++[cY.getD (bI (eQ (b.drop (5*n)))).toNat 0]
 | 0,b=>rfl
 | n+1,b=>by
   show cY.getD _ 0::dt (n+1) (b.drop 5)=(cY.getD _ 0::dt n (b.drop 5))++_
   rw [IU n (b.drop 5),List.drop_drop,show 5*(n+1)=5+5*n by omega];rfl
theorem nB:∀(n:Nat) (b:List Nat),(dt n b).length=n
 | 0,_=>rfl
 | n+1,b=>by show (dt n (b.drop 5)).length+1=_;rw [nB n]
theorem Sk{v:Int}(h0:0<=v)(h1:v<32):dz cY v=some (cY.getD v.toNat 0):=by
 obtain⟨k,rfl⟩:=iJ h0
 have hk:k<cY.length:=by show k<32;omega
 rw [fR (bq hk),eK,fU,bq hk];rfl
theorem GD(n:Nat):(Builtin.Range.rangeSize 0 (n:Int) 5).toNat=(n+4) / 5:=by
 unfold Builtin.Range.rangeSize
 rw [if_pos (by decide)]
 split<;>omega
theorem Tb(b:List Nat)(i:Nat)(h:5*i<=b.length):dE b (some ((5*i:Nat):Int)) (some ((5*i:Nat)+5:Int))=(b.drop (5*i)).take 5:=by
 by_cases z:5*i+5<=b.length
 ·have:=BX b (a:=5*i) (b:=5*i+5) (by omega) z
  rw [show ((5*i:Nat):Int)+5=((5*i+5:Nat):Int) by omega,this]
  congr 1;omega
 ·unfold dE
  have e1:HT.sIx b.length 0 (some ((5*i:Nat):Int))=5*i:=by
   unfold HT.sIx;simp only;split<;>(try split)<;>omega
  have e2:HT.sIx b.length b.length (some (((5*i:Nat):Int)+5))=b.length:=by
   unfold HT.sIx;simp only;split<;>(try split)<;>omega
  rw [e1,e2,qk (by rw [gR];omega),qk (by rw [gR];omega)]
theorem Az:V.str (Str.ofString "0")=vt [48]:=congrArg V.str (by decide +kernel)
inductive Fm(vs:List V)(H:Hp)(Q:VK)(E0x:XK):Prop where
 | mk (b:List Nat) (_:vs=[vt b]) (_:b.length<=5000) (_:b.all eP=true) (_:Q (vt (dt (bz b) b)) H):Fm vs H Q E0x
theorem PK(T:Txt K mg t):ar P w K mg base (ay P w) 2 t.vz t.tf ["bits"] Fm:=by
 refine T.KD.F.okm (k:=1) oJ λcdv A outer s H vs Q E hr h=>?_
 obtain⟨b,rfl,hl,hb,q⟩:=h
 have zb:b.length<=sizeLine:=by rw [sizeLine_eq];omega
 refine⟨_,(ag (aC 1 oJ.nd aO) (ag (cW cR rfl (Oi rfl T.iQ (cF.h (aE aw (aE (cq T.ck (pv 0)) (aE (cC (.int 5) T.sf) cT))))) (bB 2 oJ.nd) (ag (aC 3 oJ.nd (fh hZ PySem.F.slot_str_ljust PySem.F.type_str_ljust QL (ez ei (pv 0) (dv (pv 2)) (dv (ao aM (pv 2) (cC (.int 5) T.sf)))) (a2 (cC (.int 5) T.sf) aO))) (aj (iO (i:=1) oJ.nd rfl (Or.inl rfl) (cA (cC (.str "abcdefghijklmnopqrstuvwxyz234567") T.Bv) (pc (HS T) hr T.D7 (a1 (pv 3)))) kH)))) (aj (az (pv 1))))),?_⟩
 rw [gY,IT,Az]
 nofun
 refine⟨_,rfl,_,_,rfl,dD zb,_,_,_,rfl,⟨by decide,by decide,by omega,by omega,by decide,by decide⟩,?_⟩
 refine J5 (λi σ H'=>∃r2 r3,σ=[some (vt b),some (vt (dt i b)),r2,r3]/\H'=H) ⟨_,_,rfl,rfl⟩ ?_ ?_
 ·rintro i _ _ hi ⟨r2,r3,rfl,rfl⟩
  rw [GD] at hi
  rw [show (0:Int)+(i:Int)*5=((5*i:Nat):Int) by omega]
  have h5:5*i<=b.length:=by omega
  refine⟨_,rfl,_,rfl,_,rfl,_,rfl,.inl ⟨_,_,rfl,rfl,_,rfl,.inr (eF zb ?_)⟩⟩
  rw [Tb b i h5]
  refine⟨rfl,(b.drop (5*i)).take 5,5,48,rfl,rfl,by decide,?_⟩
  have e5:(b.drop (5*i)).take 5++List.replicate (5-((b.drop (5*i)).take 5).length) 48=eQ (b.drop (5*i)):=by
   unfold eQ
   congr 2
   rw [dM];omega
  rw [e5]
  obtain⟨v0,v1⟩:=sJ (b.drop (5*i))
  have zg:cY.length<=sizeLine:=by rw [sizeLine_eq];decide
  have gl:=nB i b
  refine⟨_,rfl,_,rfl,eQ (b.drop (5*i)),rfl,by rw [BN];decide,gH zg (Sk v0 v1) ?_⟩
  refine .inr ⟨_,_,rfl,rfl,by rw [gl,sizeLine_eq];show _+1<=_;omega,?_⟩
  rw [← IU]
  exact⟨_,_,rfl,rfl⟩
 ·rintro _ _ ⟨r2,r3,rfl,rfl⟩
  rw [GD]
  exact⟨_,rfl,q⟩
theorem DA(s:Str)(tg:Tok):aB [V.str s] [Value.str s tg]:=Paired.cons (show aL (V.str s) (Value.str s tg) from ⟨_,rfl⟩) Paired.nil
noncomputable def dg(n:Nat):List Nat:=(Nat.toDigits 10 n).map Char.toNat
theorem j6(n:Nat):V.str (Str.ofString (toString ((n:Nat):Int)))=vt (dg n):=by
 have h:=PySem.W.KIN.signs_num n
 show V.str _=V.str (tx (dg n))
 unfold dg
 rw [← h];rfl
theorem BS(h:n<10):dg n=[48+n]:=by
 have go:∀n ∈ List.range 10,dg n=[48+n]:=by decide +kernel
 exact go n (jV.mpr h)
noncomputable def z3(n:Nat):List Nat:=List.replicate (3-(dg n).length) 48++dg n
theorem iU(h:n<=100):(dg n).length<=3/\(dg n).all (λc=>decide (48<=c) && decide (c<=57))=true/\(z3 n).length=3/\kK (z3 n)=n:=by
 have go:∀n ∈ List.range 101,(dg n).length<=3/\(dg n).all (λc=>decide (48<=c) && decide (c<=57))=true/\(z3 n).length=3/\kK (z3 n)=n:=by decide +kernel
 exact go n (jV.mpr (by omega))
theorem uR(h:n<=100):∀c ∈ dg n,48<=c/\c<=57:=λc hc=>by
 have:=eV.mp (iU h).2.1 c hc
 simp only [fZ,decide_eq_true_eq] at this
 exact this
theorem yc(h:n<=100):∀c ∈ z3 n,48<=c/\c<=57:=λc hc=>by
 rcases cD.mp hc with z | z
 ·rw [(List.mem_replicate.mp z).2];decide
 ·exact uR h c z
noncomputable def lH(L:List Nat)(d n:Nat):List Nat:=[48+d]++[48+L.length]++L++z3 n
noncomputable def de(L:List Nat)(d n:Nat)(b:List Nat):List Nat:=lH L d n++dt (bz b) b
noncomputable def lh(L:List Nat)(d n:Nat)(b:List Nat):List Nat:=de L d n b++jj (de L d n b)
theorem Si:∀c ∈ cY,c<127:=by decide +kernel
theorem IS{v:Int}(h0:0<=v)(h1:v<32):cY.getD v.toNat 0 ∈ cY:=by
 have hk:v.toNat<cY.length:=by show v.toNat<32;omega
 rw [fU,bq hk]
 exact jX _
theorem sD:∀(n:Nat) (b:List Nat),∀c ∈ dt n b,c ∈ cY
 | 0,_,_,h=>nomatch h
 | n+1,b,c,h=>by
   rcases bE.mp h with rfl | h
   ·exact IS (sJ b).1 (sJ b).2
   ·exact sD n _ c h
theorem pE(h:n<=100):(lH L d n).length=L.length+5:=by
 unfold lH
 rw [aq,aq,aq,(iU h).2.2.1]
 show 1+1+L.length+3=_;omega
theorem K2{b:List Nat}(hd:d<=6)(hL:L.length<=6)(h16:∀c ∈ L,c<16^8)(hn:n<=100):∀c ∈ de L d n b,c<16^8:=λc hc=>by
 rcases cD.mp hc with hc | hc
 ·rcases cD.mp hc with hc | hc
  ·rcases cD.mp hc with hc | hc
   ·rcases cD.mp hc with hc | hc
    ·cases bx.mp hc;omega
    ·cases bx.mp hc;omega
   ·exact h16 c hc
  ·have:=(yc hn c hc).2;omega
 ·have:=Si c (sD _ _ c hc);omega
theorem lD(h:n<=1000):((n:Nat):Int).natAbs.log2<1920:=by
 rw [Int.natAbs_natCast]
 exact xD (Nat.log2_le_self n) (by omega)
inductive Ec(K:Frag)(vs:List V)(H:Hp)(Q:VK)(E0x:XK):Prop where
 | mk (fr:Addr) (f:Nat) (L:List Nat) (d:Nat) (l:List Nat) (_:vs=[.ref fr,vt l]) (_:aG K H fr [vt (f::L),.int d]) (_:d<=6) (_:(f::L).length<=6) (_:(∀c ∈ f::L,c<16^8)) (_:(∀c ∈ l,c ∈ f::L)) (_:(l.length<=100/\Bp.Sp (f::L) f d l.length/\tb d l.length+tb d 0<4400/\∀H' b,ak H H'->eh (eT (f::L) f d [] l) (fS (f::L) f d [] l) (eI (f::L) f d [] l) b->Q (vt (lh (f::L) d l.length b)) H')):Ec K vs H Q E0x
theorem Hv(T:Txt K mg t):ar P w K mg base (ay P w) 11 t.vc t.sO ["frame", "text"] (Ec K):=by
 refine T.CC.F.okm (k:=10) rj λcdv A outer s H vs Q E hr h=>?_
 obtain⟨fr,f,L,d,l,rfl,hF,hd,hL6,h16,ya,hll,P0,htb,q⟩:=h
 have zL:(f::L).length<=sizeLine:=by rw [sizeLine_eq];omega
 refine⟨_,(ag (aC 2 rj.nd (aK 0)) (ag (aC 3 rj.nd (jD ((rQ T).mono (by decide)) hr rfl T.rZ T.F_Qwa.kp T.Ub (DA _ _) g8 (a2 (pv 0) (pv 1)))) (ag (aC 4 rj.nd (ao aM (ao aM (ao aM (ao aM (jB T.g9 (aK 0)) (jB T.g9 (cq T.ck (pv 2)))) (pv 2)) (fh hZ PySem.F.slot_str_zfill PySem.F.type_str_zfill QI (jB T.g9 (cq T.ck (pv 1))) (a1 (cC (.int 3) T.Bu)))) (pc (PK T) hr T.KD (a1 (pv 3))))) (aj (az (ao aM (pv 4) (pc (HF T) hr T.CM (a1 (pv 4))))))))),?_⟩
 nofun
 refine⟨_,rfl,aV hF rfl ?_⟩
 refine⟨_,rfl,_,rfl,fr,f,L,d,l,[],by rw [← gY];rfl,hF,λc h=>(nomatch h),ya,P0,htb,?_⟩
 have zl:l.length<=sizeLine:=by rw [sizeLine_eq];omega
 refine λH1 b s1 hb=>?_
 have hF1:=bX s1 hF
 have bl:=hb.len
 have gl:=nB (bz b) b
 have gN:bz b<=1000:=by unfold bz;omega
 obtain⟨g1,g2,g3,g4⟩:=iU hll
 refine⟨_,rfl,aV hF1 rfl ⟨_,rfl,lD (n:=d) (by omega),?_⟩⟩
 rw [j6,BS (show d<10 by omega)]
 refine⟨_,rfl,_,_,rfl,dD zL,_,rfl,lD (n:=(f::L).length) (by omega),?_⟩
 rw [j6,BS (show (f::L).length<10 by omega)]
 refine .inr (.inl (aY (by rw [sizeLine_eq];show 1+1<=_;decide) ?_))
 refine⟨_,rfl,.inr (.inl (aY (by rw [sizeLine_eq];show 2+_<=_;omega) ?_))⟩
 refine⟨_,rfl,_,_,rfl,dD zl,_,rfl,lD (n:=l.length) (by omega),?_⟩
 rw [j6]
 refine⟨rfl,dg l.length,3,rfl,rfl,by decide,uR hll,?_⟩
 refine .inr (.inl (aY (by rw [sizeLine_eq];show ([48+d]++[48+(f::L).length]++(f::L)).length+(z3 l.length).length<=_;rw [g3,aq];show 2+_+3<=_;omega) ?_))
 refine⟨_,rfl,b,rfl,by omega,hb.all,.inr (.inl (aY ?_ ?_))⟩
 ·rw [sizeLine_eq,gl]
  show (lH (f::L) d l.length).length+_<=_
  rw [pE hll];omega
 have ebl:(de (f::L) d l.length b).length=(f::L).length+5+bz b:=by unfold de;rw [aq,pE hll,gl]
 show f9 4 (vt (de (f::L) d l.length b)) _ _ _
 refine⟨_,rfl,_,rfl,de (f::L) d l.length b,rfl,by omega,K2 hd hL6 h16 hll,λH2 s2=>.inr (.inl (aY (by rw [sizeLine_eq,ebl];show _+2<=_;omega) ?_))⟩
 exact q H2 b (s1.trans s2) hb
noncomputable def kG(c:Nat):Bool:=decide (c ∈ [48,49,50,51,52,53,54,55,56,57])
theorem Jc:V.str (Str.ofString "0123456789")=vt [48,49,50,51,52,53,54,55,56,57]:=congrArg V.str (by decide +kernel)
theorem BH(h:48<=c/\c<=57):kG c=true:=by
 unfold kG
 refine decide_eq_true ?_
 simp only [bE,iZ,or_false]
 omega
noncomputable def fV:V->V
 | .str z=>.bl (kG (z.cps.toList.headD 0))
 | v=>v
inductive Fu(K:Frag)(vs:List V)(H:Hp)(Q:VK)(E0x:XK):Prop where
 | mk l (_:vs=[vt l]) (_:l.length<=10000) (_:∀H',ak H H'->Q (.bl (l.all kG)) H'):Fu K vs H Q E0x
theorem HP(T:Txt K mg t):ar P w K mg base (ay P w) 1 t.wz t.uh ["text"] (Fu K):=by
 refine T.D0.F.okm (k:=0) Nh λcdv A outer s H vs Q E hr h=>?_
 obtain⟨l,rfl,hl,q⟩:=h
 refine⟨_,(aj (az (dB (nG rfl) rfl T.n5 nI (a1 (iB ["sign"] [none] (di (pv 0)) (λ_ h=>bB 0 h) (λ_=>mV p8 (pv 0) (cC (.str "0123456789") T.Rm) (by with_unfolding_all rfl))))))),?_⟩
 nofun
 refine⟨_,rfl,.inr (.inr ⟨_,rfl,λD hD cp=>?_⟩)⟩
 refine nj (fw l) (caps:=[]) (λ_=>true) fV (λ_=>trivial) (by rw [aT,sizeLine_eq];omega) ?_ ?_
 ·intro i x ys R hx hy h1 _
  obtain⟨c,_,rfl⟩:=fL hx
  refine ni ⟨_,rfl,?_⟩
  rw [Jc]
  refine .inl ⟨c,_,rfl,rfl,ys,aA,hy,?_⟩
  rw [kW,if_neg cz];exact h1 rfl
 have e:((l.map λc=>vt [c]).filter λ_=>true).map fV=(l.map kG).map V.bl:=by
  rw [nW.mpr (λ_ _=>rfl),d7,d7];rfl
 rw [e]
 refine⟨D,l.map kG,rfl,aD.of aA,?_⟩
 rw [ml]
 exact q _ (bL hD _)
inductive EX(K:Frag)(vs:List V)(H:Hp)(Q:VK)(E0x:XK):Prop where
 | mk (l:List Nat) (_:vs=[vt l,.int (l.length:Int)]) (_:l ≠ []) (_:l.length<=3) (_:(∀c ∈ l,48<=c/\c<=57)) (_:∀H',ak H H'->Q (.int ((kK l:Nat):Int)) H'):EX K vs H Q E0x
theorem Ba(T:Txt K mg t):ar P w K mg base (ay P w) 2 t.vW t.tV ["text", "many"] (EX K):=by
 refine T.xY.F.okm (k:=1) N7 λcdv A outer s H vs Q E hr h=>?_
 obtain⟨l,rfl,hne,hl,hf,q⟩:=h
 have zl:l.length<=sizeLine:=by rw [sizeLine_eq];omega
 have ha:l.all kG=true:=eV.mpr λc hc=>BH (hf c hc)
 refine⟨_,(ag (aW (PW.pt (fA (bo (fP (hr.units0)) (cq T.ck (pv 0)) (pv 1)) (fM (dh (du (pc (HP T) hr T.D0 (a1 (pv 0)))))))) (aj dH) aX) (aj (az (mW JF rfl T.Bs C6 (a1 (pv 0)))))),?_⟩
 nofun
 refine⟨_,rfl,_,_,rfl,dD zl,_,rfl,.inl ⟨rfl,_,rfl,eE rfl ?_⟩⟩
 refine⟨_,rfl,l,rfl,by omega,λH1 s1=>?_⟩
 rw [ha]
 refine⟨true,rfl,bK ?_⟩
 exact⟨_,rfl,l,rfl,hne,by omega,hf,q H1 s1⟩
inductive Er(K:Frag)(vs:List V)(H:Hp)(Q:VK)(E0x:XK):Prop where
 | mk (l:List Nat) (d:Nat) (_:vs=[.int (d:Int),vt l]) (_:2<=l.length) (_:l.length<=6) (_:l.Nodup) (_:(∀c ∈ l,dm c=true)) (_:d<=6) (_:∀H' p,ak H H'->H' p=some (.tup [vt l,.int (d:Int)])->Q (.ref p) H'):Er K vs H Q E0x
theorem Qk(T:Txt K mg t):ar P w K mg base (ay P w) 5 t.wY t.uG ["depth", "letters"] (Er K):=by
 refine T.Ld.F.okm (k:=4) Nv λcdv A outer s H vs Q E hr h=>?_
 obtain⟨l,d,rfl,h2,h6,hnd,hsg,hd,q⟩:=h
 refine⟨_,(ag (aW (PW.pt (fA (dh (du (pc (HN T) hr T.CZ (a1 (pv 1))))) (fM (dh (du (pc (HG T) hr T.CN (a1 (pv 0)))))))) (aj dH) aX) (aj (az (pc (Bd T) hr T.xZ (a2 (pv 1) (pv 0)))))),?_⟩
 nofun
 refine⟨_,rfl,l,rfl,h2,h6,hnd,hsg,λH1 g1=>⟨true,rfl,bK ?_⟩⟩
 refine⟨_,rfl,d,rfl,hd,true,rfl,bK ?_⟩
 exact⟨_,rfl,_,rfl,l,d,rfl,h2,h6,hnd,hsg,hd,λH2 p s2 hp=>q _ p (fQ hp (g1.trans s2)) aA⟩
inductive Ep(K:Frag)(vs:List V)(H:Hp)(Q:VK)(E0x:XK):Prop where
 | mk (n:Nat) (_:vs=[vt (z3 n)]) (_:n<=100) (_:∀H',ak H H'->Q (.int (n:Int)) H'):Ep K vs H Q E0x
theorem Ql(T:Txt K mg t):ar P w K mg base (ay P w) 3 t.x6 t.uI ["text"] (Ep K):=by
 refine T.Le.F.okm (k:=2) Gw λcdv A outer s H vs Q E hr h=>?_
 obtain⟨n,rfl,hn,q⟩:=h
 obtain⟨g1,g2,g3,g4⟩:=iU hn
 refine⟨_,(ag (aC 1 Gw.nd (pc (Ba T) hr T.xY (a2 (pv 0) (cC (.int 3) T.Bu)))) (ag (aW (bo oU (pv 1) (cC (.int 100) T.Ir)) (aj dH) aX) (aj (az (pv 1))))),?_⟩
 nofun
 refine⟨_,rfl,z3 n,by rw [g3];rfl,(λe=>by rw [e] at g3;cases g3),by omega,yc hn,λH1 s1=>?_⟩
 rw [g4]
 refine⟨_,rfl,_,_,rfl,rfl,_,rfl,dr (λz=>?_) (λz=>?_)⟩
 ·exact absurd (show (n:Int)>100 from z) (by omega)
 ·exact⟨_,rfl,q H1 s1⟩
noncomputable def eB(b:List Nat):List Nat:=b++List.replicate (5*bz b-b.length) 48
noncomputable def iT:Nat->List Nat->List (List Nat)
 | 0,_=>[]
 | n+1,b=>eQ b::iT n (b.drop 5)
theorem Ja:∀(n:Nat) (b:List Nat),(iT n b).length=n
 | 0,_=>rfl
 | n+1,b=>by show (iT n (b.drop 5)).length+1=_;rw [Ja n]
theorem Jb:∀(n:Nat) (b:List Nat),b.length<=5*n->5*n<b.length+5->(iT n b).flatten=b++List.replicate (5*n-b.length) 48
 | 0,b,h,_=>by
   have:b=[]:=xI.mp (by omega)
   subst this;rfl
 | n+1,b,h,h'=>by
   show eQ b++(iT n (b.drop 5)).flatten=_
   by_cases z:n=0
   ·subst z
    show eQ b++[]=_
    rw [gw]
    unfold eQ
    rw [qk (by omega)]
   ·rw [Jb n (b.drop 5) (by rw [gR];omega) (by rw [gR];omega)]
    unfold eQ
    rw [show 5-b.length=0 by omega,Co,gw,← gA,kO,gR]
    congr 2;omega
theorem Hu(b:List Nat):(iT (bz b) b).flatten=eB b:=Jb _ _ (by unfold bz;omega) (by unfold bz;omega)
theorem BO:∀(n:Nat) (b:List Nat) (j:Nat),j<n->(iT n b)[j]?=some (eQ (b.drop (5*j)))/\(dt n b)[j]?=some (cY.getD (bI (eQ (b.drop (5*j)))).toNat 0)
 | 0,_,_,h=>absurd h (by omega)
 | n+1,b,0,_=>⟨rfl,rfl⟩
 | n+1,b,j+1,h=>by
   obtain⟨h1,h2⟩:=BO n (b.drop 5) j (by omega)
   rw [List.drop_drop,show 5+5*j=5*(j+1) by omega] at h1 h2
   exact⟨h1,h2⟩
theorem Sj{v:Int}(h0:0<=v)(h1:v<32)(hj:cY[j]?=some (cY.getD v.toNat 0)):(j:Int)=v:=by
 have hk:v.toNat<cY.length:=by show v.toNat<32;omega
 have e:cY[v.toNat]?=some (cY.getD v.toNat 0):=by rw [fU,bq hk];rfl
 have:=v8 Sg e hj
 omega
noncomputable def IM:V->V
 | .str z=>.bl (decide (z.cps.toList.headD 0 ∈ cY))
 | v=>v
inductive Ft(K:Frag)(vs:List V)(H:Hp)(Q:VK)(E0x:XK):Prop where
 | mk (b:List Nat) (_:vs=[vt (dt (bz b) b)]) (_:b.all eP=true) (_:b.length<=4410) (_:∀H',ak H H'->Q (vt (eB b)) H'):Ft K vs H Q E0x
theorem Q4(T:Txt K mg t):ar P w K mg base (ay P w) 2 t.wq t.ud ["groups"] (Ft K):=by
 refine T.KU.F.okm (k:=1) Nd λcdv A outer s H vs Q E hr h=>?_
 obtain⟨b,rfl,hb,hl,q⟩:=h
 have gl:=nB (bz b) b
 have gN:bz b<=1000:=by unfold bz;omega
 refine⟨_,(ag (aW (dh (du (dB (nG rfl) rfl T.n5 nI (a1 (iB ["sign"] [none] (di (pv 0)) (λ_ h=>bB 0 h) (λ_=>mV p8 (pv 0) (cC (.str "abcdefghijklmnopqrstuvwxyz234567") T.Bv) (by with_unfolding_all rfl))))))) (aj dH) aX) (aj (az (fh hZ Cf Ce Ih aO (a1 (iB ["sign"] [none] (di (pv 0)) (λ_ h=>bB 0 h) (λ_=>pc (HQ T) hr T.D5 (a2 (fh hZ qf xm pf (cC (.str "abcdefghijklmnopqrstuvwxyz234567") T.Bv) (a1 (pv 0))) (cC (.int 5) T.sf))))))))),?_⟩
 rw [IT,gY]
 nofun
 refine⟨_,rfl,.inr (.inr ⟨_,rfl,λD hD cp=>?_⟩)⟩
 refine nj (fw (dt (bz b) b)) (caps:=[]) (λ_=>true) IM (λ_=>trivial) (by rw [aT,sizeLine_eq];omega) ?_ ?_
 ·intro i x ys R hx hy h1 _
  obtain⟨c,_,rfl⟩:=fL hx
  refine ni ⟨_,rfl,?_⟩
  refine .inl ⟨c,cY,rfl,rfl,ys,aA,hy,?_⟩
  rw [kW,if_neg cz];exact h1 rfl
 have e:(((dt (bz b) b).map λc=>vt [c]).filter λ_=>true).map IM=((dt (bz b) b).map λc=>decide (c ∈ cY)).map V.bl:=by
  rw [nW.mpr (λ_ _=>rfl),d7,d7];rfl
 rw [e]
 refine⟨D,_,rfl,aD.of aA,?_⟩
 rw [ml]
 have ha:(dt (bz b) b).all (id ∘ λc=>decide (c ∈ cY))=true:=eV.mpr λc hc=>decide_eq_true (sD _ _ c hc)
 rw [ha]
 refine⟨true,rfl,bK ?_⟩
 have s1:=bL (o:=.lst (((dt (bz b) b).map λc=>decide (c ∈ cY)).map V.bl)) hD
 generalize ai H D (.lst (((dt (bz b) b).map λc=>decide (c ∈ cY)).map V.bl))=H1 at s1 ⊢
 refine⟨rfl,_,rfl,.inr (.inr ⟨_,rfl,λD2 hD2 cp2=>?_⟩)⟩
 refine sr (fw (dt (bz b) b)) hD2 (λ_ j v=>∀x,(iT (bz b) b)[j]?=some x->v=vt x) (λ_ _ _ _ _ h=>h) (λ_ _=>trivial) (by rw [aT,sizeLine_eq];omega) ?_ ?_
 ·intro i x H2 ys C hx s2 hy hC
  obtain⟨c,hc,rfl⟩:=fL hx
  have hi:=(bh.mp hc).1
  rw [gl] at hi
  obtain⟨f1,f2⟩:=BO (bz b) b i hi
  rw [hc] at f2
  cases f2
  have hbd:=sJ (b.drop (5*i))
  refine⟨rfl,_,rfl,cY,_,rfl,rfl,IS hbd.1 hbd.2,λj hj=>?_⟩
  have ej:=Sj hbd.1 hbd.2 hj
  refine⟨(j:Int),5,rfl,by omega,by rw [ej];exact hbd.2,by decide,λl H3 s3 hl5 hla hlv=>hC H3 _ s3 λy hy'=>?_⟩
  rw [f1] at hy'
  cases hy'
  have:l=eQ (b.drop (5*i)):=by
   refine JS l _ (by rw [hl5,BN]) hla (SE ?_) (by rw [hlv,ej])
   rw [eV] at hb ⊢
   exact λc hc=>hb c (xG hc)
  rw [this]
 ·intro H2 ys s2 hy hn hv
  rw [aT,gl] at hn
  have ey:ys=(iT (bz b) b).map vt:=by
   refine jt λj=>?_
   rw [bS]
   by_cases z:j<bz b
   ·have h1:=bq (show j<ys.length by omega)
    have h2:=(BO (bz b) b j z).1
    rw [h1,hv j _ h1 _ h2,h2];rfl
   ·rw [fe (by omega),fe (by rw [Ja];omega)];rfl
  subst ey
  have hfl:(iT (bz b) b).flatten.length<=5000:=by
   rw [Hu];unfold eB
   rw [aq,qm];unfold bz;omega
  refine⟨[],D2,iT (bz b) b,rfl,rfl,.inl (.inl (.inl hy)),by show _+_*0<=_;omega,?_⟩
  rw [v7,Hu]
  exact q H2 (s1.trans s2)
inductive FI(K:Frag)(vs:List V)(H:Hp)(Q:VK)(E0x:XK):Prop where
 | mk (b:List Nat) (_:vs=[vt (b++jj b)]) (_:b.length<=2000) (_:(∀c ∈ b,c<16^8)) (_:∀H',ak H H'->Q (vt b) H'):FI K vs H Q E0x
theorem Qd(T:Txt K mg t):ar P w K mg base (ay P w) 2 t.wK t.uw ["packet"] (FI K):=by
 refine T.L6.F.okm (k:=1) Gv λcdv A outer s H vs Q E hr h=>?_
 obtain⟨b,rfl,hl,h16,q⟩:=h
 have hcl:(b++jj b).length=b.length+2:=by rw [aq];rfl
 have z:(b++jj b).length<=sizeLine:=by rw [hcl,sizeLine_eq];omega
 have ecut:dE (b++jj b) none (some (-2))=b:=by
  unfold dE
  have e1:HT.sIx (b++jj b).length 0 none=0:=rfl
  have e2:HT.sIx (b++jj b).length (b++jj b).length (some (-2))=b.length:=by
   rw [hcl];unfold HT.sIx;simp only;split<;>(try split)<;>omega
  rw [e1,e2,xx,nX,Kl (aI _),fH]
 refine⟨_,(ag (aC 1 Gv.nd (ez ei (pv 0) fO (dv (iP iL (cC (.int 2) T.Ro))))) (ag (aW (bo (fP (hr.units0)) (ao aM (pv 1) (pc (HF T) hr T.CM (a1 (pv 1)))) (pv 0)) (aj dH) aX) (aj (az (pv 1))))),?_⟩
 nofun
 refine⟨_,rfl,2,rfl,_,rfl,.inr (eF z ?_)⟩
 rw [ecut]
 refine⟨_,rfl,_,rfl,b,rfl,hl,h16,λH1 s1=>.inr (.inl (aY (by rw [sizeLine_eq];show b.length+2<=_;omega) ?_))⟩
 refine⟨_,rfl,.inl ⟨rfl,_,rfl,eE rfl ?_⟩⟩
 exact⟨_,rfl,q H1 s1⟩
theorem DG(b:List Nat):∀k,bI (b++List.replicate k 48)=bI b*2^k
 | 0=>by rw [Co,gw];show _=_*1;omega
 | k+1=>by
   rw [List.replicate_succ',← gA,ox,DG b k,if_neg (by decide),xR,ib,cg]
theorem jv.scale{ah:List Nat}{v n s:Int}(hs:0<s)(h:jv L f d ah l v n):jv L f d ah l (v*s) (n*s):=by
 obtain⟨h1,h2⟩:=h
 have e1:eT L f d ah l*(n*s)=eT L f d ah l*n*s:=(cg ..).symm
 have e2:v*s*eI L f d ah l=v*eI L f d ah l*s:=ff ..
 have e3:(eT L f d ah l+fS L f d ah l)*(n*s)=(eT L f d ah l+fS L f d ah l)*n*s:=(cg ..).symm
 refine⟨?_,?_⟩
 ·rw [e1,e2];exact fI h1 (cx hs)
 ·rw [e2,e3];exact kR h2 hs
structure Up(f:Nat)(L:List Nat)(d:Nat)(l b:List Nat):Prop where
 l2:2<=(f::L).length
 l6:(f::L).length<=6
 nd:(f::L).Nodup
 sg:∀c ∈ f::L,c ∈ dU
 d6:d<=6
 ll:l.length<=100
 al:∀c ∈ l,c ∈ f::L
 sp:Bp.Sp (f::L) f d l.length
 tb:Bp.tb d l.length+Bp.tb d 0<4400
 bi:eh (eT (f::L) f d [] l) (fS (f::L) f d [] l) (eI (f::L) f d [] l) b
theorem Ge(h:c ∈ dU):dm c=true:=by
 obtain⟨h1,h2,h3⟩:=yu c h
 unfold dm
 rw [decide_eq_true h1,decide_eq_true (show c<=126 by omega),decide_eq_false h3];rfl
theorem BZ(a m z:List Nat)(hi:i=a.length)(hj:j=a.length+m.length):dE (a++m++z) (some (i:Int)) (some (j:Int))=m:=by
 subst hi hj
 rw [BX (a++m++z) (by omega) (by rw [aq,aq];omega),gA,List.drop_left,Nat.add_sub_cancel_left,List.take_left]
inductive Em(K:Frag)(vs:List V)(H:Hp)(Q:VK)(E0x:XK):Prop where
 | mk (f:Nat) (L:List Nat) (d:Nat) (l b:List Nat) (_:vs=[vt (lh (f::L) d l.length b)]) (_:Up f L d l b) (_:∀H' r fp,ak H H'->H' r=some (.tup [.ref fp,vt l])->H' fp=some (.tup [vt (f::L),.int d])->Q (.ref r) H'):Em K vs H Q E0x
theorem PD(T:Txt K mg t):ar P w K mg base (ay P w) 12 t.vq t.t6 ["packet"] (Em K):=by
 refine T.Kz.F.okm (k:=11) kd λcdv A outer s H vs Q E hr h=>?_
 obtain⟨f,L,d,l,b,rfl,hP,q⟩:=h
 have l2:=hP.l2
 have l6:=hP.l6
 have d6:=hP.d6
 have ll:=hP.ll
 have bl:=hP.bi.len
 have gl:=nB (bz b) b
 have gN:bz b<=1000:=by unfold bz;omega
 have h16:∀c ∈ f::L,c<16^8:=λc hc=>xB (yu c (hP.sg c hc)).2.1 (by decide)
 obtain⟨g1,g2,g3,g4⟩:=iU ll
 have ebl:(de (f::L) d l.length b).length=(f::L).length+5+bz b:=by unfold de;rw [aq,pE ll,gl]
 have zb:(de (f::L) d l.length b).length<=sizeLine:=by rw [ebl,sizeLine_eq];omega
 refine⟨_,(ag (aC 1 kd.nd (pc (Qd T) hr T.L6 (a1 (pv 0)))) (ag (aC 2 kd.nd (pc (Ba T) hr T.xY (a2 (ez ei (pv 1) fO (dv aw)) aw))) (ag (aC 3 kd.nd (ao aM aw (pc (Ba T) hr T.xY (a2 (ez ei (pv 1) (dv aw) (dv aw)) aw)))) (ag (aC 4 kd.nd (pc (Qk T) hr T.Ld (a2 (pv 2) (ez ei (pv 1) (dv aw) (dv (pv 3)))))) (ag (aC 5 kd.nd (ao aM (pv 3) (cC (.int 3) T.Bu))) (ag (aC 6 kd.nd (pc (Ql T) hr T.Le (a1 (ez ei (pv 1) (dv (pv 3)) (dv (pv 5)))))) (ag (aC 7 kd.nd (jD ((HA T).mono (by decide)) hr rfl T.Il T.F_Qte.kp T.Uc (DA _ _) g8 (cF.h (aE (pv 4) (aE (pv 6) (aE (cA (pc (HB T) hr T.CI (a1 (pc (Q4 T) hr T.KU (a1 (ez ei (pv 1) (dv (pv 5)) fO))))) aw) cT)))))) (ag (aW (bo (fP (hr.units0)) (pc (Hv T) hr T.CC (a2 (pv 4) (pv 7))) (pv 0)) (aj dH) aX) (aj (az (fB (a2 (pv 4) (pv 7))))))))))))),?_⟩
 nofun
 refine⟨_,rfl,de (f::L) d l.length b,rfl,by omega,K2 d6 l6 h16 ll,λH1 s1=>?_⟩
 have c1:dE (de (f::L) d l.length b) none (some 1)=[48+d]:=by
  have:=pP (de (f::L) d l.length b) 1
  rw [show ((1:Nat):Int)=1 from rfl] at this
  rw [this];rfl
 have c2:dE (de (f::L) d l.length b) (some 1) (some 2)=[48+(f::L).length]:=by
  have:=BZ [48+d] [48+(f::L).length] ((f::L)++z3 l.length++dt (bz b) b) (i:=1) (j:=2) rfl rfl
  rw [show ((1:Nat):Int)=1 from rfl,show ((2:Nat):Int)=2 from rfl] at this
  rw [show de (f::L) d l.length b=[48+d]++[48+(f::L).length]++((f::L)++z3 l.length++dt (bz b) b) by unfold de lH;simp only [gA]]
  exact this
 have c3:dE (de (f::L) d l.length b) (some 2) (some (2+((f::L).length:Int)))=f::L:=by
  have:=BZ [48+d,48+(f::L).length] (f::L) (z3 l.length++dt (bz b) b) (i:=2) (j:=2+(f::L).length) rfl rfl
  rw [show ((2:Nat):Int)=2 from rfl,show ((2+(f::L).length:Nat):Int)=2+((f::L).length:Int) by omega] at this
  rw [show de (f::L) d l.length b=[48+d,48+(f::L).length]++(f::L)++(z3 l.length++dt (bz b) b) by unfold de lH;simp only [gA];rfl]
  exact this
 have c4:dE (de (f::L) d l.length b) (some (2+((f::L).length:Int))) (some (2+((f::L).length:Int)+3))=z3 l.length:=by
  have:=BZ ([48+d,48+(f::L).length]++(f::L)) (z3 l.length) (dt (bz b) b) (i:=2+(f::L).length) (j:=2+(f::L).length+3) (by rw [aq];rfl) (by rw [aq,g3];rfl)
  rw [show ((2+(f::L).length:Nat):Int)=2+((f::L).length:Int) by omega,show ((2+(f::L).length+3:Nat):Int)=2+((f::L).length:Int)+3 by omega] at this
  rw [show de (f::L) d l.length b=([48+d,48+(f::L).length]++(f::L))++z3 l.length++dt (bz b) b from rfl]
  exact this
 have c5:dE (de (f::L) d l.length b) (some (2+((f::L).length:Int)+3)) none=dt (bz b) b:=by
  have:=BY (de (f::L) d l.length b) (2+(f::L).length+3)
  rw [show ((2+(f::L).length+3:Nat):Int)=2+((f::L).length:Int)+3 by omega] at this
  rw [this]
  unfold de
  have e:2+(f::L).length+3=(lH (f::L) d l.length).length:=by rw [pE ll];omega
  rw [e,List.drop_left]
 generalize de (f::L) d l.length b=bd at zb c1 c2 c3 c4 c5 ⊢
 refine⟨_,rfl,_,rfl,.inr (eF zb ?_)⟩
 rw [c1]
 refine⟨[48+d],rfl,(λe=>nomatch e),by show 1<=3;decide,λc hc=>?_,λH2 s2=>?_⟩
 ·cases bx.mp hc;omega
 have e1:kK [48+d]=d:=by show 0*10+(48+d-48)=d;omega
 rw [e1]
 refine⟨_,rfl,_,rfl,_,rfl,.inr (eF zb ?_)⟩
 rw [c2]
 refine⟨[48+(f::L).length],rfl,(λe=>nomatch e),by show 1<=3;decide,λc hc=>?_,λH3 s3=>?_⟩
 ·cases bx.mp hc;omega
 have e2:kK [48+(f::L).length]=(f::L).length:=by show 0*10+(48+(f::L).length-48)=_;omega
 rw [e2]
 refine .inl ⟨_,_,rfl,rfl,?_⟩
 refine⟨_,rfl,_,rfl,_,rfl,_,rfl,_,rfl,.inr (eF zb ?_)⟩
 rw [c3]
 refine⟨f::L,d,rfl,l2,l6,hP.nd,λc hc=>Ge (hP.sg c hc),d6,λH4 fp s4 e4=>?_⟩
 refine⟨_,rfl,.inl ⟨_,_,rfl,rfl,?_⟩⟩
 refine⟨_,rfl,_,rfl,_,rfl,_,rfl,_,rfl,.inr (eF zb ?_)⟩
 rw [c4]
 refine⟨l.length,rfl,ll,λH5 s5=>?_⟩
 refine⟨_,rfl,_,rfl,_,rfl,_,rfl,_,rfl,.inr (eF zb ?_)⟩
 rw [c5]
 have pl:(eB b).length=5*bz b:=by unfold eB;rw [aq,qm];unfold bz;omega
 have pall:(eB b).all eP=true:=by
  have hb:=hP.bi.all
  rw [eV] at hb ⊢
  intro c hc
  rcases cD.mp hc with z | z
  ·exact hb c z
  ·rw [(List.mem_replicate.mp z).2];rfl
 have pv:bI (eB b)=bI b*2^(5*bz b-b.length):=DG b _
 have pn:(2:Int)^(eB b).length=2^b.length*2^(5*bz b-b.length):=by
  rw [pl,← Int.pow_add];congr 1;unfold bz;omega
 refine⟨b,rfl,hP.bi.all,by omega,λH6 s6=>?_⟩
 refine⟨eB b,rfl,by rw [pl];unfold bz;omega,pall,λH7 r pa pb s7 er ea eb=>?_⟩
 refine aV (.inl (.inl er)) rfl ?_
 have hN0:(0:Int)<2^(eB b).length:=Int.pow_pos (by decide)
 have nz:(2:Int)^(eB b).length ≠ 0:=by omega
 obtain⟨v0,v1⟩:=qP (eB b)
 have hpt:c8 K H7 (.ref pa) (bI (eB b)) (2^(eB b).length):=⟨pa,_,_,rfl,.inl (.inl ea),by
  have nc:=iw (t:=bI (eB b)) nz
  have:0<=cn (bI (eB b)) (2^(eB b).length)*2^(eB b).length:=by rw [nc];exact fW v0 (by have:=gj (t:=bI (eB b)) nz;omega)
  exact qw this hN0,gj nz,iw nz,jH nz⟩
 have s47:=s5.trans (s6.trans s7)
 have hF7:aG K H7 fp [vt (f::L),.int d]:=.inl (.inl (s47 _ _ e4))
 refine⟨fp,f,L,d,l.length,.ref pa,[],bI (eB b),2^(eB b).length,by rw [← gY];rfl,hF7,λc h=>(nomatch h),by rw [show ([]:List Nat).length+l.length=l.length by show 0+_=_;omega];exact hP.sp,hpt,hN0,c9 (by rw [pl];unfold bz;omega),v0,v1,λH8 l' s8 hl' hm' hin=>?_⟩
 have hsb:=rG (L:=f::L) (f:=f) (d:=d) (ah:=[]) (l:=l) hP.sp hP.al hP.tb
 have hin0:=(hP.bi.inSp hsb.w0).scale (s:=2^(5*bz b-b.length)) (Int.pow_pos (by decide))
 rw [← pv,← pn] at hin0
 have el:l'=l:=jv.one hP.sp.gd hN0 hl' (by show l'.length<=_;omega) hm' hP.al hin hin0
 subst el
 have s48:=s47.trans s8
 have hF8:aG K H8 fp [vt (f::L),.int d]:=.inl (.inl (s48 _ _ e4))
 refine⟨_,rfl,_,rfl,fp,f,L,d,l',rfl,hF8,d6,l6,h16,hP.al,ll,hP.sp,hP.tb,λH9 b2 s9 hb2=>?_⟩
 have eb2:=hb2.one hsb.w0 hP.bi
 subst eb2
 refine⟨_,rfl,.inl ⟨rfl,_,rfl,eE rfl ?_⟩⟩
 refine⟨_,rfl,_,rfl,by rw [sizeLine_eq];show 2<=_;decide,λrr hrr=>?_⟩
 have s19:=s1.trans (s2.trans (s3.trans (s4.trans (s48.trans s9))))
 exact q _ rr fp (fQ hrr s19) aA (pd hrr (s9 _ _ (s48 _ _ e4)))
theorem DF(kvs:List (aU × V))(k j:aU):aZ (gK kvs k) j=if j=k then none else aZ kvs j:=by
 induction kvs with
 | nil=>show none=if j=k then none else none;split<;>rfl
 | cons p r ih =>
   by_cases e:p.1=k
   ·have:gK (p::r) k=gK r k:=by unfold gK;rw [mh,if_neg (by simp [e])]
    rw [this,ih]
    by_cases z:j=k
    ·rw [if_pos z,if_pos z]
    ·rw [if_neg z,if_neg z,gF (λy=>z (y.symm.trans e))]
   ·have:gK (p::r) k=p::gK r k:=by unfold gK;rw [mh,if_pos (by simp [e])]
    rw [this]
    by_cases y:p.1=j
    ·rw [gU y,gU y,if_neg (λz=>e (y.trans z))]
    ·rw [gF y,gF y,ih]
theorem GT.drop{m m':List Nat->Nat}(h:GT K F L f d l kvs m)(hs:b8 f d l kn (m' kn)=false)(hm:∀k,k ≠ kn->m' k=m k):GT K F L f d l (gK kvs (key kn)) m':=by
 refine⟨λk hk hl=>?_,λk v hk hl=>?_⟩
 ·rw [DF] at hk
  by_cases z:key k=key kn
  ·have:=su z
   subst this
   exact hs
  ·rw [if_neg z] at hk
   rw [hm k λy=>z (by rw [y])]
   exact h.non k hk hl
 ·rw [DF] at hk
  by_cases z:key k=key kn
  ·rw [if_pos z] at hk;cases hk
  ·rw [if_neg z] at hk
   rw [hm k λy=>z (by rw [y])]
   exact h.som k v hk hl
theorem GT.prev{m:List Nat->Nat}(h:GT K F L f d l kvs m)(h1:∀k,k.length<=d->k <+: bg f d l n->m k=n)(h2:∀k,¬ k <+: bg f d l n->m k=n+1):GT K F L f d l kvs (λ_=>n):=by
 refine⟨λk hk hl=>?_,λk v hk hl=>?_⟩
 ·by_cases z:k <+: bg f d l n
  ·have:=h.non k hk hl
   rw [h1 k hl z] at this;exact this
  ·have:=h.non k hk hl
   rw [h2 k z,mG (ji z)] at this
   exact this
 ·by_cases z:k <+: bg f d l n
  ·have:=h.som k v hk hl
   rw [h1 k hl z] at this;exact this
  ·have:=h.som k v hk hl
   rw [h2 k z] at this
   refine⟨?_,this.2.congr (pR (ji z)).symm (mC _ z).symm⟩
   rw [mG (ji z)] at this;exact this.1
theorem NW{κ:Type}[DecidableEq κ]{kvs:List (κ × V)}{k:κ}(h:aZ kvs k ≠ none):(cE kvs k v).length=kvs.length:=by
 unfold cE
 rw [if_pos (by rw [ow];cases z:aZ kvs k with | none=>exact absurd z h | some _=>rfl),aT]
theorem T9(l:List Nat):dE l none (some (-1))=l.take (l.length-1):=by
 unfold dE
 rw [HT.sIx_none,nX,xx]
 have:HT.sIx l.length l.length (some (-1))=l.length-1:=by
  show (if (-1:Int)<0 then (-1+(l.length:Int)).toNat else min (-1:Int).toNat l.length)=_
  rw [if_pos (by decide)];omega
 rw [this]
inductive EJ(K:Frag)(C:Addr)(vs:List V)(H:Hp)(Q:VK)(E0x:XK):Prop where
 | mk (p tb rp fr:Addr) (f:Nat) (L:List Nat) (d:Nat) (l:List Nat) (n B:Nat) (_:vs=[.ref p]) (_:GO K C p tb rp fr H f L d l (n+1) B) (_:Sm (f::L) f d l) (_:n<l.length) (_:B<=20000) (_:∀H',GO K C p tb rp fr H' f L d l n B->(∀b o,H b=some o->b ≠ p->b ≠ tb->b ≠ rp->H' b=some o)->Q .non H'):EJ K C vs H Q E0x
theorem Qh(T:Txt K mg t):ar P w K mg base (ay P w) 1 t.wQ t.uB ["self"] (EJ K t.aS):=by
 refine T.La.F.okm (k:=0) rE λcdv A outer s H vs Q E hr h=>?_
 obtain⟨p,tb,rp,fr,f,L,d,l,n,B,rfl,G,S,hnl,hB,q⟩:=h
 have d6:=S.d6
 have ll:=S.ll
 obtain⟨dx,ob⟩:=G.ob
 obtain⟨kvs,td,kl,gt⟩:=G.td
 obtain⟨rs,rl,rn,rh⟩:=G.rl
 have hlen:=lP f d l n
 have npt:p ≠ tb:=λy=>by rw [y,td] at ob;cases ob
 have npr:p ≠ rp:=λy=>by rw [y,rl] at ob;cases ob
 have ntr:tb ≠ rp:=λy=>by rw [y,rl] at td;cases td
 rcases xK rs with rfl | ⟨rs',u,rfl⟩
 ·simp at rn
 rw [xN] at *
 have rn':rs'.length=n:=by simpa using rn
 obtain⟨a,xs,rfl,hxs,hxl,hx⟩:=rh n u (by rw [iG (by omega),rn',Nat.sub_self];rfl)
 refine⟨_,(ag (aC 1 rE.nd (OJ nL PySem.F.slot_list_pop PySem.F.type_list_pop QJ (cB (pv 0) rfl))) (ag (cW cR rfl (AM (pv 1)) (mU rfl (ip (bB 2 rE.nd) (ip (bB 3 rE.nd) mT))) (aj (aW (mQ (AU (pv 3))) (aj (fg (OF (cB (pv 0) rfl) (pv 2) ⟨rfl,rfl,rfl,rfl⟩))) (aj (rL (hG hr) (cB (pv 0) rfl) (pv 2) (pv 3) rfl))))) (aj (kr (pv 0) (ez ei (cB (pv 0) rfl) fO (dv (iP iL aw))) rfl)))),?_⟩
 nofun
 refine⟨_,rfl,p,_,dx,_,_,rfl,ob,T.bY,T.na_Growth_replaced,IV _ _ _ _,kX (.inl (.inl rl)),rp,_,.ref a,rfl,rfl,rl,by simp,?_⟩
 rw [show (rs'++[V.ref a]).dropLast=rs' by simp]
 have hoff:∀H',(∀b,b ≠ tb->H' b=ai H rp (.lst rs') b)->off p tb rp H'=off p tb rp H:=λH' h=>HX λb h1 h2 h3=>(h b h2).trans (au h3)
 have oxs:∀H',(∀b,b ≠ tb->H' b=ai H rp (.lst rs') b)->aD K H' a xs:=λH' h=>ik ((hoff H' h) ▸ dQ p tb rp H') hxs
 refine⟨_,rfl,a,rfl,⟨_,oxs _ λ_ _=>rfl⟩,?_⟩
 refine fD (iK (xs:=xs)) (λi σ H'=>∃r2 r3 kvs',σ=[some (.ref p),some (.ref a),r2,r3]/\(∀b,b ≠ tb->H' b=ai H rp (.lst rs') b)/\H' tb=some (.dK kvs')/\kvs'.length<=B/\
  GT K (off p tb rp H) (f::L) f d l kvs' (λk=>if bG f d l k n=true/\d<k.length+i then n else n+1)) ⟨_,_,kvs,rfl,λ_ _=>rfl,(au ntr).trans td,kl,gt.congr λk hk=>if_neg (by omega)⟩ (λi σ H' _ ⟨_,_,_,_,h,_⟩=>oxs _ h) ?_ ?_
 ·rintro i x _ H3 hxi ⟨r2,r3,kvs',rfl,h3,t3,k3,gt3⟩
  have hi:=(bh.mp hxi).1
  have hRP:=hx i x hxi
  have hkp:(bg f d l n).take (d-i) <+: bg f d l n:=Cn _ _
  have hkl:((bg f d l n).take (d-i)).length=d-i:=by rw [dM];omega
  generalize (bg f d l n).take (d-i)=kn at hRP hkp hkl
  obtain⟨ch,y,rfl,h1,h2⟩:=hRP
  have s3:ak (off p tb rp H) H3:=(hoff H3 h3) ▸ dQ p tb rp H3
  have ob3:H3 p=_:=(h3 p npt).trans ((au npr).trans ob)
  have hfk:=fq.mpr hkp
  have hmk:(if bG f d l kn n=true/\d<kn.length+(i+1) then n else n+1)=n:=if_pos ⟨hfk,by omega⟩
  have hmo:(if bG f d l kn n=true/\d<kn.length+i then n else n+1)=n+1:=if_neg (by omega)
  have hin:aZ kvs' (key kn) ≠ none:=λz=>by
   have:=gt3.non kn z (by omega)
   rw [hmo,mF hfk] at this;cases this
  have hm:∀k,k ≠ kn->(if bG f d l k n=true/\d<k.length+(i+1) then n else n+1)=(if bG f d l k n=true/\d<k.length+i then n else n+1):=by
   intro k hk
   by_cases y:bG f d l k n=true/\d<k.length+i
   ·rw [if_pos y,if_pos ⟨y.1,by omega⟩]
   ·rw [if_neg y]
    refine if_neg λ⟨a,b⟩=>?_
    by_cases y2:d<k.length+i
    ·exact y ⟨a,y2⟩
    ·exact hk (Hn (fq.mp a) hkp (by omega))
  refine⟨ch,_,rfl,bX s3 h1,rfl,_,_,rfl,_,_,rfl,rfl,?_⟩
  rcases h2 with⟨rfl,hs⟩ | ⟨hs,he⟩
  ·obtain⟨v,hv⟩:=Option.ne_none_iff_exists'.mp hin
   refine⟨_,rfl,_,rfl,gb ?_⟩
   refine⟨_,rfl,p,_,dx,_,_,rfl,ob3,T.bY,T.na_Growth_table,pG _ _ _ _,tb,rfl,.inl ⟨kvs',.inl t3⟩,_,rfl,kvs',key kn,v,t3,rfl,hv,?_⟩
   refine⟨_,_,gK kvs' (key kn),rfl,λb hb=>by rw [au hb];exact h3 b hb,aA,c7 (Ji _ _) k3,?_⟩
   exact gt3.drop (m':=λk=>if bG f d l k n=true/\d<k.length+(i+1) then n else n+1) (by show b8 f d l kn (if _ then _ else _)=false;rw [hmk];exact hs) hm
  ·obtain⟨e,q0,xw,yw,rfl,he'⟩:=id he
   refine⟨_,rfl,_,rfl,bK ?_⟩
   refine⟨_,rfl,_,rfl,p,_,dx,_,_,rfl,ob3,T.bY,T.na_Growth_table,pG _ _ _ _,_,rfl,tb,_,rfl,jw.k (k:=key kn) t3 (by rw [sizeLine_eq];omega),?_⟩
   refine⟨_,_,cE kvs' (key kn) (.ref e),rfl,λb hb=>by rw [au hb];exact h3 b hb,aA,by rw [NW hin];exact k3,?_⟩
   exact gt3.put (m':=λk=>if bG f d l k n=true/\d<k.length+(i+1) then n else n+1) (by show b8 f d l kn (if _ then _ else _)=true;rw [hmk];exact hs) (by show eM K _ _ (f::L) f d l (if _ then _ else _) kn;rw [hmk];exact he) hm
 ·rintro _ H3 ⟨r2,r3,kvs',rfl,h3,t3,k3,gt3⟩
  have ob3:H3 p=_:=(h3 p npt).trans ((au npr).trans ob)
  have ht:(l.take (n+1)).length=n+1:=by rw [dM];omega
  have h4:=hoff H3 h3
  refine⟨_,rfl,p,_,dx,_,_,rfl,ob3,T.bY,T.na_Growth_text,lI _ _ _ _,_,rfl,_,rfl,.inr (eF (by rw [ht,sizeLine_eq];omega) ?_)⟩
  rw [T9,ht,List.take_take,show min (n+1-1) (n+1)=n by omega]
  refine⟨_,rfl,p,_,dx,_,rfl,ob3,T.bY,T.na_Growth_text,(by show 4<1000;decide),?_⟩
  rw [IW]
  have h5:off p tb rp (ai H3 p (.ins t.aS dx (eZ fr (vt (l.take n)) tb rp)))=off p tb rp H:=(HW (.inl rfl)).trans h4
  refine q _ ⟨⟨dx,aA⟩,⟨kvs',(au npt.symm).trans t3,k3,?_⟩,⟨rs',(au npr.symm).trans ((h3 rp ntr.symm).trans aA),rn',λj v hj=>?_⟩,?_⟩ λb o hb h1 h2 h3'=>?_
  ·rw [h5]
   refine gt3.prev (n:=n) (λk hk hp=>if_pos ⟨fq.mpr hp,by omega⟩) (λk hp=>if_neg λ⟨a,_⟩=>hp (fq.mp a))
  ·rw [h5]
   exact rh j v (by rw [iH (bh.mp hj).1];exact hj)
  ·rw [h5];exact G.fa
  ·rw [au h1,h3 b h2,au h3']
   exact hb
inductive Ff(K:Frag)(vs:List V)(H:Hp)(Q:VK)(E0x:XK):Prop where
 | mk (p:Addr) (L:List Nat) (d:V) (c:Nat) (_:vs=[.ref p,vt [c]]) (_:aG K H p [vt L,d]) (_:L.length<=100) (_:(∀x ∈ L,dm x=true)) (_:Q (.bl (decide (c ∈ L))) H):Ff K vs H Q E0x
theorem HJ(T:Txt K mg t):ar P w K mg base (ay P w) 2 t.w9 t.tZ ["frame", "thing"] (Ff K):=by
 refine T.CU.F.okm (k:=1) N9 λcdv A outer s H vs Q E hr h=>?_
 obtain⟨p,L,d,c,rfl,hp,hL,hS,q⟩:=h
 refine⟨_,(aj (az (lj (pc (HE T) hr T.CL (a1 (pv 1))) (kA (mV p8 (pv 1) (aK 0) (by with_unfolding_all rfl)))))),?_⟩
 nofun
 refine⟨_,rfl,c,rfl,_,rfl,?_⟩
 cases z:dm c with
 | false =>
   have:c ∉ L:=λh=>by rw [hS c h] at z;cases z
   rw [decide_eq_false this] at q
   exact bK q
 | true =>
   exact gb ⟨_,rfl,_,rfl,aV hp rfl (.inl ⟨c,L,rfl,rfl,q⟩)⟩
noncomputable def jf(fr g:Addr):List (Str × V):=[("frame",.ref fr),("growth",.ref g)]
theorem lE(fr g:Addr):(jf fr g).lookup ("frame" : Str)=some (.ref fr):=rfl
theorem pC(fr g:Addr):(jf fr g).lookup ("growth" : Str)=some (.ref g):=by with_unfolding_all rfl
theorem Rv(fr g:Addr):dc ("growth" : Str) (.ref g) (dc ("frame" : Str) (.ref fr) [])=jf fr g:=by with_unfolding_all rfl
theorem kE(fr g:Addr):(jf fr g).lookup ("take" : Str)=none/\(jf fr g).lookup ("back" : Str)=none/\(jf fr g).lookup ("held" : Str)=none/\(jf fr g).lookup ("weighs" : Str)=none/\(jf fr g).lookup ("shares" : Str)=none/\(jf fr g).lookup ("counted" : Str)=none:=by
 refine⟨?_,?_,?_,?_,?_,?_⟩<;>with_unfolding_all rfl
structure LO(K:Frag)(D C q p tb rp fr:Addr)(H:Hp)(f:Nat)(L:List Nat)(d:Nat)(l:List Nat)(B:Nat):Prop where
 me:∃dq,H q=some (.ins D dq (jf fr p))
 go:GO K C p tb rp fr H f L d l l.length B
theorem LO.same{q tb fr:Addr}(h:LO K D C q p tb rp fr H f L d l B)(s:ak H H'):LO K D C q p tb rp fr H' f L d l B:=⟨let ⟨a,e⟩:=h.me;⟨a,s _ _ e⟩,h.go.same s⟩
theorem LO.ne{q tb fr:Addr}(h:LO K D C q p tb rp fr H f L d l B):q ≠ p/\q ≠ tb/\q ≠ rp:=by
 obtain⟨dq,e⟩:=h.me
 obtain⟨dx,ob⟩:=h.go.ob
 obtain⟨_,td,_⟩:=h.go.td
 obtain⟨_,rl,_⟩:=h.go.rl
 refine⟨λz=>?_,λz=>?_,λz=>?_⟩
 ·rw [z,ob] at e
  have:=HO.ins.inj (dS e)
  have:=congrArg List.length this.2.2
  cases this
 ·rw [z,td] at e;cases e
 ·rw [z,rl] at e;cases e
theorem aG.keep(h:aG K H a xs)(k:∀b o,H b=some o->(∀C dx fs,o ≠ .ins C dx fs)->H' b=some o):aG K H' a xs:=by
 rcases h with(h | ⟨o,h⟩) | h
 ·exact .inl (.inl (k _ _ h λ_ _ _ z=>by cases z))
 ·exact .inl (.inr ⟨o,k _ _ h λ_ _ _ z=>by cases z⟩)
 ·exact .inr h
inductive Fb(K:Frag)(D C:Addr)(vs:List V)(H:Hp)(Q:VK)(E0x:XK):Prop where
 | mk (q fr dq:Addr) (f:Nat) (L:List Nat) (d:Nat) (_:vs=[.ref q,.ref fr]) (_:H q=some (.ins D dq [])) (_:aG K H fr [vt (f::L),.int d]) (_:∀p tb rp H',H p=none->H tb=none->H rp=none->LO K D C q p tb rp fr H' f L d [] 0->(∀b o,H b=some o->b ≠ q->H' b=some o)->Q .non H'):Fb K D C vs H Q E0x
theorem Q8(T:Txt K mg t):ar P w K mg base (ay P w) 3 t.wD t.um ["self", "frame"] (Fb K t.bC t.aS):=by
 refine T.D1.F.okm (k:=2) Nk λcdv A outer s H vs Q E hr h=>?_
 obtain⟨q,fr,dq,f,L,d,rfl,hq,hf,k⟩:=h
 refine⟨_,(ag (kr (pv 0) (pv 1) rfl) (aj (kr (pv 0) (AO T.qE.mi ((HL T).mono (by decide)) hr rfl T.Iu T.qE.b .nil g8 (a1 (pv 1))) rfl))),?_⟩
 nofun
 refine⟨_,rfl,_,rfl,q,_,dq,[],rfl,hq,T.dX,T.na_Learner_frame,(by show 0<1000;decide),?_⟩
 refine⟨_,rfl,λp dx np ndx nex=>?_⟩
 have nqp:q ≠ p:=λz=>by rw [← z,aA] at np;cases np
 have nqd:q ≠ dx:=λz=>by rw [← z,aA] at ndx;cases ndx
 rw [au nqp.symm] at np
 rw [au nqd.symm] at ndx
 refine⟨p,fr,dx,rfl,aA,λtb rp H1 htb hrp hne e1 e2 e3 k1=>⟨rfl,?_⟩⟩
 have ntp:tb ≠ p:=λz=>by rw [z,aA] at htb;cases htb
 have ntd:tb ≠ dx:=λz=>by rw [z,au nex,aA] at htb;cases htb
 have ntq:tb ≠ q:=λz=>by rw [z,au nqp,au nqd,aA] at htb;cases htb
 rw [au ntp,au ntd,au ntq] at htb
 have nrp:rp ≠ p:=λz=>by rw [z,aA] at hrp;cases hrp
 have nrd:rp ≠ dx:=λz=>by rw [z,au nex,aA] at hrp;cases hrp
 have nrq:rp ≠ q:=λz=>by rw [z,au nqp,au nqd,aA] at hrp;cases hrp
 rw [au nrp,au nrd,au nrq] at hrp
 have q1:H1 q=some (.ins t.bC dq (dc ("frame" : Str) (.ref fr) [])):=k1 _ _ (by rw [au nqp,au nqd,aA]) nqp
 refine⟨_,rfl,q,_,dq,_,rfl,q1,T.dX,T.na_Learner_growth,(by show 1<1000;decide),?_⟩
 have kp:∀b o,H b=some o->b ≠ q->ai H1 q (.ins t.bC dq (dc ("growth" : Str) (.ref p) (dc ("frame" : Str) (.ref fr) []))) b=some o:=λb o hb hne=>by
  rw [au hne]
  exact k1 b o (by rw [au (bQ hb np),au (bQ hb ndx),au hne];exact hb) (bQ hb np)
 refine k p tb rp _ np htb hrp ⟨⟨dq,by rw [aA];exact congrArg (λz=>some (HO.ins t.bC dq z)) (Rv fr p)⟩,⟨⟨dx,by rw [au nqp.symm];exact e1⟩,⟨[],by rw [au ntq];exact e2,cU _,GT.empty⟩,⟨[],by rw [au nrq];exact e3,rfl,λj v h=>nomatch h⟩,?_⟩⟩ kp
 refine aG.keep hf λb o hb hno=>?_
 have hbq:b ≠ q:=λz=>by rw [z,hq] at hb;cases hb;exact hno _ _ _ rfl
 exact jG (kp b o hb hbq) (bQ hb np) (bQ hb htb) (bQ hb hrp)
noncomputable def kP(p tb rp:Addr)(H H':Hp):Prop:=∀b o,H b=some o->b ≠ p->b ≠ tb->b ≠ rp->H' b=some o
inductive EC(K:Frag)(D C:Addr)(vs:List V)(H:Hp)(Q:VK)(E0x:XK):Prop where
 | mk (q p tb rp fr:Addr) (f:Nat) (L:List Nat) (d:Nat) (l:List Nat) (B c:Nat) (_:vs=[.ref q,vt [c]]) (_:LO K D C q p tb rp fr H f L d l B) (_:Sm (f::L) f d (l++[c])) (_:(∀x ∈ f::L,dm x=true)) (_:B<=10000) (_:∀H',LO K D C q p tb rp fr H' f L d (l++[c]) (B+(d+1))->kP p tb rp H H'->Q .non H'):EC K D C vs H Q E0x
theorem Q7(T:Txt K mg t):ar P w K mg base (ay P w) 8 t.wC t.uk ["self", "sign"] (EC K t.bC t.aS):=by
 refine T.KZ.F.okm (k:=7) Nj λcdv A outer s H vs Q E hr h=>?_
 obtain⟨q,p,tb,rp,fr,f,L,d,l,B,c,rfl,O,S,hsg,hB,k⟩:=h
 obtain⟨dq,me⟩:=O.me
 obtain⟨dx,ob⟩:=O.go.ob
 have hne:=O.ne
 have hc:c ∈ f::L:=S.al c (by simp)
 have l6:=S.l6
 refine⟨_,(ag (aW (dh (du (pc (HJ T) hr T.CU (a2 (cB (pv 0) rfl) (pv 1))))) (aj dH) aX) (aj (fg (cO (cB (pv 0) rfl) T.bY T.qD (rS T) hr (a1 (pv 1)))))),?_⟩
 nofun
 refine⟨_,rfl,q,_,dq,_,_,rfl,me,T.dX,T.na_Learner_frame,lE _ _,_,rfl,fr,f::L,_,c,rfl,bX (dQ _ _ _ _) O.go.fa,by omega,hsg,?_⟩
 rw [decide_eq_true hc]
 refine⟨true,rfl,bK ?_⟩
 refine⟨_,rfl,q,_,dq,_,_,rfl,me,T.dX,T.na_Learner_growth,pC _ _,p,dx,_,rfl,ob,(fk _ _ _ _).2.2.2.2.1,_,rfl,p,tb,rp,fr,f,L,d,l++[c],l.length,B,c,rfl,O.go.more [c],S,by simp,hB,λH1 G1 k1=>?_⟩
 refine k H1 ⟨⟨dq,k1 _ _ me hne.1 hne.2.1 hne.2.2⟩,?_⟩ k1
 rw [aq];exact G1
inductive FN(K:Frag)(D C:Addr)(vs:List V)(H:Hp)(Q:VK)(E0x:XK):Prop where
 | mk (q p tb rp fr:Addr) (f:Nat) (L:List Nat) (d:Nat) (l x:List Nat) (B:Nat) (_:vs=[.ref q,.int (x.length:Int)]) (_:LO K D C q p tb rp fr H f L d (l++x) B) (_:Sm (f::L) f d (l++x)) (_:B<=20000) (_:∀H',LO K D C q p tb rp fr H' f L d l B->kP p tb rp H H'->Q .non H'):FN K D C vs H Q E0x
theorem Q6(T:Txt K mg t):ar P w K mg base (ay P w) 2 t.wB t.uj ["self", "many"] (FN K t.bC t.aS):=by
 refine T.KY.F.okm (k:=1) Gu λcdv A outer s H vs Q E hr h=>?_
 obtain⟨q,p,tb,rp,fr,f,L,d,l,x,B,rfl,O,S,hB,k⟩:=h
 obtain⟨dq,me⟩:=O.me
 obtain⟨dx,ob⟩:=O.go.ob
 have hne:=O.ne
 have ll:=S.ll
 have hl:(l++x).length=l.length+x.length:=aq
 have zt:((l++x).take (l++x).length).length<=sizeLine:=by rw [fH,sizeLine_eq];omega
 refine⟨_,(ag (aW (bo oU (pv 1) (cq T.ck (cB (cB (pv 0) rfl) rfl))) (aj dH) aX) (aj (cW cR rfl (ky rfl T.iQ (a1 (pv 1))) (bB 2 Gu.nd) (aj (fg (il (cB (pv 0) rfl) T.bY T.La (Qh T) hr)))))),?_⟩
 nofun
 refine⟨_,rfl,_,rfl,q,_,dq,_,_,rfl,me,T.dX,T.na_Learner_growth,pC _ _,p,_,dx,_,_,rfl,ob,T.bY,T.na_Growth_text,lI _ _ _ _,_,_,rfl,dD zt,_,_,rfl,rfl,_,rfl,pD (by rw [fH];omega) ?_⟩
 refine⟨_,rfl,_,rfl,by omega,by omega,?_⟩
 refine kI (λi σ H'=>∃r2,σ=[some (.ref q),some (.int (x.length:Int)),r2]/\kP p tb rp H H'/\GO K t.aS p tb rp fr H' f L d (l++x) (l.length+x.length-i) B) ⟨_,rfl,λb o hb _ _ _=>hb,by rw [xx,← hl];exact O.go⟩ ?_ ?_
 ·rintro i _ H1 hi ⟨r2,rfl,k1,G1⟩
  have me1:=k1 _ _ me hne.1 hne.2.1 hne.2.2
  obtain⟨n,hn⟩:∃n,l.length+x.length-i=n+1:=⟨l.length+x.length-i-1,by omega⟩
  rw [hn] at G1
  obtain⟨dy,ob1⟩:=G1.ob
  refine⟨_,rfl,q,_,dq,_,_,rfl,me1,T.dX,T.na_Learner_growth,pC _ _,p,dy,_,rfl,ob1,(fk _ _ _ _).2.2.2.2.2.1,p,tb,rp,fr,f,L,d,l++x,n,B,rfl,G1,S,by omega,hB,λH2 G2 k2=>?_⟩
  refine⟨_,rfl,λb o hb h1 h2 h3=>k2 b o (k1 b o hb h1 h2 h3) h1 h2 h3,?_⟩
  rw [show l.length+x.length-(i+1)=n by omega];exact G2
 ·rintro _ H1 ⟨r2,rfl,k1,G1⟩
  rw [eK,Nat.add_sub_cancel] at G1
  exact k H1 ⟨⟨dq,k1 _ _ me hne.1 hne.2.1 hne.2.2⟩,G1.less⟩ k1
inductive Fh(K:Frag)(D C:Addr)(vs:List V)(H:Hp)(Q:VK)(E0x:XK):Prop where
 | mk (q p tb rp fr:Addr) (f:Nat) (L:List Nat) (d:Nat) (l:List Nat) (B:Nat) (_:vs=[.ref q]) (_:LO K D C q p tb rp fr H f L d l B) (_:Q (vt l) H):Fh K D C vs H Q E0x
theorem oZ(T:Txt K mg t):ar P w K mg base (ay P w) 1 t.wA t.ui ["self"] (Fh K t.bC t.aS):=by
 refine T.oa.F.okm (k:=0) Ni λcdv A outer s H vs Q E hr h=>?_
 obtain⟨q,p,tb,rp,fr,f,L,d,l,B,rfl,O,k⟩:=h
 obtain⟨dq,me⟩:=O.me
 obtain⟨dx,ob⟩:=O.go.ob
 rw [fH] at ob
 refine⟨_,(aj (az (cB (cB (pv 0) rfl) rfl))),?_⟩
 nofun
 exact⟨_,rfl,q,_,dq,_,_,rfl,me,T.dX,T.na_Learner_growth,pC _ _,p,_,dx,_,_,rfl,ob,T.bY,T.na_Growth_text,lI _ _ _ _,k⟩
inductive Ei(K:Frag)(D C:Addr)(vs:List V)(H:Hp)(Q:VK)(E0x:XK):Prop where
 | mk (q p tb rp fr:Addr) (f:Nat) (L:List Nat) (d:Nat) (l:List Nat) (B:Nat) (_:vs=[.ref q]) (_:LO K D C q p tb rp fr H f L d l B) (_:(f::L).length<=100) (_:∀z H',ak H H'->bf K H' z (WT (f::L) f d l).1 (WT (f::L) f d l).2->Q z H'):Ei K D C vs H Q E0x
theorem Qi(T:Txt K mg t):ar P w K mg base (ay P w) 4 t.wV t.uD ["self"] (Ei K t.bC t.aS):=by
 refine T.Lb.F.okm (k:=3) Nt λcdv A outer s H vs Q E hr h=>?_
 obtain⟨q,p,tb,rp,fr,f,L,d,l,B,rfl,O,hL,k⟩:=h
 obtain⟨dq,me⟩:=O.me
 obtain⟨dx,ob⟩:=O.go.ob
 refine⟨_,(aj (az (il (cB (pv 0) rfl) T.bY T.oe (p6 T) hr))),?_⟩
 nofun
 exact⟨_,rfl,q,_,dq,_,_,rfl,me,T.dX,T.na_Learner_growth,pC _ _,p,dx,_,rfl,ob,(fk _ _ _ _).2.2.2.1,p,tb,rp,fr,f,L,d,l,l.length,B,rfl,O.go,hL,λz H1 s1 hz=>k z H1 s1 hz⟩
theorem Of(hM:M<=6)(hd:d<=6):(M+1)^d<=117649 :=
 c7 (Nat.pow_le_pow_left (show M+1<=7 by omega) d) (c7 (ma (by decide) hd) (by decide))
inductive Eo(K:Frag)(vs:List V)(H:Hp)(Q:VK)(E0x:XK):Prop where
 | mk x y A B C D (_:vs=[x,y]) (_:bf K H x A B) (_:bf K H y C D) (_:A<2^9000) (_:B<2^9000) (_:C<2^9000) (_:D<2^9000) (_:Q (.bl (decide (A*D<C*B))) H):Eo K vs H Q E0x
theorem bf.u{B:Int}(h:bf K H x A B):c8 K H x A B/\0<B:=by
 obtain⟨p,n,d,e,h1,h2,h3,h4,h5,h6,h7⟩:=h
 exact⟨⟨p,n,d,e,h1,cx h2,h3,h4,h5⟩,Int.lt_of_lt_of_le h3 h7⟩
theorem Px(T:Txt K mg t):ar P w K mg base (ay P w) 1 t.qa t.pK ["one", "other"] (Eo K):=by
 refine⟨λvs H Q E h=>?_,λA outer s H args us vs Q E hr h0 h1 h2 h=>(@Hw P w K mg base t T).run A outer s H args us vs Q E hr h0 h1 h2 ?_⟩
 ·obtain⟨_,_,_,_,_,_,rfl,_⟩:=h;rfl
 obtain⟨x,y,a,b,c,d,rfl,hx,hy,b1,b2,b3,b4,q⟩:=h
 have g:∀{n:Int},n<2^9000->n<=2^20000:=λh=>aP (cx h) (c9 (by decide))
 exact⟨x,y,a,b,c,d,rfl,hx.u.1,hy.u.1,hx.u.2,hy.u.2,g b1,g b3,g b2,g b4,q⟩
inductive Eu(K:Frag)(vs:List V)(H:Hp)(Q:VK)(E:XK):Prop where
 | mk n (_:n<=6) (_:oF K n vs H Q E):Eu K vs H Q E
theorem Pj(T:Txt K mg t):ar P w K mg base (ay P w) 7 t.lZ t.lL ["letters", "thing", "steps"] (Eu K):=by
 refine⟨λvs H Q E ⟨n,_,h⟩=>(@Bc P w K mg base t T n).len vs H Q E h,λA outer s H args us vs Q E hr h0 h1 h2 ⟨n,hn,h⟩=>?_⟩
 exact((@Bc P w K mg base t T n).mono (show n+1<=7 by omega)).run A outer s H args us vs Q E hr h0 h1 h2 h
inductive Fd(K:Frag)(vs:List V)(H:Hp)(Q:VK)(E0x:XK):Prop where
 | mk (f:Addr) (L:List Nat) (d:Nat) (x:V) (τ:Sh) (_:vs=[.ref f,x]) (_:aG K H f [vt L,.int d]) (_:L.length<=100) (_:d<=6) (_:fF K H x τ) (_:∀H',ak H H'->Q (.bl (dW L.length d τ)) H'):Fd K vs H Q E0x
theorem PJ(T:Txt K mg t):ar P w K mg base (ay P w) 8 t.vx t.t9 ["frame", "thing"] (Fd K):=by
 refine T.KC.F.okm (k:=7) MU λcdv A outer s H vs Q E hr h=>?_
 obtain⟨f,L,d,x,τ,rfl,hf,hL,hd,hx,q⟩:=h
 refine⟨_,(aj (az (pc (Pj T) hr T.CW (cF.h (aE (aK 0) (aE (pv 1) (aE (aK 0) cT))))))),?_⟩
 nofun
 refine⟨_,rfl,aV hf rfl ⟨_,rfl,_,rfl,aV hf rfl ?_⟩⟩
 exact⟨d,hd,L,x,τ,rfl,hL,hx,q⟩
theorem BG{bs:List Sh}(h:dW M n (.tup bs)=true):∃k,n=k+1/\bs.length=M/\∀b ∈ bs,dW M k b=true:=by
 cases n with
 | zero=>cases h
 | succ k =>
   have h':(decide (bs.length=M) && bs.all (dW M k))=true:=h
   rw [fZ,eV] at h'
   exact⟨k,rfl,of_decide_eq_true h'.1,h'.2⟩
theorem sy:dW M n .oth=false:=by cases n<;>rfl
inductive FC(K:Frag)(vs:List V)(H:Hp)(Q:VK)(E0x:XK):Prop where
 | mk (f:Addr) (L:List Nat) (d:Nat) (x:V) (τ:Sh) (_:vs=[.ref f,x]) (_:aG K H f [vt L,.int d]) (_:L.length<=100) (_:d<=6) (_:fF K H x τ) (_:dW L.length d τ=true) (_:∀H',ak H H'->Q x H'):FC K vs H Q E0x
theorem Qc(T:Txt K mg t):ar P w K mg base (ay P w) 9 t.wJ t.uv ["frame", "thing"] (FC K):=by
 refine T.L5.F.okm (k:=8) Nn λcdv A outer s H vs Q E hr h=>?_
 obtain⟨f,L,d,x,τ,rfl,hf,hL,hd,hx,z,h1⟩:=h
 refine⟨_,(ag (aW (dh (du (pc (PJ T) hr T.KC (a2 (pv 0) (pv 1))))) (aj dH) aX) (aj (az (pv 1)))),?_⟩
 nofun
 refine⟨_,rfl,_,rfl,f,L,d,x,τ,rfl,hf,hL,hd,hx,λH' s'=>⟨_,rfl,?_⟩⟩
 rw [z]
 exact bK ⟨_,rfl,h1 H' s'⟩
mutual
noncomputable def wr:Sh->List Nat
 | .non=>[46]
 | .oth=>[]
 | .tup bs=>40::(wrs bs++[41])
noncomputable def wrs:List Sh->List Nat
 | []=>[]
 | b::bs=>wr b++wrs bs
end
theorem ye(bs:List Sh):wr (.tup bs)=40::(wrs bs++[41]):=by rw [wr]
theorem Dp:wr .non=[46]:=by rw [wr]
theorem Dk:wrs []=[]:=by rw [wrs]
theorem Dm(b:Sh)(bs:List Sh):wrs (b::bs)=wr b++wrs bs:=by rw [wrs]
theorem SR:V.str (Str.ofString ".")=vt [46]:=congrArg V.str (by decide +kernel)
theorem OK:V.str (Str.ofString "(")=vt [40]:=congrArg V.str (by decide +kernel)
theorem Tg:V.str (Str.ofString ")")=vt [41]:=congrArg V.str (by decide +kernel)
theorem yd:∀bs:List Sh,(bs.map wr).flatten=wrs bs
 | []=>by rw [Dk];rfl
 | b::bs=>by rw [Dm,bR,jY,yd bs]
theorem Dl:∀bs:List Sh,(∀b ∈ bs,(wr b).length<=B)->(wrs bs).length<=bs.length*B
 | [],_=>by rw [Dk];exact cU _
 | b::bs,h=>by
   have h1:=h b bO
   have h2:=Dl bs λx hx=>h x (df _ hx)
   rw [Dm,aq,d8,jS,Nat.one_mul];omega
theorem Dq:∀n τ,dW M n τ=true->(wr τ).length<=2*(M+1)^n
 | n,.non,_=>by
   rw [Dp]
   have:1<=(M+1)^n:=Nat.pow_pos (by omega)
   show 1<=_;omega
 | n,.oth,h=>by rw [sy] at h;cases h
 | 0,.tup bs,h=>by cases h
 | n+1,.tup bs,h=>by
   obtain⟨k,e,hl,hb⟩:=BG h
   cases e
   have h1:=Dl bs λb hbb=>Dq n b (hb b hbb)
   rw [hl] at h1
   have:1<=(M+1)^n:=Nat.pow_pos (by omega)
   have e1:M*(2*(M+1)^n)=2*(M*(M+1)^n):=by rw [Nat.mul_left_comm]
   have e2:(M+1)^(n+1)=M*(M+1)^n+(M+1)^n:=by rw [Nat.pow_succ,xA,jS,Nat.one_mul]
   rw [ye,d8,aq]
   show _+1+1<=_
   omega
theorem Lu{τ:Sh}(hM:M<=6)(hn:n<=6)(h:dW M n τ=true):(wr τ).length<=235298:=by
 have h1:=Dq n τ h
 have h2:=Of hM hn
 omega
inductive oE(K:Frag)(n:Nat)(vs:List V)(H:Hp)(Q:VK)(E0x:XK):Prop where
 | mk (x:V) (τ:Sh) (M:Nat) (_:vs=[x]) (_:M<=6) (_:n<=6) (_:fF K H x τ) (_:dW M n τ=true) (_:∀H',ak H H'->Q (vt (wr τ)) H'):oE K n vs H Q E0x
theorem Dn(T:Txt K mg t)(n:Nat)(sp:L2.Sp)(hsp:∀k,n=k+1->sp=oE K k)(G_written:ar P w K mg base (ay P w) n t.lW t.lJ ["tree"] sp):
 ar P w K mg base (ay P w) (n+1) t.lW t.lJ ["tree"] (oE K n):=by
 refine T.CH.F.okm (k:=n) MT λcdv A outer s H vs Q E hr h=>?_
 obtain⟨x,τ,M,rfl,hM,hn,hx,ht,q⟩:=h
 refine⟨_,(ag (aW (mQ (AU (pv 0))) (aj (az aO)) aX) (aj (az (ao aM (ao aM aO (fh hZ Cf Ce Ih aO (a1 (iB ["branch"] [none] (di (pv 0)) (λ_ h=>bB 0 h) (λ_=>pc G_written hr T.CH (a1 (pv 0))))))) aO)))),?_⟩
 rw [SR,OK,Tg]
 nofun
 cases hx with
 | non =>
   refine⟨_,rfl,_,rfl,gb ?_⟩
   have:=q H (ak.refl H)
   rw [Dp] at this
   exact this
 | oth h=>rw [sy] at ht;cases ht
 | tup e hl h =>
   rename_i a vs bs
   have hwl:=Lu hM hn ht
   obtain⟨k,rfl,hbM,hb⟩:=BG ht
   have hs:=hsp k rfl
   subst hs
   rw [ye,d8,aq] at hwl
   have hwl:(wrs bs).length+1+1<=235298:=hwl
   refine⟨_,rfl,_,rfl,bK ?_⟩
   refine⟨rfl,_,rfl,.inr (.inl ⟨_,_,rfl,.inl (.inl e),λD hD c=>?_⟩)⟩
   refine sr Dw hD (λ_ j v=>∀b,bs[j]?=some b->v=vt (wr b)) (λ_ _ _ _ _ h=>h) (λH1 s1=>.inl (.inl (s1 _ _ e))) (by rw [sizeLine_eq];omega) ?_ ?_
   ·intro i x H1 ys C hx s1 _ hC
    have hi:=(bh.mp hx).1
    have hbi:=bq (show i<bs.length by omega)
    refine⟨_,rfl,x,bs[i],M,rfl,hM,by omega,(h i x _ hx hbi).same s1,hb _ (jX _),λH' s'=>hC H' _ s' (λb hb'=>?_)⟩
    rw [hbi] at hb';cases hb';rfl
   ·intro H1 ys s1 hy hn' hv
    have hys:ys=(bs.map wr).map vt:=by
     refine jt λj=>?_
     rw [bS,bS]
     cases z:bs[j]? with
     | none =>
       rw [Cr] at z
       rw [fe (by omega)];rfl
     | some b =>
       have hj:=(bh.mp z).1
       have:=bq (show j<ys.length by omega)
       rw [this,hv j _ this b z];rfl
    subst hys
    refine⟨[],D,bs.map wr,gY,rfl,.inl (.inl (.inl hy)),?_,?_⟩
    ·rw [yd];show _+_*0<=_;omega
    rw [v7,yd]
    refine .inr (.inl (aY (by rw [sizeLine_eq];show 1+_<=_;omega) ?_))
    refine .inr (.inl (aY (by rw [sizeLine_eq,aq];show 1+_+1<=_;omega) ?_))
    have:=q H1 s1
    rw [ye] at this
    exact this
theorem B8(T:Txt K mg t):∀n,ar P w K mg base (ay P w) (n+1) t.lW t.lJ ["tree"] (oE K n)
 | 0=>Dn T 0 _ (λ_ h=>nomatch h) B2
 | n+1=>Dn T (n+1) _ (λk h=>by cases h;rfl) (B8 T n)
inductive Ed(K:Frag)(vs:List V)(H:Hp)(Q:VK)(E:XK):Prop where
 | mk n (_:n<=6) (_:oE K n vs H Q E):Ed K vs H Q E
theorem Ph(T:Txt K mg t):ar P w K mg base (ay P w) 7 t.lW t.lJ ["tree"] (Ed K):=by
 refine⟨λvs H Q E ⟨n,_,h⟩=>(@B8 P w K mg base t T n).len vs H Q E h,λA outer s H args us vs Q E hr h0 h1 h2 ⟨n,hn,h⟩=>?_⟩
 exact((@B8 P w K mg base t T n).mono (show n+1<=7 by omega)).run A outer s H args us vs Q E hr h0 h1 h2 h
inductive EK(K:Frag)(vs:List V)(H:Hp)(Q:VK)(E0x:XK):Prop where
 | mk (f:Addr) (L:List Nat) (d:Nat) (x:V) (τ:Sh) (_:vs=[.ref f,x]) (_:aG K H f [vt L,.int d]) (_:L.length<=6) (_:d<=6) (_:fF K H x τ) (_:dW L.length d τ=true) (_:∀H',ak H H'->Q (vt (wr τ)) H'):EK K vs H Q E0x
theorem PY(T:Txt K mg t):ar P w K mg base (ay P w) 10 t.vV t.tU ["frame", "tree"] (EK K):=by
 refine T.KP.F.okm (k:=9) N6 λcdv A outer s H vs Q E hr h=>?_
 obtain⟨f,L,d,x,τ,rfl,hf,hL,hd,hx,z,h1⟩:=h
 refine⟨_,(aj (az (pc (Ph T) hr T.CH (a1 (pc (Qc T) hr T.L5 (a2 (pv 0) (pv 1))))))),?_⟩
 nofun
 refine⟨_,rfl,_,rfl,f,L,d,x,τ,rfl,hf,by omega,hd,hx,z,λH1 s1=>?_⟩
 exact⟨d,hd,x,τ,L.length,rfl,hL,hd,hx.same s1,z,λH2 s2=>h1 H2 (s1.trans s2)⟩
noncomputable def bv(L:List Nat)(f d:Nat)(l:List Nat):Nat->List Nat->Int × Int × Sh
 | 0,k=>if b8 f d l k l.length=true then (cj (aR L f d l k l.length),dY L.length (aR L f d l k l.length).sum,.non) else (1,1,.non)
 | r + 1,k=>if b8 f d l k l.length = true then
     if cj (aR L f d l k l.length)*aQ ((L.map λc=>bv L f d l r (k++[c])).map (·.2.1))<aQ ((L.map λc=>bv L f d l r (k++[c])).map (·.1))*dY L.length (aR L f d l k l.length).sum
     then (aQ ((L.map λc=>bv L f d l r (k++[c])).map (·.1)),2*aQ ((L.map λc=>bv L f d l r (k++[c])).map (·.2.1)),.tup ((L.map λc=>bv L f d l r (k++[c])).map (·.2.2)))
     else (cj (aR L f d l k l.length),2*dY L.length (aR L f d l k l.length).sum,.non)
  else (1,2,.non)
theorem AL:∀{xs:List Int} {es:List Nat},xs.length=es.length->(∀(i:Nat) x e,xs[i]?=some x->es[i]?=some e->x.natAbs<2^e)->(aQ xs).natAbs<2^(1+es.sum)
 | [],[],_,_=>by decide
 | x::xs,e::es,hl,h=>by
   have h1:=h 0 x e rfl rfl
   have h2:=AL (xs:=xs) (es:=es) (by simpa using hl) λi y g hy hg=>h (i+1) y g hy hg
   show (x*aQ xs).natAbs<_
   refine bJ (lu h1 h2) ?_
   rw [dA];omega
 | [],_::_,hl,_=>by cases hl
 | _::_,[],hl,_=>by cases hl
noncomputable def bits(r n:Nat):Nat:=(10+14*(r+1))*n+2
theorem E6(r:Nat)(g:Nat->Nat):∀L:List Nat,(L.map λc=>bits r (g c)).sum=(10+14*(r+1))*(L.map g).sum+2*L.length
 | []=>by simp
 | c::L=>by
   rw [bR,dA,bR,dA,E6 r g L,d8]
   unfold bits
   generalize 10+14*(r+1)=C
   rw [Nat.mul_add];omega
theorem Ua(r n:Nat):bits r n=10*n+14*((r+1)*n)+2:=by unfold bits;rw [jS,Nat.mul_assoc]
theorem v5{r:Nat}(h:1<=n):10*n+14<=bits r n:=by
 have:1<=(r+1)*n:=Nat.mul_pos (Nat.succ_pos r) h
 rw [Ua];omega
theorem C7{r:Nat}(h:1<=n)(hM:M<=6):2+(1+((10+14*(r+1))*n+2*M))<=bits (r+1) n:=by
 unfold bits
 have e:(10+14*(r+1+1))*n=(10+14*(r+1))*n+14*n:=by rw [← jS];congr 1
 rw [e]
 generalize (10+14*(r+1))*n=X
 omega
theorem uZ(r n:Nat):2<=bits r n:=by unfold bits;generalize (10+14*(r+1))*n=X;omega
structure Dh(L:List Nat)(f d:Nat)(l:List Nat)(r:Nat)(k:List Nat):Prop where
 a1:1<=(bv L f d l r k).1
 b1:1<=(bv L f d l r k).2.1
 ab:(bv L f d l r k).1.natAbs<2^bits r (sg f d l k l.length).length
 bb:(bv L f d l r k).2.1.natAbs<2^bits r (sg f d l k l.length).length
 tr:dW L.length r (bv L f d l r k).2.2=true
structure Uv(L:List Nat)(f d:Nat)(l:List Nat)(r:Nat)(k:List Nat):Prop where
 a1:1<=aQ ((L.map λc=>bv L f d l r (k++[c])).map (·.1))
 b1:1<=aQ ((L.map λc=>bv L f d l r (k++[c])).map (·.2.1))
 ab:(aQ ((L.map λc=>bv L f d l r (k++[c])).map (·.1))).natAbs<2^(1+((10+14*(r+1))*(sg f d l k l.length).length+2*L.length))
 bb:(aQ ((L.map λc=>bv L f d l r (k++[c])).map (·.2.1))).natAbs<2^(1+((10+14*(r+1))*(sg f d l k l.length).length+2*L.length))
theorem JJ(hL:L.Nodup)(hf:f ∈ L)(hl:∀c ∈ l,c ∈ L){r:Nat}(hk:k.length<d)(ih:∀c ∈ L,Dh L f d l r (k++[c])):Uv L f d l r k:=by
 have hs:=yx hL hf hl hk l.length (aI _)
 have hb:=E6 r (λc=>(sg f d l (k++[c]) l.length).length) L
 rw [hs] at hb
 have g1:∀(i:Nat) x e,((L.map λc=>bv L f d l r (k++[c])).map (·.1))[i]?=some x->(L.map λc=>bits r (sg f d l (k++[c]) l.length).length)[i]?=some e->x.natAbs<2^e:=λi x e hx he=>by
  rw [d7,bS] at hx
  rw [bS] at he
  cases hc:L[i]? with
  | none=>rw [hc] at hx;cases hx
  | some c =>
    rw [hc] at hx he
    cases hx;cases he
    exact(ih c (eU hc)).ab
 have g2:∀(i:Nat) x e,((L.map λc=>bv L f d l r (k++[c])).map (·.2.1))[i]?=some x->(L.map λc=>bits r (sg f d l (k++[c]) l.length).length)[i]?=some e->x.natAbs<2^e:=λi x e hx he=>by
  rw [d7,bS] at hx
  rw [bS] at he
  cases hc:L[i]? with
  | none=>rw [hc] at hx;cases hx
  | some c =>
    rw [hc] at hx he
    cases hx;cases he
    exact(ih c (eU hc)).bb
 refine⟨ku λx hx=>?_,ku λx hx=>?_,?_,?_⟩
 ·rw [d7] at hx
  obtain⟨c,hc,rfl⟩:=i7.mp hx
  exact(ih c hc).a1
 ·rw [d7] at hx
  obtain⟨c,hc,rfl⟩:=i7.mp hx
  exact(ih c hc).b1
 ·have:=AL (by simp) g1
  rw [hb] at this;exact this
 ·have:=AL (by simp) g2
  rw [hb] at this;exact this
theorem JI(hL:L.Nodup)(hM:L.length<=6)(hf:f ∈ L)(hl:∀c ∈ l,c ∈ L)(hn:l.length<=110):∀r k,k.length+r=d->Dh L f d l r k:=by
 intro r
 have h1M:1<=L.length:=Cp hf
 have hsum:∀k,(aR L f d l k l.length).sum=(sg f d l k l.length).length:=λk=>oI hL hl _ (aI _)
 have hle:∀k,(sg f d l k l.length).length<=110:=λk=>c7 (j7 ..) hn
 have tb:∀k,1<=cj (aR L f d l k l.length)/\(cj (aR L f d l k l.length)).natAbs<2^(7+10*(sg f d l k l.length).length):=λk=>by
  have h:=qV (aR L f d l k l.length) (by rw [hsum];have:=hle k;omega)
  rw [hsum,iV] at h
  exact⟨by omega,bJ h.2 (by omega)⟩
 have bb:∀k,1<=dY L.length (aR L f d l k l.length).sum/\(dY L.length (aR L f d l k l.length).sum).natAbs<2^(1+10*(sg f d l k l.length).length):=λk=>by
  have h:=pV h1M (by omega) (aR L f d l k l.length).sum (by rw [hsum];have:=hle k;omega)
  rw [hsum] at h ⊢
  exact⟨by omega,h.2⟩
 induction r with
 | zero =>
   intro k hk
   cases z:b8 f d l k l.length with
   | true =>
     have e:bv L f d l 0 k=(cj (aR L f d l k l.length),dY L.length (aR L f d l k l.length).sum,.non):=by
      show (if b8 f d l k l.length=true then _ else _)=_
      rw [if_pos z]
     have hN:=mH z
     constructor<;>rw [e]
     ·exact(tb k).1
     ·exact(bb k).1
     ·exact bJ (tb k).2 (by have:=v5 (r:=0) hN;omega)
     ·exact bJ (bb k).2 (by have:=v5 (r:=0) hN;omega)
     ·rfl
   | false =>
     have e:bv L f d l 0 k=(1,1,.non):=by
      show (if b8 f d l k l.length=true then _ else _)=_
      rw [if_neg (by rw [z];decide)]
     constructor<;>rw [e]
     ·decide
     ·decide
     ·exact bJ (show (1:Int).natAbs<2^2 by decide) (uZ _ _)
     ·exact bJ (show (1:Int).natAbs<2^2 by decide) (uZ _ _)
     ·rfl
 | succ r ih =>
   intro k hk
   have ch:=JJ hL hf hl (r:=r) (k:=k) (by omega) λc _=>ih (k++[c]) (by rw [aq];show _+1+_=_;omega)
   cases z:b8 f d l k l.length with
   | true =>
     have hN:=mH z
     by_cases u:cj (aR L f d l k l.length)*aQ ((L.map λc=>bv L f d l r (k++[c])).map (·.2.1))<aQ ((L.map λc=>bv L f d l r (k++[c])).map (·.1))*dY L.length (aR L f d l k l.length).sum
     ·have e:bv L f d l (r+1) k=(aQ ((L.map λc=>bv L f d l r (k++[c])).map (·.1)),2*aQ ((L.map λc=>bv L f d l r (k++[c])).map (·.2.1)),.tup ((L.map λc=>bv L f d l r (k++[c])).map (·.2.2))):=by
       show (if b8 f d l k l.length=true then _ else _)=_
       rw [if_pos z,if_pos u]
      constructor<;>rw [e]
      ·exact ch.a1
      ·have:=ch.b1;show 1<=2*_;omega
      ·exact bJ ch.ab (by have:=C7 (r:=r) hN hM;omega)
      ·exact bJ (lu (x:=2) (a:=2) (by decide) ch.bb) (C7 hN hM)
      ·show (decide (_=L.length) && _)=true
       rw [decide_eq_true (by simp),y9,eV]
       intro x hx
       rw [d7] at hx
       obtain⟨c,hc,rfl⟩:=i7.mp hx
       exact(ih (k++[c]) (by rw [aq];show _+1+_=_;omega)).tr
     ·have e:bv L f d l (r+1) k=(cj (aR L f d l k l.length),2*dY L.length (aR L f d l k l.length).sum,.non):=by
       show (if b8 f d l k l.length=true then _ else _)=_
       rw [if_pos z,if_neg u]
      constructor<;>rw [e]
      ·exact(tb k).1
      ·have:=(bb k).1;show 1<=2*_;omega
      ·exact bJ (tb k).2 (by have:=v5 (r:=r+1) hN;omega)
      ·exact bJ (lu (x:=2) (a:=2) (by decide) (bb k).2) (by have:=v5 (r:=r+1) hN;omega)
      ·rfl
   | false =>
     have e:bv L f d l (r+1) k=(1,2,.non):=by
      show (if b8 f d l k l.length=true then _ else _)=_
      rw [if_neg (by rw [z];decide)]
     constructor<;>rw [e]
     ·decide
     ·decide
     ·exact bJ (show (1:Int).natAbs<2^2 by decide) (uZ _ _)
     ·exact bJ (show (2:Int).natAbs<2^2 by decide) (uZ _ _)
     ·rfl
theorem fF.minus{ys:List V}(hD:H D=some (.lst ys)):∀(n:Nat) {x:V} {τ:Sh},dW M n τ=true->fF K H x τ->fF K (mn H D) x τ:=by
 intro n
 induction n with
 | zero =>
   intro x τ ht hx
   cases hx with
   | non=>exact .non
   | oth h=>rw [sy] at ht;cases ht
   | tup e hl h=>cases ht
 | succ n ih =>
   intro x τ ht hx
   cases hx with
   | non=>exact .non
   | oth h=>rw [sy] at ht;cases ht
   | tup e hl h =>
     obtain⟨k,ek,hbl,hbs⟩:=BG ht
     cases ek
     exact .tup (n4 e (Bj hD e)) hl λi v b hv hb=>ih (hbs b (eU hb)) (h i v b hv hb)
noncomputable def j4(K:Frag)(H:Hp)(x:V)(e:Int × Int × Sh):Prop:=∃p fr tr,x=.ref p/\H p=some (.tup [fr,tr])/\bf K H fr e.1 e.2.1/\fF K H tr e.2.2
theorem j4.same{e:Int × Int × Sh}(h:j4 K H x e)(g:ak H H'):j4 K H' x e:=by
 obtain⟨p,fr,tr,ex,h1,h2,h3⟩:=h
 exact⟨p,fr,tr,ex,g _ _ h1,h2.same g,h3.same g⟩
theorem j4.minus{ys:List V}(hD:H D=some (.lst ys)){e:Int × Int × Sh}(ht:dW M n e.2.2=true)(h:j4 K H x e):j4 K (mn H D) x e:=by
 obtain⟨p,fr,tr,ex,h1,h2,h3⟩:=h
 exact⟨p,fr,tr,ex,n4 h1 (Bj hD h1),h2.minus hD,h3.minus hD n ht⟩
inductive FP(K:Frag)(vs:List V)(H:Hp)(Q:VK)(E0x:XK):Prop where
 | mk (p:Addr) (L k:List Nat) (d:Nat) (_:vs=[.ref p,vt k]) (_:aG K H p [vt L,.int d]) (_:k.length<=100) (_:∀H' z,ak H H'->j4 K H' z (1,if k.length=d then 1 else 2,.non)->Q z H'):FP K vs H Q E0x
theorem Qf(T:Txt K mg t):ar P w K mg base (ay P w) 4 t.wN t.uz ["frame", "knot"] (FP K):=by
 refine T.L8.F.okm (k:=3) Np λcdv A outer s H vs Q E hr h=>?_
 obtain⟨p,L,k,d,rfl,hp,hk,q⟩:=h
 have zk:k.length<=sizeLine:=by rw [sizeLine_eq];omega
 refine⟨_,(ag (aW (bo (dR (hr.units0)) (cq T.ck (pv 1)) (aK 0)) (aj (az (fB (a2 (ja (v:=.ref t.q_ONE) rfl T.pq rfl) rM)))) aX) (aj (az (fB (a2 (pc (B5 T) hr T.qA (a1 (ja (v:=.ref t.q_ONE) rfl T.pq rfl))) rM))))),?_⟩
 nofun
 refine⟨_,rfl,_,_,rfl,dD zk,_,rfl,aV hp rfl (.inl ⟨rfl,_,rfl,dr (λz=>?_) (λz=>?_)⟩)⟩
 ·have hz:k.length=d:=by have:=V.int.inj z;omega
  rw [if_pos hz] at q
  refine⟨by rw [sizeLine_eq];show 2<=_;decide,λr hr0=>?_⟩
  exact q _ _ (bL hr0 _) ⟨r,_,_,rfl,aA,rO T _,.non⟩
 ·have hz:¬ k.length=d:=λe=>z (by rw [e])
  rw [if_neg hz] at q
  refine⟨_,1,1,rfl,rO T _,by decide,by decide,λH1 y s1 hy=>?_⟩
  refine⟨by rw [sizeLine_eq];show 2<=_;decide,λr hr0=>?_⟩
  exact q _ _ (fQ hr0 s1) ⟨r,_,_,rfl,aA,hy.same (bL hr0 _),.non⟩
structure xj(f:Nat)(L l:List Nat)(d:Nat):Prop where
 nd:(f::L).Nodup
 l6:(f::L).length<=6
 d6:d<=6
 ll:l.length<=110
 lb:l.length*(10+14*(d+1))<=8000
 al:∀c ∈ l,c ∈ f::L
theorem xj.bits(h:xj f L l d){r:Nat}(hr:r<=d):Bp.bits r (sg f d l k l.length).length<=8002:=by
 have h1:=j7 f d l k l.length
 have h2:=h.lb
 unfold Bp.bits
 have:(10+14*(r+1))*(sg f d l k l.length).length<=l.length*(10+14*(d+1)):=by
  rw [xA]
  exact md h1 (by omega)
 omega
inductive oH(K:Frag)(r:Nat)(vs:List V)(H:Hp)(Q:VK)(E0x:XK):Prop where
 | mk (p tb:Addr) (f:Nat) (L l k:List Nat) (d:Nat) (kvs:List (aU × V)) (_:vs=[.ref p,.ref tb,vt k]) (_:aG K H p [vt (f::L),.int d]) (_:H tb=some (.dK kvs)) (_:iY (f::L) f d l H kvs (λ_=>l.length)) (_:k.length+r=d) (_:xj f L l d) (_:∀H' z,ak H H'->j4 K H' z (bv (f::L) f d l r k)->Q z H'):oH K r vs H Q E0x
theorem JX(T:Txt K mg t)(r:Nat)(sp:L2.Sp)(hsp:∀k,r=k+1->sp=oH K k)(G_best_from:ar P w K mg base (ay P w) (4+r) t.lY t.lK ["frame", "table", "knot"] sp):
 ar P w K mg base (ay P w) (4+r+1) t.lY t.lK ["frame", "table", "knot"] (oH K r):=by
 refine T.CQ.F.okm (k:=4+r) rA λcdv A outer s H vs Q E hr h=>?_
 obtain⟨p,tb,f,L,l,k,d,kvs,rfl,hp,htb,hT,hkr,hS,q⟩:=h
 have G_best_of_none:=(@Qf P w K mg base t T).mono (show 4<=4+r by omega)
 have G_worth:=(@Pu P w K mg base t T).mono (show 3<=4+r by omega)
 have G_product:=(@HC P w K mg base t T).mono (show 4<=4+r by omega)
 have G_half:=(@B5 P w K mg base t T).mono (show 3<=4+r by omega)
 have G_under:=(@Px P w K mg base t T).mono (show 1<=4+r by omega)
 have hfm:f ∈ f::L:=bO
 have ll:=hS.ll
 have l6:=hS.l6
 have d6:=hS.d6
 have zk:k.length<=sizeLine:=by rw [sizeLine_eq];omega
 have hL1:1<=(f::L).length:=by simp
 refine⟨_,(ag (aW (mQ (AV (hG hr) (pv 2) (pv 1))) (aj (az (pc G_best_of_none hr T.L8 (a2 (pv 0) (pv 2))))) aX) (ag (aC 3 rA.nd (pc G_worth hr T.Kv (a1 (AR (hG hr) (pv 1) (pv 2) (λ_ _=>rfl))))) (ag (aW (bo (dR (hr.units0)) (cq T.ck (pv 2)) (aK 0)) (aj (az (fB (a2 (pv 3) rM)))) aX) (ag (Ga 4 rA.nd ["letter", "frame", "table", "knot"] [none,some 0,some 1,some 2] (di (aK 0)) (λ_ h=>bB 0 h) (λ_=>pc G_best_from hr T.CQ (cF.h (aE (pv 1) (aE (pv 2) (aE (ao aM (pv 3) (pv 0)) cT)))))) (ag (aC 5 rA.nd (pc G_product hr T.CJ (a1 (iB ["branch"] [none] (di (pv 4)) (λ_ h=>bB 0 h) (λ_=>aK 0))))) (ag (aW (du (pc G_under hr T.CG (a2 (pv 3) (pv 5)))) (aj (az (fB (a2 (pc G_half hr T.qA (a1 (pv 5))) (mW Tz rfl T.Ik JK (a1 (iB ["branch"] [none] (di (pv 4)) (λ_ h=>bB 0 h) (λ_=>aK 0)))))))) aX) (aj (az (fB (a2 (pc G_half hr T.qA (a1 (pv 3))) rM)))))))))),?_⟩
 nofun
 refine⟨_,rfl,_,rfl,tb,_,rfl,eW.k (k:=key k) htb,_,rfl,?_⟩
 cases hv:aZ kvs (key k) with
 | none =>
   have us:=hT.non k hv
   refine gb ⟨_,rfl,_,rfl,p,f::L,k,d,rfl,hp,by omega,λH1 z s1 hz=>q H1 z s1 ?_⟩
   have e:bv (f::L) f d l r k=(1,if k.length=d then 1 else 2,.non):=by
    cases r with
    | zero =>
      show (if b8 f d l k l.length=true then _ else _)=_
      rw [if_neg (by rw [us];decide),if_pos (by omega)]
    | succ r =>
      show (if b8 f d l k l.length=true then _ else _)=_
      rw [if_neg (by rw [us];decide),if_neg (by omega)]
   rw [e];exact hz
 | some u =>
   obtain⟨a,rfl,ea,hse⟩:=hT.som k u hv
   refine bK ?_
   have hcs:=oI (f:=f) (d:=d) (kn:=k) hS.nd hS.al l.length (aI _)
   have hsl:=j7 f d l k l.length
   refine⟨_,rfl,_,rfl,tb,_,rfl,hv ▸ eW.k (k:=key k) htb,?_⟩
   refine⟨a,aR (f::L) f d l k l.length,rfl,.inl (.inl ea),by omega,by rw [iV];exact hL1,by rw [iV];omega,λlf hlf=>?_⟩
   rw [iV]
   have tb1:=qV (aR (f::L) f d l k l.length) (by omega)
   have bb1:=pV hL1 (by omega) (aR (f::L) f d l k l.length).sum (by omega)
   rw [iV] at tb1
   generalize htop:cj (aR (f::L) f d l k l.length)=tp at tb1 ⊢
   generalize hbot:dY (f::L).length (aR (f::L) f d l k l.length).sum=bt at bb1 ⊢
   have s1:ak H (ai H lf (.tup [.int (cn tp bt),.int (cI tp bt)])):=bL hlf _
   have fl:bf K (ai H lf (.tup [.int (cn tp bt),.int (cI tp bt)])) (.ref lf) tp bt:=bf.made tb1.1 bb1.1 (.inl (.inl aA))
   generalize ai H lf (.tup [.int (cn tp bt),.int (cI tp bt)])=H1 at s1 fl ⊢
   have tlt:tp<2^8990:=jh (bJ tb1.2 (by omega))
   have blt:bt<2^8990:=jh (bJ bb1.2 (by omega))
   have hp1:=bX s1 hp
   refine⟨_,rfl,_,_,rfl,dD zk,_,rfl,aV hp1 rfl (.inl ⟨rfl,_,rfl,dr (λz=>?_) (λz=>?_)⟩)⟩
   ·have hz:k.length=d:=by have:=V.int.inj z;omega
    have r0:r=0:=by omega
    subst r0
    have e:bv (f::L) f d l 0 k=(tp,bt,.non):=by
     show (if b8 f d l k l.length=true then _ else _)=_
     rw [if_pos hse,htop,hbot]
    rw [e] at q
    refine⟨_,rfl,by rw [sizeLine_eq];show 2<=_;decide,λr hr0=>?_⟩
    exact q _ _ (fQ hr0 s1) ⟨r,_,_,rfl,aA,fl.same (bL hr0 _),.non⟩
   have hz:¬ k.length=d:=λe=>z (by rw [e])
   obtain⟨r',rfl⟩:∃r',r=r'+1:=⟨r-1,by omega⟩
   have hsp':=hsp r' rfl
   subst hsp'
   have hbvc:∀c ∈ f::L,Dh (f::L) f d l r' (k++[c]):=λc _=>JI hS.nd l6 hfm hS.al ll r' (k++[c]) (by rw [aq];show _+1+_=_;omega)
   have hch:=JJ hS.nd hfm hS.al (r:=r') (k:=k) (by omega) hbvc
   have hN:=mH hse
   have hbt:=C7 (r:=r') (M:=(f::L).length) hN l6
   have hb8:=hS.bits (k:=k) (show r'+1<=d by omega)
   refine⟨_,rfl,aV hp1 rfl (.inr (.inr ⟨_,rfl,λD hD c=>?_⟩))⟩
   refine sr (fw (f::L)) hD (λH2 j v=>∀c,(f::L)[j]?=some c->j4 K (mn H2 D) v (bv (f::L) f d l r' (k++[c]))) (λH2 H3 j v up h c hc=>(h c hc).same (lz up)) (λ_ _=>trivial) (by rw [aT,sizeLine_eq];omega) ?_ ?_
   ·intro i x H2 ys C hx s2 hD2 hC
    obtain⟨c,hc,rfl⟩:=fL hx
    have s12:=s1.trans s2
    refine⟨_,rfl,_,rfl,_,rfl,_,rfl,.inr (.inl (aY (by rw [sizeLine_eq];show _+1<=_;omega) ?_))⟩
    refine⟨p,tb,f,L,l,k++[c],d,kvs,rfl,bX s2 hp1,s12 _ _ htb,hT.same s12,by rw [aq];show _+1+_=_;omega,hS,λH3 z s3 hz=>hC H3 z s3 λc' hc'=>?_⟩
    rw [hc] at hc'
    cases hc'
    exact hz.minus (s3 _ _ hD2) (hbvc c (eU hc)).tr
   intro H2 ys s2 hD2 hyl hR
   rw [aT] at hyl
   have s12:=s1.trans s2
   have hR':∀(j:Nat) v c,ys[j]?=some v->(f::L)[j]?=some c->j4 K H2 v (bv (f::L) f d l r' (k++[c])):=λj v c hv hc=>(hR j v hv c hc).same (lA H2 D)
   clear hR
   have fl2:=fl.same s2
   refine⟨_,rfl,.inl ⟨D,_,rfl,.inl (.inl hD2),λD2 hDD c2=>?_⟩⟩
   refine BB (iK (xs:=ys)) (λj v=>∀c,(f::L)[j]?=some c->bf K H2 v (bv (f::L) f d l r' (k++[c])).1 (bv (f::L) f d l r' (k++[c])).2.1) (λzs=>.inl (.inl (by rw [au (bQ hD2 hDD)];exact hD2))) (by rw [sizeLine_eq];omega) ?_ ?_
   ·intro i x zs C hx hC
    have hi:=(bh.mp hx).1
    have hc:=bq (show i<(f::L).length by omega)
    obtain⟨pb,fr,tr,rfl,e1,e2,e3⟩:=hR' i x _ hx hc
    refine⟨_,rfl,aV (.inl (.inl (by rw [au (bQ e1 hDD)];exact e1))) rfl (hC _ λc hc'=>?_)⟩
    rw [hc] at hc';cases hc'
    exact e2
   intro zs hzl hz
   rw [hyl] at hzl
   have s3:ak H2 (ai H2 D2 (.lst zs)):=bL hDD _
   have eD3:ai H2 D2 (.lst zs) D2=some (.lst zs):=aA
   generalize ai H2 D2 (.lst zs)=H3 at s3 eD3 ⊢
   have mle:∀{g:Int × Int × Sh->Int} (hg:∀c ∈ f::L,1<=g (bv (f::L) f d l r' (k++[c]))) (i:Nat),aQ ((((f::L).map λc=>bv (f::L) f d l r' (k++[c])).map g).take i)<=aQ (((f::L).map λc=>bv (f::L) f d l r' (k++[c])).map g):=λ {g} hg i=>by
    have hall:∀x ∈ (((f::L).map λc=>bv (f::L) f d l r' (k++[c])).map g),1<=x:=λx hx=>by
     rw [d7] at hx
     obtain⟨c,hc,rfl⟩:=i7.mp hx
     exact hg c hc
    have:=Hi (a:=(((f::L).map λc=>bv (f::L) f d l r' (k++[c])).map g).take i) (b:=(((f::L).map λc=>bv (f::L) f d l r' (k++[c])).map g).drop i) (λx hx=>hall x (nU hx)) (λx hx=>hall x (xG hx))
    rw [kO] at this
    exact this
   have PA:=jh (bJ hch.ab (show _<=8980 by omega))
   have PB:=jh (bJ hch.bb (show _<=8980 by omega))
   have up80:∀{x:Int} {b:Nat},x<2^8980->8980<=b->x<2^b:=λ {x b} hx hb=>by
    refine Int.lt_of_lt_of_le hx ?_
    have h1:((2^8980:Nat):Int)<=((2^b:Nat):Int):=Int.ofNat_le.mpr (ma (by decide) hb)
    rw [k5,k5] at h1
    exact h1
   have m1:(((f::L).map λc=>bv (f::L) f d l r' (k++[c])).map λe=>(e.1,e.2.1)).map (λ(x:Int × Int)=>x.1)=((f::L).map λc=>bv (f::L) f d l r' (k++[c])).map (·.1):=by rw [d7];rfl
   have m2:(((f::L).map λc=>bv (f::L) f d l r' (k++[c])).map λe=>(e.1,e.2.1)).map (λ(x:Int × Int)=>x.2)=((f::L).map λc=>bv (f::L) f d l r' (k++[c])).map (·.2.1):=by rw [d7];rfl
   refine⟨D2,zs,((f::L).map λc=>bv (f::L) f d l r' (k++[c])).map λe=>(e.1,e.2.1),rfl,.inl (.inl eD3),by rw [aT,aT];exact hzl,?_,λi=>?_,?_,λH4 br s4 hbr=>?_⟩
   ·intro i x e hx he
    rw [d7,bS] at he
    cases hc:(f::L)[i]? with
    | none=>rw [hc] at he;cases he
    | some c =>
      rw [hc] at he
      cases he
      exact(hz i x hx c hc).same s3
   ·rw [List.map_take,List.map_take,m1,m2]
    exact⟨up80 (xS (mle (g:=(·.1)) (λc hc=>(hbvc c hc).a1) i) PA) (by decide),up80 (xS (mle (g:=(·.2.1)) (λc hc=>(hbvc c hc).b1) i) PB) (by decide)⟩
   ·intro e he
    rw [d7] at he
    obtain⟨c,hc,rfl⟩:=i7.mp he
    have hb9:=hS.bits (k:=k++[c]) (show r'<=d by omega)
    exact⟨jh (bJ (hbvc c hc).ab (by omega)),jh (bJ (hbvc c hc).bb (by omega))⟩
   rw [m1,m2] at hbr
   replace hbr:bf K H4 br (aQ (((f::L).map λc=>bv (f::L) f d l r' (k++[c])).map (·.1))) (aQ (((f::L).map λc=>bv (f::L) f d l r' (k++[c])).map (·.2.1))):=hbr
   have s24:=s3.trans s4
   refine⟨_,rfl,_,rfl,.ref lf,br,tp,bt,_,_,rfl,fl2.same s24,hbr,up80 (by exact jh (bJ tb1.2 (by omega))) (by decide),up80 (by exact jh (bJ bb1.2 (by omega))) (by decide),up80 PA (by decide),up80 PB (by decide),_,rfl,?_⟩
   refine dr (λu=>?_) (λu=>?_)
   ·have e:bv (f::L) f d l (r'+1) k=(aQ (((f::L).map λc=>bv (f::L) f d l r' (k++[c])).map (·.1)),2*aQ (((f::L).map λc=>bv (f::L) f d l r' (k++[c])).map (·.2.1)),.tup (((f::L).map λc=>bv (f::L) f d l r' (k++[c])).map (·.2.2))):=by
     show (if b8 f d l k l.length=true then _ else _)=_
     rw [if_pos hse,if_pos (by rw [htop,hbot];exact u)]
    rw [e] at q
    refine⟨_,rfl,br,_,_,rfl,hbr,up80 PA (by decide),up80 PB (by decide),λH5 hf s5 hhf=>?_⟩
    have s25:=s24.trans s5
    have eD5:=s25 _ _ hD2
    refine⟨_,rfl,.inl ⟨D,_,rfl,.inl (.inl eD5),λD3 hD3 c3=>?_⟩⟩
    refine BB (iK (xs:=ys)) (λj v=>∀c,(f::L)[j]?=some c->fF K H5 v (bv (f::L) f d l r' (k++[c])).2.2) (λzs=>.inl (.inl (by rw [au (bQ eD5 hD3)];exact eD5))) (by rw [sizeLine_eq];omega) ?_ ?_
    ·intro i x zs C hx hC
     have hi:=(bh.mp hx).1
     have hc:=bq (show i<(f::L).length by omega)
     obtain⟨pb,fr,tr,rfl,e1,e2,e3⟩:=(hR' i x _ hx hc).same s25
     refine⟨_,rfl,aV (.inl (.inl (by rw [au (bQ e1 hD3)];exact e1))) rfl (hC _ λc hc'=>?_)⟩
     rw [hc] at hc';cases hc'
     exact e3
    intro ts htl hts
    rw [hyl] at htl
    refine⟨D3,ts,rfl,.inl ⟨.inl (.inl aA),λtr htr=>?_⟩⟩
    have s6:ak H5 (ai (ai H5 D3 (.lst ts)) tr (.tup ts)):=fQ htr (bL hD3 _)
    have e6:ai (ai H5 D3 (.lst ts)) tr (.tup ts) tr=some (.tup ts):=aA
    generalize ai (ai H5 D3 (.lst ts)) tr (.tup ts)=H6 at s6 e6 ⊢
    refine⟨by rw [sizeLine_eq];show 2<=_;decide,λrr hrr=>?_⟩
    refine q _ _ (fQ hrr (s12.trans (s25.trans s6))) ⟨rr,_,_,rfl,aA,(hhf.same s6).same (bL hrr _),.tup (pd hrr e6) (by rw [aT,aT];exact htl) λi v b hv hb=>?_⟩
    rw [d7,bS] at hb
    cases hc:(f::L)[i]? with
    | none=>rw [hc] at hb;cases hb
    | some c =>
      rw [hc] at hb
      cases hb
      exact((hts i v hv c hc).same s6).same (bL hrr _)
   ·have e:bv (f::L) f d l (r'+1) k=(tp,2*bt,.non):=by
     show (if b8 f d l k l.length=true then _ else _)=_
     rw [if_pos hse,if_neg (by rw [htop,hbot];exact u),htop,hbot]
    rw [e] at q
    refine⟨_,rfl,.ref lf,tp,bt,rfl,fl2.same s24,tlt,blt,λH5 hf s5 hhf=>?_⟩
    refine⟨by rw [sizeLine_eq];show 2<=_;decide,λrr hrr=>?_⟩
    exact q _ _ (fQ hrr (s12.trans (s24.trans s5))) ⟨rr,_,_,rfl,aA,hhf.same (bL hrr _),.non⟩
theorem Bb(T:Txt K mg t):∀r,ar P w K mg base (ay P w) (4+r+1) t.lY t.lK ["frame", "table", "knot"] (oH K r)
 | 0=>JX T 0 _ (λ_ h=>nomatch h) B2
 | r+1=>JX T (r+1) _ (λk h=>by cases h;rfl) (Bb T r)
inductive FQ(K:Frag)(vs:List V)(H:Hp)(Q:VK)(E:XK):Prop where
 | mk n (_:n<=6) (_:oH K n vs H Q E):FQ K vs H Q E
theorem Pr(T:Txt K mg t):ar P w K mg base (ay P w) 11 t.lY t.lK ["frame", "table", "knot"] (FQ K):=by
 refine⟨λvs H Q E ⟨n,_,h⟩=>(@Bb P w K mg base t T n).len vs H Q E h,λA outer s H args us vs Q E hr h0 h1 h2 ⟨n,hn,h⟩=>?_⟩
 exact((@Bb P w K mg base t T n).mono (show 4+n+1<=11 by omega)).run A outer s H args us vs Q E hr h0 h1 h2 h
inductive FL(K:Frag)(vs:List V)(H:Hp)(Q:VK)(E0x:XK):Prop where
 | mk (p:Addr) (f:Nat) (L l:List Nat) (d:Nat) (_:vs=[.ref p,vt l]) (_:aG K H p [vt (f::L),.int d]) (_:(f::L).Nodup) (_:(f::L).length<=6) (_:d<=6) (_:l.length<=110) (_:(∀c ∈ l,c ∈ f::L)) (_:(xj f L l d/\∀H' z,ak H H'->j4 K H' z (bv (f::L) f d l d [])->Q z H')):FL K vs H Q E0x
theorem Pt(T:Txt K mg t):ar P w K mg base (ay P w) 12 t.vg t.sT ["frame", "text"] (FL K):=by
 refine T.Ku.F.okm (k:=11) MM λcdv A outer s H vs Q E hr h=>?_
 obtain⟨p,f,L,l,d,rfl,hp,hnd,hL6,hd,hll,hall,hS,q⟩:=h
 refine⟨_,(aj (az (pc (Pr T) hr T.CQ (cF.h (aE (pv 0) (aE (pc (Q5 T) hr T.KW (a2 (pv 0) (pc (oX T) hr T.o7 (a2 (pv 0) (pv 1))))) (aE aO cT))))))),?_⟩
 nofun
 refine⟨_,rfl,_,rfl,_,rfl,_,rfl,p,f::L,_,l,rfl,hp,hall,?_⟩
 refine⟨p,f,L,d,l,rfl,hp,hnd,by omega,hd,by omega,hall,λtb H1 kvs s1 _ e1 _ hT=>?_⟩
 exact⟨d,hd,p,tb,f,L,l,[],d,kvs,by rw [← gY];rfl,bX s1 hp,e1,hT,by show 0+d=d;omega,hS,λH2 z s2 hz=>q H2 z (s1.trans s2) hz⟩
noncomputable def wd(s:String):List Nat:=(Str.ofString s).cps.toList
theorem wd_str(s:String):V.str (Str.ofString s)=vt (wd s):=rfl
theorem uY:V.str (Str.ofString " ")=vt [32]:=congrArg V.str (by decide +kernel)
noncomputable def ij:List (Str × Int):=[("frame",4),("learn",3),("back",3),("held",2),("weight",2),("chance",3),("tree",2),("press",3),("read",4),("wrap",2),("unwrap",3)]
structure kM(h:List Nat)(r:List (List Nat)):Prop where
 sz:(tx h,((r.length+1:Nat):Int)) ∈ ij
 sg:∀w ∈ h::r,∀c ∈ w,dm c=true/\c ≠ 32
 ln:(bT [32] (h::r)).length<=20000
theorem JZ{x:Nat}:∀{ws:List (List Nat)},x ∈ bT [c] ws->x=c\/∃w ∈ ws,x ∈ w
 | [],h=>nomatch h
 | [w],h=>.inr ⟨w,bO,h⟩
 | w::v::r,h=>by
   rw [gk] at h
   rcases cD.mp h with z | z
   ·exact .inr ⟨w,bO,z⟩
   ·rcases bE.mp z with y | y
    ·exact .inl y
    ·exact(JZ y).imp id λ⟨u,a,b⟩=>⟨u,df _ a,b⟩
theorem dw{ws:List (List Nat)}{k:Nat}{x:List Nat}(h:ws[k]?=some x):dz (ws.map vt) (k:Int)=some (vt x):=fR (by rw [bS,h];rfl)
inductive Ef(K:Frag)(vs:List V)(H:Hp)(Q:VK)(E0x:XK):Prop where
 | mk (h:List Nat) (rs:List (List Nat)) (_:vs=[vt (bT [32] (h::rs))]) (_:kM h rs) (_:∀r H',ak H H'->H r=none->H' r=some (.lst ((h::rs).map vt))->Q (.ref r) H'):Ef K vs H Q E0x
theorem PN(T:Txt K mg t)(Y:KeysLit w.params t.e_ROW_SIZES.toList):ar P w K mg base (ay P w) 3 t.vI t.tI ["row"] (Ef K):=by
 refine T.KI.F.okm (k:=2) Gq λcdv A outer s H vs Q E hr h=>?_
 obtain⟨h,r,rfl,R,q⟩:=h
 have ln:=R.ln
 have hsg:(bT [32] (h::r)).all dm=true:=eV.mpr λc hc=>by
  rcases JZ hc with z | ⟨w,a,b⟩
  ·rw [z];rfl
  ·exact(R.sg w a c b).1
 refine⟨_,(ag (aW (dh (du (pc (HD T) hr T.CK (a1 (pv 0))))) (aj dH) aX) (ag (aC 1 Gq.nd (fh hZ xn PySem.F.type_str_split Ig (pv 0) (a1 aO))) (ag (aW (bo (fP (hr.units0)) (OI (hG hr) (ja (v:=.ref t.q_ROW_SIZES) rfl T.Rf rfl) (aK 1) ⟨rfl,rfl,rfl,rfl⟩) (cq T.ck (pv 1))) (aj dH) aX) (aj (az (pv 1)))))),?_⟩
 nofun
 refine⟨_,rfl,_,rfl,ln,λH1 s1=>?_⟩
 rw [hsg]
 refine⟨true,rfl,bK ?_⟩
 refine⟨_,rfl,?_⟩
 rw [uY]
 refine⟨rfl,32,h::r,rfl,rfl,Ct _ _,λw hw hc=>(R.sg w hw 32 hc).2 rfl,by omega,λp hp=>?_⟩
 have hL:aD K (ai H1 p (.lst ((h::r).map vt))) p ((h::r).map vt):=aD.of aA
 refine⟨t.q_ROW_SIZES,t.e_ROW_SIZES,_,rfl,T.cd_ROW_SIZES,Y,?_⟩
 refine⟨_,rfl,cQ hL (dw (k:=0) rfl) ⟨tx h,_,rfl,R.sz,?_⟩⟩
 refine⟨_,rfl,_,_,rfl,.inl ⟨_,hL,rfl⟩,.inl ⟨rfl,_,rfl,eE (by rw [aT];rfl) ?_⟩⟩
 exact⟨_,rfl,q p _ (fQ hp s1) (s1.free hp) aA⟩
noncomputable def small:List Nat:=[97,98,99,100,101,102,103,104,105,106,107,108,109,110,111,112,113,114,115,116,117,118,119,120,121,122]
theorem FW:V.str (Str.ofString "abcdefghijklmnopqrstuvwxyz")=vt small:=congrArg V.str (by decide +kernel)
noncomputable def gO(n:List Nat):Prop:=1<=n.length/\n.length<=8/\∀c ∈ n,c ∈ small
noncomputable def G7:V->V
 | .str z=>.bl (decide (z.cps.toList.headD 0 ∈ small))
 | v=>v
inductive F3(K:Frag)(vs:List V)(H:Hp)(Q:VK)(E0x:XK):Prop where
 | mk n (_:vs=[vt n]) (_:gO n) (_:∀H',ak H H'->Q (vt n) H'):F3 K vs H Q E0x
theorem Qb(T:Txt K mg t):ar P w K mg base (ay P w) 1 t.wI t.uu ["word"] (F3 K):=by
 refine T.L4.F.okm (k:=0) Nm λcdv A outer s H vs Q E hr h=>?_
 obtain⟨l,rfl,⟨h1,h8,hs⟩,q⟩:=h
 have zl:l.length<=sizeLine:=by rw [sizeLine_eq];omega
 refine⟨_,(ag (aW (PW.pt (fA (dh (AH iu iu aw (cq T.ck (pv 0)) (cC (.int 8) T.Rl))) (fM (dh (du (dB (nG rfl) rfl T.n5 nI (a1 (iB ["sign"] [none] (di (pv 0)) (λ_ h=>bB 0 h) (λ_=>mV p8 (pv 0) (cC (.str "abcdefghijklmnopqrstuvwxyz") T.Rh) (by with_unfolding_all rfl)))))))))) (aj dH) aX) (aj (az (pv 0)))),?_⟩
 nofun
 refine⟨_,rfl,_,_,rfl,dD zl,.inl ⟨_,_,rfl,rfl,_,rfl,?_⟩⟩
 refine lG (by omega) ?_
 refine .inl ⟨_,_,rfl,rfl,_,rfl,?_⟩
 rw [decide_eq_true (show ((l.length:Nat):Int)<=8 by omega)]
 refine bK ?_
 rw [FW]
 refine⟨_,rfl,.inr (.inr ⟨_,rfl,λD hD cp=>?_⟩)⟩
 refine nj (fw l) (caps:=[]) (λ_=>true) G7 (λ_=>trivial) (by rw [aT,sizeLine_eq];omega) ?_ ?_
 ·intro i x ys R hx hy h1 _
  obtain⟨c,_,rfl⟩:=fL hx
  refine ni ⟨_,rfl,?_⟩
  refine .inl ⟨c,small,rfl,rfl,ys,aA,hy,?_⟩
  rw [kW,if_neg cz];exact h1 rfl
 have e:((l.map λc=>vt [c]).filter λ_=>true).map G7=(l.map λc=>decide (c ∈ small)).map V.bl:=by
  rw [nW.mpr (λ_ _=>rfl),d7,d7];rfl
 rw [e]
 refine⟨D,_,rfl,aD.of aA,?_⟩
 rw [ml,show l.all (id ∘ λc=>decide (c ∈ small))=true from eV.mpr λc hc=>decide_eq_true (hs c hc)]
 exact⟨true,rfl,bK ⟨_,rfl,q _ (bL hD _)⟩⟩
inductive Fe(K:Frag)(vs:List V)(H:Hp)(Q:VK)(E0x:XK):Prop where
 | mk (n:Nat) (_:vs=[vt (dg n)]) (_:n<=100) (_:∀H',ak H H'->Q (.bl true) H'):Fe K vs H Q E0x
theorem Jn(h:n<=100):1<=(dg n).length/\(dg n=[48]\/(dg n).headD 48 ≠ 48):=by
 have go:∀n ∈ List.range 101,1<=(dg n).length/\(dg n=[48]\/(dg n).headD 48 ≠ 48):=by decide +kernel
 exact go n (jV.mpr (by omega))
theorem PX(T:Txt K mg t):ar P w K mg base (ay P w) 2 t.vU t.tT ["word"] (Fe K):=by
 refine T.KO.F.okm (k:=1) N5 λcdv A outer s H vs Q E hr h=>?_
 obtain⟨n,rfl,hn,q⟩:=h
 obtain⟨g1,g0⟩:=Jn hn
 have g3:=(iU hn).1
 have ha:(dg n).all kG=true:=eV.mpr λc hc=>BH (uR hn c hc)
 generalize dg n=l at g1 g0 g3 ha
 have zl:l.length<=sizeLine:=by rw [sizeLine_eq];omega
 refine⟨_,(ag (aW (PW.pt (fA (dh (AH iu iu aw (cq T.ck (pv 0)) (cC (.int 3) T.Rj))) (fM (dh (du (pc (HP T) hr T.D0 (a1 (pv 0)))))))) (aj (az eA)) aX) (aj (az (Ow (lN (dR (hr.units0)) (pv 0) aO) (kA (lN (fP (hr.units0)) (aK 0) aO)))))),?_⟩
 rw [Az]
 nofun
 refine⟨_,rfl,_,_,rfl,dD zl,.inl ⟨_,_,rfl,rfl,_,rfl,?_⟩⟩
 refine lG (by omega) ?_
 refine .inl ⟨_,_,rfl,rfl,_,rfl,?_⟩
 rw [decide_eq_true (show ((l.length:Nat):Int)<=3 by omega)]
 refine bK ⟨_,rfl,l,rfl,by omega,λH1 s1=>?_⟩
 rw [ha]
 refine⟨true,rfl,bK ?_⟩
 refine⟨_,rfl,.inl ⟨rfl,_,rfl,?_⟩⟩
 refine dr (λ_=>q H1 s1) (λz=>?_)
 rcases g0 with g0 | g0
 ·exact absurd (congrArg vt g0) z
 obtain⟨c,r,rfl⟩:=List.exists_cons_of_length_pos g1
 refine⟨_,rfl,gH zl (fR (j:=0) rfl) (.inl ⟨rfl,?_⟩)⟩
 rw [decide_eq_false (show ¬ vt [c]=vt [48] from λy=>g0 (by have:=gE.mp y;cases this;rfl))]
 exact q H1 s1
inductive EW(K:Frag)(vs:List V)(H:Hp)(Q:VK)(E0x:XK):Prop where
 | mk (n:Nat) (_:vs=[vt (dg n)]) (_:n<=100) (_:∀H',ak H H'->Q (.int (n:Int)) H'):EW K vs H Q E0x
theorem B7(T:Txt K mg t):ar P w K mg base (ay P w) 3 t.vo t.t5 ["word"] (EW K):=by
 refine T.xW.F.okm (k:=2) MR λcdv A outer s H vs Q E hr h=>?_
 obtain⟨n,rfl,hn,q⟩:=h
 have e:kK (dg n)=n:=(show ∀n ∈ List.range 101,kK (dg n)=n by decide +kernel) n (jV.mpr (by omega))
 have g1:=(Jn hn).1
 have g3:=(iU hn).1
 refine⟨_,(ag (aW (dh (du (pc (PX T) hr T.KO (a1 (pv 0))))) (aj dH) aX) (aj (az (mW JF rfl T.Bs C6 (a1 (pv 0)))))),?_⟩
 nofun
 refine⟨_,rfl,n,rfl,hn,λH1 s1=>⟨true,rfl,bK ⟨_,rfl,dg n,rfl,(λz=>by rw [z] at g1;cases g1),by omega,uR hn,?_⟩⟩⟩
 rw [e]
 exact q H1 s1
noncomputable def gf(n d:Int):List Nat:=dg n.toNat++47::dg d.toNat
theorem nE(h:n<2^1900):(dg n).length<=1900/\((n:Nat):Int).natAbs.log2<1920:=by
 refine⟨?_,?_⟩
 ·unfold dg
  rw [aT,Nat.length_toDigits_le_iff (by decide) (by decide)]
  exact dZ h (Nat.pow_le_pow_left (by decide) _)
 ·rw [Int.natAbs_natCast]
  by_cases z:n=0
  ·rw [z];decide
  ·exact xB ((Nat.log2_lt z).mpr h) (by decide)
theorem Jm(n:Nat):Str.ofString (toString ((n:Nat):Int))=tx (dg n):=V.str.inj (j6 n)
inductive Ek(K:Frag)(vs:List V)(H:Hp)(Q:VK)(E0x:XK):Prop where
 | mk (p:Addr) (n d:Int) (_:vs=[.ref p]) (_:aG K H p [.int n,.int d]) (_:0<n) (_:0<d) (_:n<2^1900) (_:d<2^1900) (_:Q (vt (gf n d)) H):Ek K vs H Q E0x
theorem Qo(T:Txt K mg t):ar P w K mg base (ay P w) 1 t.xf t.uL ["one"] (Ek K):=by
 refine T.Lh.F.okm (k:=0) yI λcdv A outer s H vs Q E hr h=>?_
 obtain⟨p,n,d,rfl,hp,n0,d0,n1,d1,q⟩:=h
 obtain⟨n,rfl⟩:=iJ (cx n0)
 obtain⟨d,rfl⟩:=iJ (cx d0)
 obtain⟨a1,a2⟩:=nE (n:=n) (by exact_mod_cast n1)
 obtain⟨b1,b2⟩:=nE (n:=d) (by exact_mod_cast d1)
 refine⟨_,(ag (aC 1 yI.nd (aK 0)) (ag (aC 2 yI.nd (aK 0)) (aj (az (OC (AN (Hq (pv 1)) (AN Ot (AN (Hq (pv 2)) Oq)))))))),?_⟩
 nofun
 refine⟨_,rfl,aV hp rfl ⟨_,rfl,aV hp rfl ?_⟩⟩
 refine⟨_,rfl,.inr ⟨_,rfl,a2,?_⟩⟩
 have e0:Str.empty=tx []:=rfl
 have e1:Str.ofString "/" = tx [47]:=by decide +kernel
 rw [Jm,e0,e1]
 rfl'
 rw [kY,kY]
 refine⟨by rw [cV,sizeLine_eq];simp only [aq,qo];omega,by rw [cV,sizeLine_eq];simp only [aq,qo,d8];omega,_,rfl,.inr ⟨_,rfl,b2,?_⟩⟩
 rw [Jm]
 rfl'
 rw [kY]
 have e2:[]++dg n++[47]++dg d=gf (n:Int) (d:Int):=by simp [gf]
 rw [e2]
 have e3:(tx (gf (n:Int) (d:Int))).length<=sizeLine:=by rw [cV,sizeLine_eq,← e2];simp only [aq,qo,d8];omega
 exact⟨e3,e3,q⟩
theorem jI{b:Addr}{o:HO}(h:H b=some o)(n:∀x,o ≠ .own x):dI H b=some o:=by
 unfold dI;rw [h]
 cases o<;>first | rfl | exact absurd rfl (n _)
theorem Bf(p t r:Addr)(H:Hp):off p t r (dI H)=dI (off p t r H):=by
 funext b
 by_cases z:b=p\/b=t\/b=r
 ·simp only [off,dI,if_pos z]
 ·simp only [off,dI,if_neg z]
theorem aG.bare(h:aG K H a xs):aG K (dI H) a xs:=by
 rcases h with(h | ⟨o,h⟩) | h
 ·exact .inl (.inl (jI h λx z=>nomatch z))
 ·exact .inl (.inr ⟨o,jI h λx z=>nomatch z⟩)
 ·exact .inr h
theorem aD.bare(h:aD K H a xs):aD K (dI H) a xs:=by
 rcases h with(h | ⟨o,h⟩) | h
 ·exact .inl (.inl (jI h λx z=>nomatch z))
 ·exact .inl (.inr ⟨o,jI h λx z=>nomatch z⟩)
 ·exact .inr h
theorem bf.bare{B:Int}(h:bf K H x A B):bf K (dI H) x A B:=by
 obtain⟨p,n,d,e,h1,h2⟩:=h
 exact⟨p,n,d,e,aG.bare h1,h2⟩
theorem eM.bare(h:eM K F v L f d l n k):eM K (dI F) v L f d l n k:=by
 obtain⟨e,q,x,y,e0,h1,h2,h3,h4⟩:=h
 exact⟨e,q,x,y,e0,aG.bare h1,aD.bare h2,h3.bare,h4.bare⟩
theorem jq.bare(h:jq K F L f d l x j k):jq K (dI F) L f d l x j k:=by
 obtain⟨ch,y,e,h1,h2⟩:=h
 exact⟨ch,y,e,aG.bare h1,h2.imp id λ⟨a,b⟩=>⟨a,b.bare⟩⟩
theorem RL.bare(h:RL K F L f d l v j):RL K (dI F) L f d l v j:=by
 obtain⟨a,xs,e,h1,h2,h3⟩:=h
 exact⟨a,xs,e,aD.bare h1,h2,λi x hx=>(h3 i x hx).bare⟩
theorem GO.bare{tb fr:Addr}(h:GO K C p tb rp fr H f L d l n B):GO K C p tb rp fr (dI H) f L d l n B:=by
 refine⟨let ⟨a,e⟩:=h.ob;⟨a,jI e λx z=>nomatch z⟩,?_,?_,?_⟩
 ·obtain⟨kvs,e,z,g⟩:=h.td
  refine⟨kvs,jI e (λx z=>nomatch z),z,?_⟩
  rw [Bf]
  exact⟨g.non,λkn v e hk=>⟨(g.som kn v e hk).1,(g.som kn v e hk).2.bare⟩⟩
 ·obtain⟨rs,e,z,y⟩:=h.rl
  refine⟨rs,jI e (λx z=>nomatch z),z,λj v hj=>?_⟩
  rw [Bf];exact(y j v hj).bare
 ·rw [Bf];exact aG.bare h.fa
theorem LO.bare{q tb fr:Addr}(h:LO K D C q p tb rp fr H f L d l B):LO K D C q p tb rp fr (dI H) f L d l B :=
 ⟨let ⟨a,e⟩:=h.me;⟨a,jI e λx z=>nomatch z⟩,h.go.bare⟩
theorem LO.anew{q tb fr:Addr}{A:Hp}(h:LO K D C q p tb rp fr H f L d [] 0)(hq:A q=H q)(hp:A p=H p)(ht:A tb=H tb)(hr:A rp=H rp)(hF:aG K A fr [vt (f::L),.int d]):LO K D C q p tb rp fr A f L d [] 0:=by
 have ob:∃dx,A p=some (.ins C dx (eZ fr (vt (([]:List Nat).take ([]:List Nat).length)) tb rp)):=let ⟨a,e⟩:=h.go.ob;⟨a,hp.trans e⟩
 obtain⟨kvs,e1,z1,_⟩:=h.go.td
 obtain⟨rs,e2,z2,_⟩:=h.go.rl
 have k0:kvs=[]:=xI.mp (by omega)
 have r0:rs=[]:=xI.mp (by rw [z2];rfl)
 subst k0 r0
 have T3:iX C p tb rp A:=⟨let ⟨a,e⟩:=ob;⟨a,_,e⟩,⟨_,ht.trans e1⟩,⟨_,hr.trans e2⟩⟩
 exact⟨let ⟨a,e⟩:=h.me;⟨a,hq.trans e⟩,⟨ob,⟨[],ht.trans e1,aI _,GT.empty⟩,⟨[],hr.trans e2,rfl,λj v h=>nomatch h⟩,T3.tup hF⟩⟩
structure Lr where
 q:Addr
 p:Addr
 tb:Addr
 rp:Addr
 fr:Addr
 f:Nat
 L:List Nat
 d:Nat
 l:List Nat
 B:Nat
noncomputable def Lr.ads(x:Lr):List Addr:=[x.q,x.p,x.tb,x.rp]
noncomputable def cw(K:Frag)(D C:Addr)(x:Lr)(H:Hp):Prop:=LO K D C x.q x.p x.tb x.rp x.fr H x.f x.L x.d x.l x.B
theorem cw.kinds{x:Lr}(h:cw K D C x H)(s:ak H H'):∀a ∈ x.ads,∃o,H' a=some o/\(∀xs,o ≠ .tup xs)/\∀y,o ≠ .own y:=λa ha=>by
 obtain⟨dq,me⟩:=LO.me h
 obtain⟨dx,ob⟩:=(LO.go h).ob
 obtain⟨kvs,e1,_⟩:=(LO.go h).td
 obtain⟨rs,e2,_⟩:=(LO.go h).rl
 simp only [Lr.ads,bE,iZ,or_false] at ha
 rcases ha with rfl | rfl | rfl | rfl
 ·exact⟨_,s _ _ me,(λxs z=>nomatch z),(λy z=>nomatch z)⟩
 ·exact⟨_,s _ _ ob,(λxs z=>nomatch z),(λy z=>nomatch z)⟩
 ·exact⟨_,s _ _ e1,(λxs z=>nomatch z),(λy z=>nomatch z)⟩
 ·exact⟨_,s _ _ e2,(λxs z=>nomatch z),(λy z=>nomatch z)⟩
theorem cw.up{x:Lr}{S:List Addr}(h:cw K D C x (mS S H))(s:∀b o,H b=some o->b ∉ S->(∀x,o ≠ .own x)->H' b=some o):cw K D C x (mS S H') :=
 LO.same (LO.bare h) (Rq s)
theorem Sm.pre{x:List Nat}(h:Sm L f d (l++x)):Sm L f d l:=by
 have e:(l++x).length=l.length+x.length:=aq
 refine⟨h.nd,h.l6,h.fm,h.d6,by have:=h.ll;omega,c7 ?_ h.lb,λc hc=>h.al c (i8 _ hc)⟩
 unfold wb;exact Ck _ (by omega)
inductive FH(K:Frag)(D C:Addr)(vs:List V)(H:Hp)(Q:VK)(E0x:XK):Prop where
 | mk (z:Lr) (c:Nat) (_:vs=[.ref z.q,vt [c]]) (_:cw K D C z H) (_:c ∈ z.f::z.L) (_:(z.f::z.L).length<=6) (_:(∀x ∈ z.f::z.L,dm x=true)) (_:Q (vt [c]) H):FH K D C vs H Q E0x
theorem Qj(T:Txt K mg t):ar P w K mg base (ay P w) 3 t.wX t.uF ["learner", "word"] (FH K t.bC t.aS):=by
 refine T.Lc.F.okm (k:=2) Nu λcdv A outer s H vs Q E hr h=>?_
 obtain⟨z,c,rfl,O,hc,l6,hsg,k⟩:=h
 obtain⟨dq,me⟩:=LO.me O
 refine⟨_,(ag (aW (dh (du (pc (HJ T) hr T.CU (a2 (cB (pv 0) rfl) (pv 1))))) (aj dH) aX) (aj (az (pv 1)))),?_⟩
 nofun
 refine⟨_,rfl,z.q,_,dq,_,_,rfl,me,T.dX,T.na_Learner_frame,lE _ _,_,rfl,z.fr,z.f::z.L,_,c,rfl,bX (dQ _ _ _ _) (LO.go O).fa,by omega,hsg,?_⟩
 rw [decide_eq_true hc]
 exact⟨true,rfl,bK ⟨_,rfl,k⟩⟩
abbrev jc:List Nat:=wd "ok"
theorem oW:V.str (Str.ofString "ok")=vt jc:=rfl
inductive F9(K:Frag)(D C:Addr)(vs:List V)(H:Hp)(Q:VK)(E0x:XK):Prop where
 | mk (z:Lr) (x:List Nat) (_:vs=[.ref z.q,vt x]) (_:cw K D C z H) (_:Sm (z.f::z.L) z.f z.d (z.l++x)) (_:(∀c ∈ z.f::z.L,dm c=true)) (_:z.B+7*x.length<=9000) (_:∀H' B',B'<=z.B+7*x.length->cw K D C { z with l:=z.l++x,B:=B' } H'->kP z.p z.tb z.rp H H'->Q (vt jc) H'):F9 K D C vs H Q E0x
theorem Hy(T:Txt K mg t):ar P w K mg base (ay P w) 9 t.vh t.sU ["learner", "text"] (F9 K t.bC t.aS):=by
 refine T.CF.F.okm (k:=8) yA λcdv A outer s H vs Q E hr h=>?_
 obtain⟨⟨q,p,tb,rp,fr,f,L,d,l,B⟩,x,rfl,O,S,hsg,hB,k⟩:=h
 dsimp only at O S hsg hB k
 have ll:=S.ll
 have d6:=S.d6
 have e:(l++x).length=l.length+x.length:=aq
 have hx:∀c ∈ x,c ∈ f::L:=λc hc=>S.al c (gs _ hc)
 obtain⟨rs,er,_⟩:=(LO.go O).rl
 obtain⟨kvs,et,_⟩:=(LO.go O).td
 obtain⟨dx,ep⟩:=(LO.go O).ob
 refine⟨_,(ag (Ga 2 yA.nd ["sign", "learner"] [none,some 0] (di (pv 1)) (λ_ h=>bB 0 h) (λ_=>pc (Qj T) hr T.Lc (a2 (pv 1) (pv 0)))) (ag (cW cR rfl (di (pv 2)) (bB 3 yA.nd) (aj (fg (cO (pv 0) T.dX T.KZ (Q7 T) hr (a1 (pv 3)))))) (aj (az (cC (.str "ok") T.Bw))))),?_⟩
 nofun
 refine⟨_,rfl,.inr (.inr ⟨_,rfl,λR hR cp=>?_⟩)⟩
 refine nj (fw x) (caps:=[some (.ref q)]) (λ_=>true) id (λ_=>trivial) (by rw [aT,sizeLine_eq];omega) ?_ ?_
 ·intro i v ys R' hv hy h1 _
  obtain⟨c,hc,rfl⟩:=fL hv
  exact ni ⟨_,rfl,_,rfl,⟨q,p,tb,rp,fr,f,L,d,l,B⟩,c,rfl,LO.same O (bL hR _),hx c (eU hc),S.l6,hsg,ys,aA,hy,by rw [kW];exact h1 rfl⟩
 have e2:((x.map λc=>vt [c]).filter λ_=>true).map id=x.map λc=>vt [c]:=by rw [nW.mpr (λ_ _=>rfl),List.map_id]
 rw [e2]
 have nR:∀b o,H b=some o->b ≠ R:=λb o h=>bQ h hR
 have s1:ak H (ai H R (.lst (x.map λc=>vt [c]))):=bL hR _
 have eR:ai H R (.lst (x.map λc=>vt [c])) R=some (.lst (x.map λc=>vt [c])):=aA
 generalize ai H R (.lst (x.map λc=>vt [c]))=H1 at s1 eR
 refine⟨_,rfl,.inl ⟨R,_,rfl,aD.of eR,?_⟩⟩
 have keep:∀H',kP p tb rp H1 H'->H' R=some (.lst (x.map λc=>vt [c])):=λH' kp=>kp _ _ eR (nR _ _ ep).symm (nR _ _ et).symm (nR _ _ er).symm
 refine fD (iK (xs:=x.map λc=>vt [c])) (λi σ H'=>∃r3 B',σ=[some (.ref q),some (vt x),some (.ref R),r3]/\LO K t.bC t.aS q p tb rp fr H' f L d (l++x.take i) B'/\B'<=B+7*i/\kP p tb rp H1 H')
  ⟨_,B,rfl,by rw [List.take_zero,gw];exact LO.same O s1,by omega,λ_ _ h _ _ _=>h⟩ (λi σ H' _ ⟨_,_,_,_,_,kp⟩=>aD.of (keep H' kp)) ?_ ?_
 ·rintro i v _ H2 hv ⟨r3,B',rfl,O2,hB2,kp⟩
  obtain⟨c,hc,rfl⟩:=fL hv
  have hi:=(bh.mp hc).1
  have et:l++x.take i++[c]=l++x.take (i+1):=by rw [i6,hc,gA];rfl
  obtain⟨dq,me⟩:=LO.me O2
  have S2:Sm (f::L) f d (l++x.take i++[c]):=Sm.pre (x:=x.drop (i+1)) (by rw [et,gA,kO];exact S)
  refine⟨_,rfl,q,dq,_,rfl,me,(kE _ _).1,_,rfl,q,p,tb,rp,fr,f,L,d,l++x.take i,B',c,rfl,O2,S2,hsg,by omega,λH3 O3 k3=>?_⟩
  rw [et] at O3
  exact⟨_,_,rfl,O3,by omega,λb o h h1 h2 h3=>k3 b o (kp b o h h1 h2 h3) h1 h2 h3⟩
 ·rintro _ H2 ⟨r3,B',rfl,O2,hB2,kp⟩
  rw [aT] at O2 hB2
  rw [fH] at O2
  show Q (V.str (Str.ofString "ok")) H2
  rw [oW]
  exact k H2 B' hB2 O2 λb o h h1 h2 h3=>kp b o (s1 b o h) h1 h2 h3
inductive EE(K:Frag)(D C:Addr)(vs:List V)(H:Hp)(Q:VK)(E0x:XK):Prop where
 | mk (z:Lr) (l x:List Nat) (_:vs=[.ref z.q,.int (x.length:Int)]) (_:z.l=l++x) (_:cw K D C z H) (_:Sm (z.f::z.L) z.f z.d z.l) (_:z.B<=20000) (_:∀H',cw K D C { z with l:=l } H'->kP z.p z.tb z.rp H H'->Q (vt jc) H'):EE K D C vs H Q E0x
theorem PV(T:Txt K mg t):ar P w K mg base (ay P w) 3 t.vT t.tS ["learner", "many"] (EE K t.bC t.aS):=by
 refine T.KN.F.okm (k:=2) N4 λcdv A outer s H vs Q E hr h=>?_
 obtain⟨⟨q,p,tb,rp,fr,f,L,d,l0,B⟩,l,x,rfl,el,O,S,hB,k⟩:=h
 dsimp only at el O S hB k
 subst el
 obtain⟨dq,me⟩:=LO.me O
 refine⟨_,(ag (fg (cO (pv 0) T.dX T.KY (Q6 T) hr (a1 (pv 1)))) (aj (az (cC (.str "ok") T.Bw)))),?_⟩
 nofun
 refine⟨_,rfl,q,dq,_,rfl,me,(kE _ _).2.1,_,rfl,q,p,tb,rp,fr,f,L,d,l,x,B,rfl,O,S,hB,λH1 O1 k1=>?_⟩
 show Q (V.str (Str.ofString "ok")) H1
 rw [oW]
 exact k H1 O1 k1
structure c6(z:Lr):Prop where
 l2:2<=(z.f::z.L).length
 l6:(z.f::z.L).length<=6
 nd:(z.f::z.L).Nodup
 sg:∀c ∈ z.f::z.L,c ∈ dU
 nb:∀c ∈ z.f::z.L,c ≠ 32
 d6:z.d<=6
structure FT(z:Lr)(l:List Nat):Prop where
 al:∀c ∈ l,c ∈ z.f::z.L
 n1:l.length<=60
 n2:l.length*(z.d+1)<=144
theorem FT.pre{z:Lr}{x:List Nat}(h:FT z (l++x)):FT z l:=by
 have e:(l++x).length=l.length+x.length:=aq
 refine⟨λc hc=>h.al c (i8 _ hc),by have:=h.n1;omega,c7 (xy _ (by omega)) h.n2⟩
theorem c6.tb{z:Lr}(g:FT z l):tb z.d l.length<=1296/\wb z.d l.length<=2592/\l.length*(10+14*(z.d+1))<=2616:=by
 have h1:=g.n1
 have h2:=g.n2
 rw [Nat.mul_add,Nat.mul_one] at h2
 have e1:(8+9*z.d)*l.length=8*l.length+9*(l.length*z.d):=by rw [jS,Nat.mul_assoc,xA z.d]
 have e2:(17+18*z.d)*l.length=17*l.length+18*(l.length*z.d):=by rw [jS,Nat.mul_assoc,xA z.d]
 have e3:l.length*(10+14*(z.d+1))=l.length*24+14*(l.length*z.d):=by rw [show 10+14*(z.d+1)=24+14*z.d by omega,Nat.mul_add,Nat.mul_left_comm]
 unfold Bp.tb wb
 omega
theorem c6.sp{z:Lr}(h:c6 z)(g:FT z l):Bp.Sp (z.f::z.L) z.f z.d l.length :=
 ⟨h.nd,h.l6,bO,h.d6,by have:=g.n1;omega,by have:=(c6.tb g).2.1;omega,by have:=(c6.tb g).1;omega⟩
theorem c6.sm{z:Lr}(h:c6 z)(g:FT z l):Sm (z.f::z.L) z.f z.d l:=(h.sp g).sm (aI _) g.al
theorem c6.isg{z:Lr}(h:c6 z):∀c ∈ z.f::z.L,dm c=true:=λc hc=>Ge (h.sg c hc)
abbrev qU(z:Lr):Sh:=(bv (z.f::z.L) z.f z.d z.l z.d []).2.2
inductive FO(K:Frag)(D C:Addr)(vs:List V)(H:Hp)(Q:VK)(E0x:XK):Prop where
 | mk (z:Lr) (_:vs=[.ref z.q]) (_:cw K D C z H) (_:c6 z) (_:FT z z.l) (_:∀H',ak H H'->Q (vt (wr (qU z))) H'):FO K D C vs H Q E0x
theorem PU(T:Txt K mg t):ar P w K mg base (ay P w) 13 t.vS t.tR ["learner"] (FO K t.bC t.aS):=by
 refine T.KL.F.okm (k:=12) N3 λcdv A outer s H vs Q E hr h=>?_
 obtain⟨z,rfl,O,F,G,k⟩:=h
 obtain⟨dq,me⟩:=LO.me O
 have hF:=bX (dQ _ _ _ _) (LO.go O).fa
 have bt:=JI F.nd F.l6 bO G.al (by have:=G.n1;omega) z.d [] (Nat.zero_add _)
 refine⟨_,(aj (az (pc (PY T) hr T.KP (a2 (cB (pv 0) rfl) (cA (pc (Pt T) hr T.Ku (a2 (cB (pv 0) rfl) (il (pv 0) T.dX T.oa (oZ T) hr))) aw))))),?_⟩
 nofun
 refine⟨_,rfl,z.q,_,dq,_,_,rfl,me,T.dX,T.na_Learner_frame,lE _ _,?_⟩
 refine⟨_,rfl,z.q,_,dq,_,_,rfl,me,T.dX,T.na_Learner_frame,lE _ _,?_⟩
 refine⟨_,rfl,z.q,dq,_,rfl,me,(kE _ _).2.2.1,z.q,z.p,z.tb,z.rp,z.fr,z.f,z.L,z.d,z.l,z.B,rfl,O,?_⟩
 refine⟨z.fr,z.f,z.L,z.l,z.d,rfl,hF,F.nd,F.l6,F.d6,by have:=G.n1;omega,G.al,⟨F.nd,F.l6,F.d6,by have:=G.n1;omega,by have:=(c6.tb G).2.2;omega,G.al⟩,λH1 x s1 hx=>?_⟩
 obtain⟨p,fr,tr,rfl,e1,_,e2⟩:=hx
 exact aV (.inl (.inl e1)) rfl ⟨z.fr,z.f::z.L,z.d,tr,qU z,rfl,bX s1 hF,F.l6,F.d6,e2,bt.tr,λH2 s2=>k H2 (s1.trans s2)⟩
abbrev jy(z:Lr)(ah x b:List Nat):Prop:=eh (eT (z.f::z.L) z.f z.d ah x) (fS (z.f::z.L) z.f z.d ah x) (eI (z.f::z.L) z.f z.d ah x) b
noncomputable def nT(A:Int × Int)(n m:Int):Prop:=0<n/\0<m/\n*A.2=A.1*m/\bM n m=1/\n<=A.1/\m<=A.2
abbrev wt(z:Lr):Int × Int:=WT (z.f::z.L) z.f z.d z.l
structure jk(z:Lr)(h:List Nat)(r:List (List Nat))(St:Hp->Prop)(De:Lr->Hp->Prop)(Q:VK):Prop where
 learn:h=wd "learn" -> ∃nm x,r=[nm,x]/\FT z (z.l++x)/\z.B+7*x.length<=9000/\∀B' H',B'<=z.B+7*x.length->De { z with l:=z.l++x,B:=B' } H'->Q (vt jc) H'
 back:h=wd "back" -> ∃nm l x,r=[nm,dg x.length]/\z.l=l++x/\∀H',De { z with l:=l } H'->Q (vt jc) H'
 held:h=wd "held" -> ∀H',St H'->Q (vt z.l) H'
 weight:h=wd "weight" -> ∀n m H',nT (wt z) n m->St H'->Q (vt (gf n m)) H'
 chance:h ≠ wd "chance"
 tree:h=wd "tree" -> ∀H',St H'->Q (vt (wr (qU z))) H'
 press:h=wd "press" -> ∃nm x,r=[nm,x]/\FT z (z.l++x)/\∀b H',jy z z.l x b->St H'->Q (vt b) H'
 read:h=wd "read" -> ∃nm x b,r=[nm,dg x.length,b]/\FT z (z.l++x)/\jy z z.l x b/\∀H',St H'->Q (vt x) H'
 wrap:h ≠ wd "learn" -> h ≠ wd "back" -> h ≠ wd "held" -> h ≠ wd "weight" -> h ≠ wd "tree" -> h ≠ wd "press" -> h ≠ wd "read" -> ∀b H',jy z [] z.l b->St H'->Q (vt (lh (z.f::z.L) z.d z.l.length b)) H'
theorem jk.imp{z:Lr}{h:List Nat}{r:List (List Nat)}{St St':Hp->Prop}{De De':Lr->Hp->Prop}{Q':VK}(W:jk z h r St De Q)(a:∀v H',St' H'->(∀G,St G->Q v G)->Q' v H')(b:∀v z' H',De' z' H'->(∀G,De z' G->Q v G)->Q' v H'):jk z h r St' De' Q' where
 learn e:=let ⟨nm,x,h1,h2,h3,k⟩:=W.learn e;⟨nm,x,h1,h2,h3,λB' H' hB d=>b _ _ H' d λG=>k B' G hB⟩
 back e:=let ⟨nm,l,x,h1,h2,k⟩:=W.back e;⟨nm,l,x,h1,h2,λH' d=>b _ _ H' d k⟩
 held e H' s:=a _ H' s (W.held e)
 weight e n m H' l s:=a _ H' s λG=>W.weight e n m G l
 chance:=W.chance
 tree e H' s:=a _ H' s (W.tree e)
 press e:=let ⟨nm,x,h1,h2,k⟩:=W.press e;⟨nm,x,h1,h2,λb H' hb s=>a _ H' s λG=>k b G hb⟩
 read e:=let ⟨nm,x,b,h1,h2,h3,k⟩:=W.read e;⟨nm,x,b,h1,h2,h3,λH' s=>a _ H' s k⟩
 wrap e1 e2 e3 e4 e5 e6 e7 b H' hb s:=a _ H' s λG=>W.wrap e1 e2 e3 e4 e5 e6 e7 b G hb
inductive FV(K:Frag)(D C:Addr)(vs:List V)(H:Hp)(Q:VK)(E0x:XK):Prop where
 | mk (z:Lr) (a:Addr) (h:List Nat) (r:List (List Nat)) (_:vs=[.ref z.q,.ref a]) (_:H a=some (.lst ((h::r).map vt))) (_:cw K D C z H) (_:c6 z) (_:FT z z.l) (_:z.B<=9000) (_:jk z h r (ak H) (λz' H'=>cw K D C z' H'/\kP z.p z.tb z.rp H H') Q):FV K D C vs H Q E0x
theorem Pz(T:Txt K mg t):ar P w K mg base (ay P w) 14 t.vn t.t4 ["learner", "words"] (FV K t.bC t.aS):=by
 refine T.Ky.F.okm (k:=13) MQ λcdv A outer s H vs Q E hr h=>?_
 obtain⟨z,a,h,r,rfl,ea,O,F,G,hB,W⟩:=h
 obtain⟨dq,me⟩:=LO.me O
 have hL:aD K H a ((h::r).map vt):=aD.of ea
 have hF:=bX (dQ _ _ _ _) (LO.go O).fa
 refine⟨_,((ag (aW (bo (dR (hr.units0)) (aK 1) aO) (aj (az (pc (Hy T) hr T.CF (a2 (pv 0) (aK 1))))) aX) (ag (aW (bo (dR (hr.units0)) (aK 1) aO) (aj (az (pc (PV T) hr T.KN (a2 (pv 0) (pc (B7 T) hr T.xW (a1 (aK 1))))))) aX) (ag (aW (bo (dR (hr.units0)) (aK 1) aO) (aj (az (il (pv 0) T.dX T.oa (oZ T) hr))) aX) (ag (aW (bo (dR (hr.units0)) (aK 1) aO) (aj (az (pc (Qo T) hr T.Lh (a1 (il (pv 0) T.dX T.Lb (Qi T) hr))))) aX) (ag (aW (bo (dR (hr.units0)) (aK 1) aO) (aj dH) aX) (ag (aW (bo (dR (hr.units0)) (aK 1) aO) (aj (az (pc (PU T) hr T.KL (a1 (pv 0))))) aX) (ag (aW (bo (dR (hr.units0)) (aK 1) aO) (aj (az (jD ((rQ T).mono (by decide)) hr rfl T.rZ T.F_Qwa.kp T.b_press .nil g8 (cF.h (aE (cB (pv 0) rfl) (aE (aK 1) (aE (il (pv 0) T.dX T.oa (oZ T) hr) cT))))))) aX) (ag (aW (bo (dR (hr.units0)) (aK 1) aO) (aj (az (jD ((Pm T).mono (by decide)) hr rfl T.R7 T.F_read.kp T.b_read .nil g8 (cF.h (aE (cB (pv 0) rfl) (aE (pc (B7 T) hr T.xW (a1 (aK 1))) (aE (aK 1) (aE (il (pv 0) T.dX T.oa (oZ T) hr) cT)))))))) aX) (aj (az (pc (Hv T) hr T.CC (a2 (cB (pv 0) rfl) (il (pv 0) T.dX T.oa (oZ T) hr)))))))))))))),?_⟩
 symm
 refine⟨_,rfl,cQ hL (dw (k:=0) rfl) (.inl ⟨rfl,_,rfl,dr (λe=>?_) (λe1=>?_)⟩)⟩
 ·obtain⟨nm,x,rfl,g,b,k⟩:=W.learn (gE.mp e)
  exact⟨_,rfl,_,rfl,cQ hL (dw (k:=2) rfl) ⟨z,x,rfl,O,F.sm g,F.isg,b,λH' B' hB O' kp=>k B' H' hB ⟨O',kp⟩⟩⟩
 refine⟨_,rfl,cQ hL (dw (k:=0) rfl) (.inl ⟨rfl,_,rfl,dr (λe=>?_) (λe2=>?_)⟩)⟩
 ·obtain⟨nm,l,x,rfl,el,k⟩:=W.back (gE.mp e)
  have nx:x.length<=100:=by have:=G.n1;rw [el,aq] at this;omega
  refine⟨_,rfl,_,rfl,cQ hL (dw (k:=2) rfl) ⟨x.length,rfl,nx,λH1 s1=>?_⟩⟩
  exact⟨z,l,x,rfl,el,LO.same O s1,F.sm G,by omega,λH2 O2 k2=>k H2 ⟨O2,λb o e=>k2 b o (s1 b o e)⟩⟩
 refine⟨_,rfl,cQ hL (dw (k:=0) rfl) (.inl ⟨rfl,_,rfl,dr (λe=>?_) (λe3=>?_)⟩)⟩
 ·exact⟨_,rfl,z.q,dq,_,rfl,me,(kE _ _).2.2.1,z.q,z.p,z.tb,z.rp,z.fr,z.f,z.L,z.d,z.l,z.B,rfl,O,W.held (gE.mp e) H (ak.refl _)⟩
 refine⟨_,rfl,cQ hL (dw (k:=0) rfl) (.inl ⟨rfl,_,rfl,dr (λe=>?_) (λe4=>?_)⟩)⟩
 ·refine⟨_,rfl,z.q,dq,_,rfl,me,(kE _ _).2.2.2.1,z.q,z.p,z.tb,z.rp,z.fr,z.f,z.L,z.d,z.l,z.B,rfl,O,by have:=F.l6;omega,λy H1 s1 hy=>?_⟩
  obtain⟨p,n,m,rfl,h1,n0,m0,c1,g1,n1,m1⟩:=hy
  have pt:=(F.sp G).p3 (aI _) G.al
  have bt:∀{i:Int},i<=(wt z).2->i<2^1900:=λh=>dC (aP h pt.bb) (by have:=(c6.tb G).1;omega)
  exact⟨p,n,m,rfl,h1,n0,m0,bt (aP n1 pt.ab),bt m1,W.weight (gE.mp e) n m H1 ⟨n0,m0,c1,g1,n1,m1⟩ s1⟩
 refine⟨_,rfl,cQ hL (dw (k:=0) rfl) (.inl ⟨rfl,_,rfl,pD (λe=>W.chance (gE.mp e)) ?_⟩)⟩
 refine⟨_,rfl,cQ hL (dw (k:=0) rfl) (.inl ⟨rfl,_,rfl,dr (λe=>?_) (λe5=>?_)⟩)⟩
 ·exact⟨_,rfl,z,rfl,O,F,G,λH1 s1=>W.tree (gE.mp e) H1 s1⟩
 refine⟨_,rfl,cQ hL (dw (k:=0) rfl) (.inl ⟨rfl,_,rfl,dr (λe=>?_) (λe6=>?_)⟩)⟩
 ·obtain⟨nm,x,rfl,g,k⟩:=W.press (gE.mp e)
  refine⟨_,rfl,z.q,_,dq,_,_,rfl,me,T.dX,T.na_Learner_frame,lE _ _,_,rfl,cQ hL (dw (k:=2) rfl) ?_⟩
  refine⟨_,rfl,z.q,dq,_,rfl,me,(kE _ _).2.2.1,z.q,z.p,z.tb,z.rp,z.fr,z.f,z.L,z.d,z.l,z.B,rfl,O,?_⟩
  exact⟨z.fr,z.f,z.L,z.d,x,z.l,rfl,hF,G.al,λc hc=>g.al c (gs _ hc),F.sp g,by have:=(c6.tb g).1;have:=(c6.tb G).1;omega,λH1 b s1 hb=>k b H1 hb s1⟩
 refine⟨_,rfl,cQ hL (dw (k:=0) rfl) (.inl ⟨rfl,_,rfl,dr (λe=>?_) (λe7=>?_)⟩)⟩
 ·obtain⟨nm,x,b,rfl,g,hb,k⟩:=W.read (gE.mp e)
  have ng:=g.n1
  rw [aq] at ng
  refine⟨_,rfl,z.q,_,dq,_,_,rfl,me,T.dX,T.na_Learner_frame,lE _ _,_,rfl,cQ hL (dw (k:=2) rfl) ⟨x.length,rfl,by omega,λH1 s1=>?_⟩⟩
  have O1:cw K t.bC t.aS z H1:=LO.same O s1
  refine⟨_,rfl,cQ (ik s1 hL) (dw (k:=3) rfl) ?_⟩
  refine⟨_,rfl,z.q,dq,_,rfl,s1 _ _ me,(kE _ _).2.2.1,z.q,z.p,z.tb,z.rp,z.fr,z.f,z.L,z.d,z.l,z.B,rfl,O1,?_⟩
  exact⟨z.fr,z.f,z.L,z.d,x,b,z.l,rfl,bX s1 hF,G.al,λc hc=>g.al c (gs _ hc),by omega,F.sp g,by have:=(c6.tb g).1;have:=(c6.tb G).1;omega,hb,λH2 s2=>k H2 (s1.trans s2)⟩
 refine⟨_,rfl,z.q,_,dq,_,_,rfl,me,T.dX,T.na_Learner_frame,lE _ _,?_⟩
 refine⟨_,rfl,z.q,dq,_,rfl,me,(kE _ _).2.2.1,z.q,z.p,z.tb,z.rp,z.fr,z.f,z.L,z.d,z.l,z.B,rfl,O,?_⟩
 have ne:∀{s:String},¬ vt h=V.str (Str.ofString s)->h ≠ wd s:=λe y=>e (by rw [y];rfl)
 exact⟨z.fr,z.f,z.L,z.d,z.l,rfl,hF,F.d6,F.l6,λc hc=>xB (yu c (F.sg c hc)).2.1 (by decide),G.al,by have:=G.n1;omega,F.sp G,by have:=(c6.tb G).1;have:tb z.d 0=0:=Nat.mul_zero _;omega,λH1 b s1 hb=>W.wrap (ne e1) (ne e2) (ne e3) (ne e4) (ne e5) (ne e6) (ne e7) b H1 hb s1⟩
noncomputable def iC(dd:Addr):List (Str × V):=[("learners",.ref dd)]
theorem BU(dd:Addr):(iC dd).lookup ("learners" : Str)=some (.ref dd):=rfl
theorem SV(dd:Addr):dc ("learners" : Str) (.ref dd) []=iC dd:=by with_unfolding_all rfl
theorem fE(dd:Addr):(iC dd).lookup ("say" : Str)=none/\(iC dd).lookup ("place" : Str)=none/\(iC dd).lookup ("standing" : Str)=none:=by
 refine⟨?_,?_,?_⟩<;>with_unfolding_all rfl
noncomputable def bF(X:List Addr)(H H':Hp):Prop:=∀b o,H b=some o->b ∉ X->(∀x,o ≠ .own x)->H' b=some o
theorem bF.of{X:List Addr}{H1 H2:Hp}(s:ak H1 H2):bF X H1 H2:=λb o e _ _=>s b o e
theorem bF.on{X:List Addr}{H1 H2 H3:Hp}(s:ak H1 H2)(h:bF X H2 H3):bF X H1 H3:=λb o e=>h b o (s b o e)
inductive FA(E:Addr)(vs:List V)(H:Hp)(Q:VK)(E0x:XK):Prop where
 | mk (dk dq:Addr) (_:vs=[.ref dk]) (_:H dk=some (.ins E dq [])) (_:∀dd H',H dd=none->H' dk=some (.ins E dq (iC dd))->H' dd=some (.dK [])->(∀b o,H b=some o->b ≠ dk->H' b=some o)->Q .non H'):FA E vs H Q E0x
theorem PQ(T:Txt K mg t):ar P w K mg base (ay P w) 1 t.vO t.tN ["self"] (FA t.cJ):=by
 refine T.CO.F.okm (k:=0) N1 λcdv A outer s H vs Q E hr h=>?_
 obtain⟨dk,dq,rfl,hp,q⟩:=h
 refine⟨_,(aj (kr (pv 0) AQ rfl)),?_⟩
 nofun
 intro dd hdd
 have n1:dk ≠ dd:=bQ hp hdd
 refine⟨_,rfl,dk,_,dq,[],rfl,(au n1).trans hp,T.eG,T.na_Desk_learners,(by show 0<1000;decide),?_⟩
 refine q dd _ hdd (by rw [aA];exact congrArg (λz=>some (HO.ins t.cJ dq z)) (SV dd)) ((au n1.symm).trans aA) λb o hb hne=>?_
 rw [au hne,au (bQ hb hdd)];exact hb
inductive EG(E:Addr)(vs:List V)(H:Hp)(Q:VK)(E0x:XK):Prop where
 | mk (dk dq dd:Addr) (kvs:List (aU × V)) (nm:List Nat) (q:Addr) (_:vs=[.ref dk,vt nm]) (_:H dk=some (.ins E dq (iC dd))) (_:H dd=some (.dK kvs)) (_:aZ kvs (key nm)=some (.ref q)) (_:Q (.ref q) H):EG E vs H Q E0x
theorem Qg(T:Txt K mg t):ar P w K mg base (ay P w) 1 t.wO t.uA ["self", "name"] (EG t.cJ):=by
 refine T.L9.F.okm (k:=0) Nq λcdv A outer s H vs Q E hr h=>?_
 obtain⟨dk,dq,dd,kvs,nm,q,rfl,e1,e2,e3,k⟩:=h
 have g:eW H dd (vt nm) (some (.ref q)):=.inl ⟨kvs,key nm,.inl e2,rfl,e3.symm⟩
 refine⟨_,(ag (aW (mQ (AV (hG hr) (pv 1) (cB (pv 0) rfl))) (aj dH) aX) (aj (az (AR (hG hr) (cB (pv 0) rfl) (pv 1) (λ_ _=>rfl))))),?_⟩
 nofun
 refine⟨_,rfl,_,rfl,dk,_,dq,_,_,rfl,e1,T.eG,T.na_Desk_learners,BU _,dd,_,rfl,g,_,rfl,bK ?_⟩
 exact⟨_,rfl,dk,_,dq,_,_,rfl,e1,T.eG,T.na_Desk_learners,BU _,_,rfl,dd,_,rfl,g,k⟩
structure Uq(z0 z:Lr):Prop where
 f:z.f=z0.f
 L:z.L=z0.L
 d:z.d=z0.d
 l:z.l=z0.l
 B:z.B<=7*z0.l.length
noncomputable def nM(K:Frag)(D C:Addr)(H:Hp)(dd:Addr)(kvs:List (aU × V))(nm:List Nat)(z0:Lr)(Q:VK):Prop :=
 ∀z H',Uq z0 z->(∀a ∈ z.ads,H a=none)->cw K D C z (mS [dd] H')->H' dd=some (.dK (cE kvs (key nm) (.ref z.q)))->bF [dd] H H'->Q (vt jc) H'
theorem Iy(e:H dd=some (.dK kvs)):Lv [dd] H:=λa ha=>by
 rw [bx.mp ha];exact⟨_,e,(λxs z=>nomatch z),λx z=>nomatch z⟩
inductive ET(K:Frag)(D C E:Addr)(vs:List V)(H:Hp)(Q:VK)(E0x:XK):Prop where
 | mk (dk dq dd:Addr) (kvs:List (aU × V)) (nm:List Nat) (fr:Addr) (z0:Lr) (_:vs=[.ref dk,vt nm,.ref fr,vt z0.l]) (_:H dk=some (.ins E dq (iC dd))) (_:H dd=some (.dK kvs)) (_:kvs.length<=100) (_:H fr=some (.tup [vt (z0.f::z0.L),.int z0.d])) (_:c6 z0) (_:FT z0 z0.l) (_:nM K D C H dd kvs nm z0 Q):ET K D C E vs H Q E0x
theorem HK(T:Txt K mg t):ar P w K mg base (ay P w) 10 t.wa t.u6 ["self", "name", "frame", "text"] (ET K t.bC t.aS t.cJ):=by
 refine T.CV.F.okm (k:=9) Gr λcdv A outer s H vs Q E hr h=>?_
 obtain⟨dk,dq,dd,kvs,nm,fr,z0,rfl,e1,e2,e3,e4,F,G,k⟩:=h
 have G_learn:=ar.frmP (@Hy P w K mg base t T)
 refine⟨_,(ag (aC 4 Gr.nd (AO T.D1.mi ((Q8 T).mono (by decide)) hr rfl T.Rk T.D1.b .nil g8 (a1 (pv 2)))) (ag (fg (pc G_learn hr T.CF (a2 (pv 4) (pv 3)))) (ag (rL (hG hr) (cB (pv 0) rfl) (pv 1) (pv 4) rfl) (aj (az (cC (.str "ok") T.Bw)))))),?_⟩
 nofun
 refine⟨_,rfl,λq dx nq ndx nex=>?_⟩
 have s0:ak H (ai (ai H dx (.own q)) q (.ins t.bC dx [])):=λb o e=>by
  rw [au (bQ e nq),au (bQ e ndx)];exact e
 refine⟨q,fr,dx,z0.f,z0.L,z0.d,rfl,aA,.inl (.inl (s0 _ _ e4)),λp tb rp H1 np ntb nrp O1 k1=>⟨rfl,?_⟩⟩
 have s1:ak H H1:=λb o e=>k1 b o (s0 b o e) (bQ e nq)
 replace np:=s0.free np
 replace ntb:=s0.free ntb
 replace nrp:=s0.free nrp
 have lv:=Iy (s1 _ _ e2)
 have nn:∀{a:Addr},H a=none->a ∉ [dd]:=λh z=>by rw [bx.mp z,e2] at h;cases h
 obtain⟨dq',me⟩:=O1.me
 obtain⟨dx',ob⟩:=O1.go.ob
 obtain⟨_,td,_⟩:=O1.go.td
 obtain⟨_,rl,_⟩:=O1.go.rl
 have nfd:fr ∉ [dd]:=λz=>by rw [bx.mp z,e2] at e4;cases e4
 have O2:cw K t.bC t.aS ⟨q,p,tb,rp,fr,z0.f,z0.L,z0.d,[],0⟩ (mS [dd] H1) :=
  LO.anew O1 ((cm me (nn nq) λx z=>nomatch z).trans me.symm) ((cm ob (nn np) λx z=>nomatch z).trans ob.symm) ((cm td (nn ntb) λx z=>nomatch z).trans td.symm) ((cm rl (nn nrp) λx z=>nomatch z).trans rl.symm) (.inl (.inl (cm (s1 _ _ e4) nfd λx z=>nomatch z)))
 refine⟨_,rfl,_,rfl,_,pB lv,⟨q,p,tb,rp,fr,z0.f,z0.L,z0.d,[],0⟩,z0.l,rfl,O2,F.sm G,F.isg,by have:=G.n1;show 0+_<=_;omega,λA' B' hB O3 kp aft=>?_⟩
 obtain⟨u1,u2⟩:=pz lv aft
 have bk:=Bx lv aft
 have mv:bF [dd] H (put A' H1 (mS [dd] H1)):=λb o e n y=>fN (kp b o (cm (s1 b o e) n y) (bQ e np) (bQ e ntb) (bQ e nrp))
 have ndk:dk ∉ [dd]:=λz=>by rw [bx.mp z,e2] at e1;cases e1
 refine⟨_,rfl,_,rfl,dk,_,dq,_,_,rfl,mv _ _ e1 ndk (λx z=>nomatch z),T.eG,T.na_Desk_learners,BU _,_,rfl,dd,_,rfl,jw.k (k:=key nm) ((u1 dd bO).trans (s1 _ _ e2)) (by rw [sizeLine_eq];omega),?_⟩
 show Q (V.str (Str.ofString "ok")) _
 rw [oW]
 refine k ⟨q,p,tb,rp,fr,z0.f,z0.L,z0.d,z0.l,B'⟩ _ ⟨rfl,rfl,rfl,rfl,by have:B'<=0+7*z0.l.length:=hB;show B'<=_;omega⟩ ?_ ?_ aA λb o e n y=>?_
 ·intro a ha
  simp only [Lr.ads,bE,iZ,or_false] at ha
  rcases ha with rfl | rfl | rfl | rfl<;>assumption
 ·rw [Rp bO];exact LO.same (LO.bare O3) bk
 ·rw [au λz=>n (by rw [z];exact bO)];exact mv b o e n y
theorem nM.on{H2:Hp}{z0:Lr}(h:nM K D C H dd kvs nm z0 Q)(s:ak H H2):nM K D C H2 dd kvs nm z0 Q :=
 λz H' a b c d e=>h z H' a (λx hx=>s.free (b x hx)) c d (e.on s)
structure Dd(K:Frag)(D C dk dd:Addr)(H:Hp)(z z':Lr)(H':Hp):Prop where
 at_:cw K D C z' (mS [dd] H')
 bas:bF z.ads H H'
 dk:H' dk=H dk
 dd:H' dd=H dd
theorem Jp{E dq:Addr}{z:Lr}(e:H dk=some (.ins E dq (iC dd)))(O:cw K D C z (mS [dd] H)):dk ≠ z.p/\dk ≠ z.tb/\dk ≠ z.rp:=by
 obtain⟨dx,ob⟩:=(LO.go O).ob
 obtain⟨_,td,_⟩:=(LO.go O).td
 obtain⟨_,rl,_⟩:=(LO.go O).rl
 replace ob:=gG _ _ _ _ ob
 replace td:=gG _ _ _ _ td
 replace rl:=gG _ _ _ _ rl
 refine⟨λz=>?_,λz=>?_,λz=>?_⟩
 ·rw [z,ob] at e
  have:=congrArg List.length (HO.ins.inj (dS e)).2.2
  cases this
 ·rw [z,td] at e;cases e
 ·rw [z,rl] at e;cases e
inductive l5(K:Frag)(D C E:Addr)(vs:List V)(H:Hp)(Q:VK)(E0x:XK):Prop where
 | mk (dk dq dd:Addr) (kvs:List (aU × V)) (h nm:List Nat) (r:List (List Nat)) (_:vs=[.ref dk,vt (bT [32] (h::nm::r))]) (_:kM h (nm::r)) (_:gO nm) (_:H dk=some (.ins E dq (iC dd))) (_:H dd=some (.dK kvs)) (_:kvs.length<=100) (_:(h=wd "frame" -> ∃z0:Lr,r=[dg z0.d,z0.f::z0.L]/\c6 z0/\z0.l=[]/\nM K D C H dd kvs nm z0 Q)) (_:(h=wd "unwrap" -> ∃(z0:Lr) (b:List Nat),r=[lh (z0.f::z0.L) z0.d z0.l.length b]/\c6 z0/\FT z0 z0.l/\jy z0 [] z0.l b/\nM K D C H dd kvs nm z0 Q)) (_:(h ≠ wd "frame" -> h ≠ wd "unwrap" -> ∃z:Lr,aZ kvs (key nm)=some (.ref z.q)/\cw K D C z (mS [dd] H)/\c6 z/\FT z z.l/\z.B<=9000/\jk z h (nm::r) (bF [] H) (Dd K D C dk dd H z) Q)):l5 K D C E vs H Q E0x
theorem mX(T:Txt K mg t)(Y:KeysLit w.params t.e_ROW_SIZES.toList):ar P w K mg base (ay P w) 15 t.vH t.tH ["self", "row"] (l5 K t.bC t.aS t.cJ):=by
 refine T.gD.F.okm (k:=14) rq λcdv A outer s H vs Q E hr h=>?_
 obtain⟨dk,dq,dd,kvs,h,nm,r,rfl,R,N,e1,e2,e3,q1,q2,q3⟩:=h
 have G_answer:=ar.frmP (@Pz P w K mg base t T)
 refine⟨_,(ag (aC 2 rq.nd (pc (PN T Y) hr T.KI (a1 (pv 1)))) (ag (aC 3 rq.nd (pc (Qb T) hr T.L4 (a1 (aK 2)))) (ag (aW (bo (dR (hr.units0)) (aK 2) aO) (aj (az (cO (pv 0) T.eG T.CV (HK T) hr (cF.h (aE (pv 3) (aE (pc (Bd T) hr T.xZ (a2 (aK 2) (pc (B7 T) hr T.xW (a1 (aK 2))))) (aE aO cT))))))) aX) (ag (aW (bo (dR (hr.units0)) (aK 2) aO) (ag (aC 4 rq.nd (pc (PD T) hr T.Kz (a1 (aK 2)))) (aj (az (cO (pv 0) T.eG T.CV (HK T) hr (cF.h (aE (pv 3) (aE (aK 4) (aE (aK 4) cT)))))))) aX) (aj (az (pc G_answer hr T.Ky (a2 (cO (pv 0) T.eG T.L9 (Qg T) hr (a1 (pv 3))) (pv 2))))))))),?_⟩
 nofun
 refine⟨_,rfl,h,nm::r,rfl,R,λa H1 s1 na ea=>?_⟩
 refine⟨_,rfl,cQ (aD.of ea) (dw (k:=1) rfl) ⟨nm,rfl,N,λH2 s2=>?_⟩⟩
 have s12:=s1.trans s2
 have hL:aD K H2 a ((h::nm::r).map vt):=aD.of (s2 _ _ ea)
 refine⟨_,rfl,cQ hL (dw (k:=0) rfl) (.inl ⟨rfl,_,rfl,dr (λe=>?_) (λn1=>?_)⟩)⟩
 ·obtain⟨z0,rfl,F,el,k⟩:=q1 (gE.mp e)
  refine⟨_,rfl,dk,dq,_,rfl,s12 _ _ e1,(fE _).2.1,_,rfl,?_⟩
  refine⟨_,rfl,cQ hL (dw (k:=3) rfl) ⟨_,rfl,cQ hL (dw (k:=2) rfl) ⟨z0.d,rfl,by have:=F.d6;omega,λH3 s3=>?_⟩⟩⟩
  refine⟨z0.f::z0.L,z0.d,rfl,F.l2,F.l6,F.nd,F.isg,F.d6,λH4 fp s4 nfp=>?_⟩
  have s14:ak H (ai H4 fp (.tup [vt (z0.f::z0.L),.int z0.d])):=fQ nfp ((s12.trans s3).trans s4)
  exact⟨dk,dq,dd,kvs,nm,fp,z0,by rw [el,← gY];rfl,s14 _ _ e1,s14 _ _ e2,e3,aA,F,by rw [el];exact⟨λc h=>(nomatch h),cU _,by show 0*_<=_;rw [Nat.zero_mul];exact cU _⟩,k.on s14⟩
 refine⟨_,rfl,cQ hL (dw (k:=0) rfl) (.inl ⟨rfl,_,rfl,dr (λe=>?_) (λn2=>?_)⟩)⟩
 ·obtain⟨z0,b,rfl,F,G,hb,k⟩:=q2 (gE.mp e)
  refine⟨_,rfl,cQ hL (dw (k:=2) rfl) ⟨z0.f,z0.L,z0.d,z0.l,b,rfl,⟨F.l2,F.l6,F.nd,F.sg,F.d6,by have:=G.n1;omega,G.al,F.sp G,by have:=(c6.tb G).1;have:tb z0.d 0=0:=Nat.mul_zero _;omega,hb⟩,λH3 rr fp s3 er ef=>?_⟩⟩
  have s13:=s12.trans s3
  have hr3:aG K H3 rr [.ref fp,vt z0.l]:=.inl (.inl er)
  exact⟨_,rfl,dk,dq,_,rfl,s13 _ _ e1,(fE _).2.1,_,rfl,_,rfl,aV hr3 rfl ⟨_,rfl,aV hr3 rfl ⟨dk,dq,dd,kvs,nm,fp,z0,rfl,s13 _ _ e1,s13 _ _ e2,e3,ef,F,G,k.on s13⟩⟩⟩
 obtain⟨z,ev,O,F,G,hB,W⟩:=q3 (λy=>n1 (by rw [y];rfl)) λy=>n2 (by rw [y];rfl)
 clear q1 q2 q3
 have f2:=s12 _ _ e2
 have lv:=Iy f2
 have nk:=Jp e1 O
 have O2:cw K t.bC t.aS z (mS [dd] H2):=O.up λb o e _ _=>s12 b o e
 have na:a ∉ [dd]:=λy=>by have:=s2 _ _ ea;rw [bx.mp y,f2] at this;cases this
 have ndk:dk ∉ [dd]:=λy=>by rw [bx.mp y,e2] at e1;cases e1
 refine⟨_,rfl,dk,dq,_,rfl,s12 _ _ e1,(fE _).2.2,_,rfl,dk,dq,dd,kvs,nm,z.q,rfl,s12 _ _ e1,f2,ev,?_⟩
 refine⟨_,rfl,_,pB lv,z,a,h,nm::r,rfl,cm (s2 _ _ ea) na (λx z=>nomatch z),O2,F,G,hB,W.imp (λv A' sA k aft=>?_) λv z' A' ⟨O',kp⟩ k aft=>?_⟩
 ·refine k _ λb o e _ y=>?_
  by_cases hb:b=dd
  ·rw [hb] at e ⊢;rw [(pz lv aft).1 dd bO];exact s12 _ _ e
  ·exact fN (sA b o (cm (s12 b o e) (λz=>hb (bx.mp z)) y))
 ·have u1:=(pz lv aft).1 dd bO
  refine k _ ⟨LO.same (LO.bare O') (Bx lv aft),λb o e n y=>?_,?_,u1.trans (f2.trans e2.symm)⟩
  ·by_cases hb:b=dd
   ·rw [hb] at e ⊢;rw [u1];exact s12 _ _ e
   ·simp only [Lr.ads,bE,iZ,or_false,not_or] at n
    exact fN (kp b o (cm (s12 b o e) (λz=>hb (bx.mp z)) y) n.2.1 n.2.2.1 n.2.2.2)
  ·rw [fN (kp dk _ (cm (s12 _ _ e1) ndk λx z=>nomatch z) nk.1 nk.2.1 nk.2.2),e1]
theorem MG:V.str (Str.ofString "!\"#$&'()*+,-./0123456789:;<=>?@ABCDEFGHIJKLMNOPQRSTUVWXYZ[\\]^_`abcdefghijklmnopqrstuvwxyz{|}~")=vt (dU.drop 1):=congrArg V.str (by decide +kernel)
theorem nJ{x:Int}(h0:0<=x)(h:x<2^70):x.natAbs<2^100000:=dZ (show x.natAbs<2^70 by omega) (ma (by decide) (by decide))
theorem uU(l:List Nat){k:Int}(h:0<=k):dE l (some k) none=l.drop k.toNat:=by
 obtain⟨n,rfl⟩:=iJ h
 rw [BY];rfl
inductive F4(vs:List V)(H:Hp)(Q:VK)(E0x:XK):Prop where
 | mk (c k:Int) (_:vs=[.int c,.int k]) (_:0<=k) (_:k<=1000) (_:∀m:Int,0<=m->Q (.int m) H):F4 vs H Q E0x
theorem iq(T:Txt K mg t):ar P w K mg base (ay P w) 1 t.vw t.t8 ["cell", "k"] F4:=by
 refine T.ic.F.okm (k:=0) MS λcdv A outer s H vs Q E hr h=>?_
 obtain⟨c,k,rfl,k0,k1,q⟩:=h
 have a0:=gS c (show (998244353:Int) ≠ 0 by decide)
 have a1:=ju c (show (0:Int)<998244353 by decide)
 generalize hx:c % 998244353=x at a0 a1
 have kk:0<=31*k*k/\31*k*k<=31000000:=⟨fW (by omega) k0,aP (iI (show 31*k<=31000 by omega) k1 k0 (by omega)) (by decide)⟩
 have xk:0<=x*(40692+3*k)/\x*(40692+3*k)<=998244353*43692:=⟨fW a0 (by omega),iI (by omega) (by omega) (by omega) (by omega)⟩
 refine⟨_,(aj (az (ao dP (ao cP (ao aM (ao aM (ao cP (ao dP (pv 0) aw) (ao aM aw (ao cP aw (pv 1)))) (ao cP (ao cP aw (pv 1)) (pv 1))) aw) aw) aw))),?_⟩
 nofun
 refine⟨_,rfl,_,_,rfl,rfl,(by show (0:Int)<998244353;decide),?_⟩
 rfl'
 rw [hx]
 refine⟨_,rfl,.inl ⟨_,_,rfl,rfl,rX (by decide) (by decide),.inl ⟨_,_,rfl,rfl,.inl ⟨_,_,rfl,rfl,eC (nJ a0 (by omega)) (nJ (by omega) (by omega)),?_⟩⟩⟩⟩
 refine⟨_,rfl,.inl ⟨_,_,rfl,rfl,rX (by decide) (by decide),_,rfl,.inl ⟨_,_,rfl,rfl,eC (nJ (by omega) (by omega)) (nJ k0 (by omega)),.inl ⟨_,_,rfl,rfl,.inl ⟨_,_,rfl,rfl,.inl ⟨_,_,rfl,rfl,eC (nJ (by omega) (by omega)) (nJ (by decide) (by decide)),_,_,rfl,rfl,(by show (0:Int)<2147483249;decide),?_⟩⟩⟩⟩⟩⟩
 exact q _ (gS _ (by decide))
structure o2(i:Nat)(a0 b:Int)(L:List Nat):Prop where
 len:L.length=i
 nd:L.Nodup
 fr:∀x ∈ L,∃b':Int,a0<=b'/\b'<b/\(dU.drop 1)[(b' % 93).toNat]?=some x
 up:b<=a0+15*i
 lo:a0<=b
theorem Gy:(dU.drop 1).length=93:=by decide +kernel
theorem NC:(dU.drop 1).Nodup:=by decide +kernel
theorem o2.next{a0:Int}(h:o2 i a0 b L)(hi:i<=5){m:Int}(m0:0<=m)(m1:m<15){p:Nat}(hc:(dU.drop 1)[(b % 93).toNat]?=some c)(hp:p<=L.length):o2 (i+1) a0 (b+1+m) (L.take p++[c]++L.drop p):=by
 have perm:(L.take p++[c]++L.drop p).Perm (c::L):=by
  rw [gA]
  have:(L.take p++(c::L.drop p)).Perm (c::(L.take p++L.drop p)):=List.perm_middle
  rw [kO] at this
  exact this
 have hn:c ∉ L:=λhm=>by
  obtain⟨b',b0,b1,hb⟩:=h.fr c hm
  have e1:=gS b' (show (93:Int) ≠ 0 by decide)
  have e2:=gS b (show (93:Int) ≠ 0 by decide)
  have e3:=v8 NC hb hc
  have:=h.up
  omega
 refine⟨by rw [perm.length_eq,d8,h.len],perm.nodup_iff.mpr (jU.mpr ⟨hn,h.nd⟩),λx hx=>?_,by have:=h.up;omega,by have:=h.lo;omega⟩
 rcases bE.mp (perm.mem_iff.mp hx) with rfl | hx
 ·exact⟨b,h.lo,by omega,hc⟩
 ·obtain⟨b',b0,b1,hb⟩:=h.fr x hx
  exact⟨b',b0,by omega,hb⟩
theorem o2.mem{a0:Int}(h:o2 i a0 b L):∀x ∈ L,x ∈ dU.drop 1:=λx hx=>by
 obtain⟨b',_,_,e⟩:=h.fr x hx
 exact eU e
inductive F8(vs:List V)(H:Hp)(Q:VK)(E0x:XK):Prop where
 | mk (c:Int) (_:vs=[.int c]) (_:∀L:List Nat,2<=L.length->L.length<=6->L.Nodup->(∀x ∈ L,x ∈ dU.drop 1)->Q (vt L) H):F8 vs H Q E0x
theorem Qa(T:Txt K mg t):ar P w K mg base (ay P w) 2 t.wH t.ur ["cell"] F8:=by
 refine T.L3.F.okm (k:=1) kg λcdv A outer s H vs Q E hr h=>?_
 obtain⟨c,rfl,q⟩:=h
 have zs:(dU.drop 1).length<=sizeLine:=by rw [Gy,sizeLine_eq];decide
 refine⟨_,(ag (aC 1 kg.nd aO) (ag (aC 2 kg.nd (ao dP (pv 0) aw)) (ag (aC 3 kg.nd aO) (ag (cW cR rfl (ky rfl T.iQ (a1 (ao aM aw (ao dP (pc (iq T) hr T.ic (a2 (pv 0) aw)) aw)))) (bB 4 kg.nd) (ag (aC 5 kg.nd (ao dP (pc (iq T) hr T.ic (a2 (pv 0) (ao aM aw (pv 4)))) (ao aM (cq T.ck (pv 3)) aw))) (ag (aC 3 kg.nd (ao aM (ao aM (ez ei (pv 3) fO (dv (pv 5))) (cA (pv 1) (pv 2))) (ez ei (pv 3) (dv (pv 5)) fO))) (aj (aC 2 kg.nd (ao dP (ao aM (ao aM (pv 2) aw) (ao dP (pc (iq T) hr T.ic (a2 (pv 0) (ao aM aw (pv 4)))) aw)) aw)))))) (aj (az (pv 3))))))),?_⟩
 rw [MG,gY]
 nofun
 refine⟨_,rfl,_,_,rfl,rfl,(by show (0:Int)<93;decide),?_⟩
 rfl'
 have a0:=gS c (show (93:Int) ≠ 0 by decide)
 have a1:=ju c (show (0:Int)<93 by decide)
 generalize c % 93=aa at a0 a1 ⊢
 refine⟨_,rfl,c,1,rfl,by decide,by decide,λm0 hm0=>⟨_,_,rfl,rfl,(by show (0:Int)<5;decide),.inl ⟨_,_,rfl,rfl,?_⟩⟩⟩
 have c0:=gS m0 (show (5:Int) ≠ 0 by decide)
 have c1:=ju m0 (show (0:Int)<5 by decide)
 obtain⟨n,hn⟩:∃n:Nat,2+m0 % 5=(n:Int):=⟨(2+m0 % 5).toNat,by omega⟩
 refine⟨(n:Int),congrArg (λz=>[V.int z]) hn,by omega,by omega,?_⟩
 refine kI (λi σ H'=>∃(b:Int) (L:List Nat) (r4 r5:Option V),σ=[some (.int c),some (vt (dU.drop 1)),some (.int (b % 93)),some (vt L),r4,r5]/\H'=H/\o2 i aa b L) ⟨aa,[],_,_,by rw [Int.emod_eq_of_lt a0 a1];rfl,rfl,⟨rfl,List.nodup_nil,λx h=>(nomatch h),by omega,by omega⟩⟩ ?_ ?_
 ·rintro i _ _ hi ⟨b,L,r4,r5,rfl,rfl,hL⟩
  have hi5:i<=5:=by omega
  have hll:=hL.len
  have zL:L.length<=sizeLine:=by rw [sizeLine_eq];omega
  refine⟨_,rfl,_,rfl,.inl ⟨_,_,rfl,rfl,c,_,rfl,by omega,by omega,λm2 hm2=>⟨_,rfl,_,_,rfl,dD zL,.inl ⟨_,_,rfl,rfl,_,_,rfl,rfl,(by show (0:Int)<((L.length:Nat):Int)+1;omega),?_⟩⟩⟩⟩
  rfl'
  have g0:=gS m2 (show ((L.length:Nat):Int)+1 ≠ 0 by omega)
  have g1:=ju m2 (show (0:Int)<((L.length:Nat):Int)+1 by omega)
  generalize m2 % (((L.length:Nat):Int)+1)=p at g0 g1 ⊢
  have a4:=gS b (show (93:Int) ≠ 0 by decide)
  have a5:=ju b (show (0:Int)<93 by decide)
  have hlt:(b % 93).toNat<(dU.drop 1).length:=by rw [Gy];omega
  have hc:=bq hlt
  have hat:dz (dU.drop 1) (b % 93)=some (dU.drop 1)[(b % 93).toNat]:=by
   have:=fR (xs:=dU.drop 1) (j:=(b % 93).toNat) hc
   rwa [Cw a4] at this
  refine⟨_,rfl,_,rfl,_,rfl,.inr (eF zL ?_)⟩
  rw [BW L g0]
  refine⟨_,rfl,_,rfl,gH zs hat (.inr (.inl (aY ?_ ?_)))⟩
  ·rw [sizeLine_eq,dM];show _+1<=_;omega
  refine⟨_,rfl,_,rfl,_,rfl,.inr (eF zL ?_)⟩
  rw [uU L g0]
  refine .inr (.inl (aY ?_ ?_))
  ·rw [sizeLine_eq,aq,dM,gR];show _+1+_<=_;omega
  refine⟨_,rfl,.inl ⟨_,_,rfl,rfl,_,rfl,_,rfl,.inl ⟨_,_,rfl,rfl,c,_,rfl,by omega,by omega,λm1 hm1=>⟨_,_,rfl,rfl,(by show (0:Int)<15;decide),.inl ⟨_,_,rfl,rfl,_,_,rfl,rfl,(by show (0:Int)<93;decide),?_⟩⟩⟩⟩⟩
  rfl'
  have e0:=gS m1 (show (15:Int) ≠ 0 by decide)
  have e1:=ju m1 (show (0:Int)<15 by decide)
  generalize m1 % 15=m at e0 e1 ⊢
  exact⟨b+1+m,_,_,_,by rw [show (b % 93+1+m) % 93=(b+1+m) % 93 by omega];rfl,rfl,hL.next hi5 e0 e1 hc (by omega)⟩
 ·rintro _ _ ⟨b,L,r4,r5,rfl,rfl,hL⟩
  have:=hL.len
  exact⟨_,rfl,q L (by omega) (by omega) hL.nd hL.mem⟩
inductive Ez(K:Frag)(vs:List V)(H:Hp)(Q:VK)(E0x:XK):Prop where
 | mk (a:Addr) (ns:List Int) (L:List Nat) (way:Int) (mo:Nat) (_:vs=[.ref a,vt L,.int way,.int (mo:Int)]) (_:aD K H a (ns.map V.int)) (_:ns.length<=63) (_:2<=L.length) (_:L.length<=6) (_:mo<=40) (_:∀l:List Nat,(∀c ∈ l,c ∈ L)->l.length<=mo->Q (vt l) H):Ez K vs H Q E0x
theorem PR(T:Txt K mg t):ar P w K mg base (ay P w) 2 t.vQ t.tP ["script", "letters", "way", "most"] (Ez K):=by
 refine T.KJ.F.okm (k:=1) mK λcdv A outer s H vs Q E hr h=>?_
 obtain⟨a,ns,L,way,mo,rfl,ha,hns,hL2,hL6,hmo,q⟩:=h
 have zL:L.length<=sizeLine:=by rw [sizeLine_eq];omega
 refine⟨_,(ag (aC 4 mK.nd aO) (ag (cW cR rfl (Oj rfl T.iQ (a2 aw (dB (TY rfl) rfl T.R8 U3 (a2 (cq T.ck (pv 0)) (ao aM aw (pv 3)))))) (bB 5 mK.nd) (ag (aC 6 mK.nd (ao dP (pc (iq T) hr T.ic (a2 (cA (pv 0) (pv 5)) aw)) (cq T.ck (pv 1)))) (ag (aW (PW.pt (Hb (bo oU (pv 2) aw) (Hb (bo (fP (hr.units0)) (pv 4) aO) (NV (bo oU (ao dP (pc (iq T) hr T.ic (a2 (cA (pv 0) (pv 5)) aw)) aw) aw))))) (aj (aC 6 mK.nd (fh hZ qf xm pf (pv 1) (a1 (cA (pv 4) (iP iL aw)))))) aX) (aj (aC 4 mK.nd (ao aM (pv 4) (cA (pv 1) (pv 6)))))))) (aj (az (pv 4))))),?_⟩
 rw [gY]
 nofun
 refine⟨_,rfl,_,_,rfl,.inl ⟨_,ha,rfl⟩,_,rfl,.inl ⟨_,_,rfl,rfl,.inl ⟨_,_,rfl,?_⟩⟩⟩
 rfl'
 obtain⟨J,hJ,J0,J1,J2⟩:∃J:Int,(if 4+(mo:Int)<(((ns.map V.int).length:Nat):Int) then 4+(mo:Int) else (((ns.map V.int).length:Nat):Int))=J/\0<=J/\J<=4+mo/\J<=ns.length:=by
  rw [aT]
  refine⟨_,rfl,?_,?_,?_⟩<;>split<;>omega
 rw [hJ]
 refine⟨4,J,rfl,⟨by omega,by omega,by omega,by omega⟩,?_⟩
 refine kI (λi σ X=>∃(tx:List Nat) (r5 r6:Option V),σ=[some (.ref a),some (vt L),some (.int way),some (.int (mo:Int)),some (vt tx),r5,r6]/\X=H/\tx.length=i/\∀c ∈ tx,c ∈ L) ⟨[],_,_,rfl,rfl,rfl,(λc h=>nomatch h)⟩ ?_ ?_
 ·rintro i _ H hi ⟨tx,r5,r6,rfl,rfl,htl,htm⟩
  have hi:i<(J-4).toNat:=hi
  obtain⟨v,hvm,hat⟩:=Ug (ns:=ns) (k:=4+(i:Int)) (by omega) (by omega)
  refine⟨_,rfl,_,rfl,cQ ha hat ⟨v,30,rfl,by decide,by decide,λm hm=>⟨_,rfl,_,_,rfl,dD zL,_,_,rfl,rfl,(by show (0:Int)<(L.length:Nat);omega),?_⟩⟩⟩
  rfl'
  have k0:=gS m (show ((L.length:Nat):Int) ≠ 0 by omega)
  have k1:=ju m (show (0:Int)<(L.length:Nat) by omega)
  generalize m % ((L.length:Nat):Int)=at0 at k0 k1 ⊢
  obtain⟨j0,rfl⟩:=iJ k0
  dsimp (config:={ eta:=false,zeta:=false,iota:=false }) only [f9]
  show kZ (qY _ _ _) _ _ [some (.ref a),some (vt L),some (.int way),some (.int (mo:Int)),some (vt tx),some (.int (4+(i:Int))),some (.int (j0:Int))] H
  refine Br (λσ X=>∃j:Nat,j<L.length/\σ=[some (.ref a),some (vt L),some (.int way),some (.int (mo:Int)),some (vt tx),some (.int (4+(i:Int))),some (.int (j:Int))]/\X=H) (λN hN=>?_) ?_
  ·have plain:N [some (.ref a),some (vt L),some (.int way),some (.int (mo:Int)),some (vt tx),some (.int (4+(i:Int))),some (.int (j0:Int))] H:=hN _ _ ⟨j0,by omega,rfl,rfl⟩
   refine⟨_,rfl,_,_,rfl,rfl,_,rfl,dr (λ_=>?_) (λ_=>bK plain)⟩
   refine⟨_,rfl,.inl ⟨rfl,_,rfl,IP (λne=>?_) (λ_=>bK plain)⟩⟩
   refine⟨_,rfl,_,rfl,cQ ha hat ⟨v,31,rfl,by decide,by decide,λm3 hm3=>⟨_,_,rfl,rfl,(by show (0:Int)<4;decide),_,_,rfl,rfl,_,rfl,dr (λ_=>?_) (λ_=>plain)⟩⟩⟩
   rcases xK tx with rfl | ⟨tx',u,rfl⟩
   ·exact absurd rfl ne
   rw [xN] at *
   have ztx:(tx'++[u]).length<=sizeLine:=by rw [sizeLine_eq];omega
   refine⟨_,rfl,rfl,_,rfl,_,rfl,gH ztx (v9 tx' u) ⟨L,u,rfl,rfl,htm u (by simp),λj hj=>?_⟩⟩
   exact hN _ _ ⟨j,(bh.mp hj).1,rfl,rfl⟩
  rintro _ H ⟨j,hj,rfl,rfl⟩
  have hcj:=bq hj
  generalize L[j]=c at hcj
  have hcm:=eU hcj
  refine⟨_,rfl,_,rfl,_,rfl,gH zL (fR hcj) (.inr (.inl (aY (by rw [sizeLine_eq];show _+1<=_;omega) ?_)))⟩
  refine⟨tx++[c],_,_,rfl,rfl,by rw [aq,htl];rfl,λy hy=>?_⟩
  rcases cD.mp hy with z | z
  ·exact htm y z
  ·rw [bx.mp z];exact hcm
 ·rintro _ _ ⟨tx,r5,r6,rfl,rfl,htl,htm⟩
  have:(J-4).toNat<=mo:=by omega
  exact⟨_,rfl,q tx htm (by rw [htl];exact this)⟩
theorem FY:small.length=26:=rfl
inductive EZ(vs:List V)(H:Hp)(Q:VK)(E0x:XK):Prop where
 | mk (c:Int) (_:vs=[.int c]) (_:∀nm ot p H',ak H H'->gO nm->gO ot->nm ≠ ot->H' p=some (.tup [vt nm,vt ot])->Q (.ref p) H'):EZ vs H Q E0x
theorem NU:V.str (Str.ofString "q")=vt [113]:=congrArg V.str (by decide +kernel)
theorem Lp:V.str (Str.ofString "x")=vt [120]:=congrArg V.str (by decide +kernel)
theorem FZ{m:Int}(h0:0<=m)(h1:m<26):∃c ∈ small,dz small m=some c:=by
 obtain⟨j,rfl⟩:=iJ h0
 have hj:j<small.length:=by rw [FY];omega
 exact⟨_,jX hj,fR (bq hj)⟩
theorem kC(m:Int){n:Int}(h:0<n):0<=m % n/\m % n<n:=⟨gS _ (by omega),ju _ h⟩
theorem Q0(T:Txt K mg t):ar P w K mg base (ay P w) 2 t.wc t.u7 ["cell"] EZ:=by
 refine T.KR.F.okm (k:=1) l9 λcdv A outer s H vs Q E hr h=>?_
 obtain⟨c,rfl,q⟩:=h
 have zs:small.length<=sizeLine:=by rw [sizeLine_eq,FY];decide
 refine⟨_,(ag (aC 1 l9.nd aO) (ag (aC 2 l9.nd aO) (ag (cW cR rfl (ky rfl T.iQ (a1 (ao aM aw (ao dP (pc (iq T) hr T.ic (a2 (pv 0) aw)) aw)))) (bB 3 l9.nd) (aj (aC 2 l9.nd (ao aM (pv 2) (cA (pv 1) (ao dP (pc (iq T) hr T.ic (a2 (pv 0) (ao aM aw (pv 3)))) aw)))))) (ag (aC 4 l9.nd (cA (jC (cF.h (aE (ao aM (pv 2) (cA (pv 1) (ao dP (pc (iq T) hr T.ic (a2 (pv 0) aw)) aw))) (aE (Ov (pv 2) (iP iL aw)) (aE (ao aM (ez ei (pv 2) (dv aw) fO) aO) cT))))) (ao dP (pc (iq T) hr T.ic (a2 (pv 0) aw)) aw))) (ag (aW (bo (dR (hr.units0)) (pv 4) (pv 2)) (aj (aC 4 l9.nd (ao aM (pv 2) aO))) aX) (aj (az (fB (a2 (pv 2) (pv 4)))))))))),?_⟩
 rw [FW,gY]
 nofun
 refine⟨_,rfl,c,40,rfl,by decide,by decide,λm0 _=>⟨_,_,rfl,rfl,(by show (0:Int)<7;decide),.inl ⟨_,_,rfl,rfl,?_⟩⟩⟩
 obtain⟨c0,c1⟩:=kC m0 (show (0:Int)<7 by decide)
 obtain⟨n,hn⟩:∃n:Nat,1+m0 % 7=(n:Int):=⟨(1+m0 % 7).toNat,by omega⟩
 refine⟨(n:Int),congrArg (λz=>[V.int z]) hn,by omega,by omega,?_⟩
 refine kI (λi σ H'=>∃(l:List Nat) (r3 r4:Option V),σ=[some (.int c),some (vt small),some (vt l),r3,r4]/\H'=H/\l.length=i/\∀x ∈ l,x ∈ small) ⟨[],_,_,rfl,rfl,rfl,λx h=>nomatch h⟩ ?_ ?_
 ·rintro i _ _ hi ⟨l,r3,r4,rfl,rfl,hl,hs⟩
  refine⟨_,rfl,_,rfl,_,rfl,_,rfl,.inl ⟨_,_,rfl,rfl,c,_,rfl,by omega,by omega,λm _=>⟨_,_,rfl,rfl,(by show (0:Int)<26;decide),?_⟩⟩⟩
  obtain⟨a0,a1⟩:=kC m (show (0:Int)<26 by decide)
  obtain⟨x,hx,ex⟩:=FZ a0 a1
  refine gH zs ex (.inr (.inl (aY (by rw [sizeLine_eq];show _+1<=_;omega) ?_)))
  refine⟨l++[x],_,_,rfl,rfl,by rw [aq,hl];rfl,λy hy=>?_⟩
  rcases cD.mp hy with z | z
  ·exact hs y z
  ·rw [bx.mp z];exact hx
 rintro _ H ⟨l,r3,r4,rfl,rfl,hl,hs⟩
 have hl:l.length=n:=hl
 have zl:l.length<=sizeLine:=by rw [sizeLine_eq];omega
 refine⟨_,rfl,_,rfl,_,rfl,c,50,rfl,by decide,by decide,λm _=>⟨_,_,rfl,rfl,(by show (0:Int)<26;decide),?_⟩⟩
 obtain⟨a0,a1⟩:=kC m (show (0:Int)<26 by decide)
 obtain⟨x,hx,ex⟩:=FZ a0 a1
 refine gH zs ex (.inr (.inl (aY (by rw [sizeLine_eq];show _+1<=_;omega) ?_)))
 refine⟨_,rfl,_,rfl,l,rfl,rfl,zl,?_⟩
 refine⟨_,rfl,_,rfl,.inr (eF zl ?_)⟩
 rw [uU l (show (0:Int)<=1 by decide),NU]
 refine .inr (.inl (aY (by rw [sizeLine_eq,gR];show _+1<=_;omega) ?_))
 refine⟨by rw [sizeLine_eq];show 3<=_;decide,λp hp=>?_⟩
 have hL:aD K (ai H p (.lst ([l++[x],l.reverse,l.drop 1++[113]].map vt))) p ([l++[x],l.reverse,l.drop 1++[113]].map vt):=aD.of aA
 have s1:ak H (ai H p (.lst ([l++[x],l.reverse,l.drop 1++[113]].map vt))):=bL hp _
 refine⟨_,rfl,c,51,rfl,by decide,by decide,λm3 _=>⟨_,_,rfl,rfl,(by show (0:Int)<3;decide),?_⟩⟩
 obtain⟨b0,b1⟩:=kC m3 (show (0:Int)<3 by decide)
 obtain⟨j,hj⟩:∃j:Nat,m3 % 3=(j:Int):=⟨(m3 % 3).toNat,by omega⟩
 rfl'
 rw [hj]
 obtain⟨y,hy⟩:∃y,[l++[x],l.reverse,l.drop 1++[113]][j]?=some y:=⟨_,bq (by show j<3;omega)⟩
 have hm:=eU hy
 refine cQ hL (dw hy) ?_
 have ad:∀{k:List Nat} {c:Nat},(∀x ∈ k,x ∈ small)->c ∈ small->k.length<=7->gO (k++[c]):=λ {k c} h1 h2 h3=>by
  have e:(k++[c]).length=k.length+1:=aq
  refine⟨by omega,by omega,λy hy=>?_⟩
  rcases cD.mp hy with z | z
  ·exact h1 y z
  ·rw [bx.mp z];exact h2
 have hy:gO y:=by
  simp only [bE,iZ,or_false] at hm
  rcases hm with rfl | rfl | rfl
  ·exact ad hs hx (by omega)
  ·exact⟨by rw [i9];omega,by rw [i9];omega,λz hz=>hs z (List.mem_reverse.mp hz)⟩
  ·exact ad (λz hz=>hs z (xG hz)) (by decide) (by rw [gR];omega)
 have hl1:gO l:=⟨by omega,by omega,hs⟩
 refine⟨_,rfl,_,rfl,.inl ⟨rfl,_,rfl,dr (λe=>?_) (λne=>?_)⟩⟩
 ·rw [Lp]
  refine⟨_,rfl,.inr (.inl (aY (by rw [sizeLine_eq];show _+1<=_;omega) ?_))⟩
  refine⟨_,rfl,_,rfl,by rw [sizeLine_eq];show 2<=_;decide,λp2 hp2=>?_⟩
  exact q l (l++[120]) p2 _ (fQ hp2 s1) hl1 (ad hs (by decide) (by omega)) (λz=>by have:=congrArg List.length z;rw [aq] at this;simp at this) aA
 ·refine⟨_,rfl,_,rfl,by rw [sizeLine_eq];show 2<=_;decide,λp2 hp2=>?_⟩
  exact q l y p2 _ (fQ hp2 s1) hl1 hy (λz=>ne (by rw [z])) aA
theorem uS:∀c ∈ dg n,48<=c/\c<=57:=λc hc=>by
 obtain⟨x,hx,rfl⟩:=i7.mp hc
 have h:=Nat.isDigit_of_mem_toDigits (by decide) (by decide) hx
 unfold Char.isDigit at h
 rw [fZ,decide_eq_true_eq,decide_eq_true_eq] at h
 exact⟨UInt32.le_iff_toNat_le.mp h.1,UInt32.le_iff_toNat_le.mp h.2⟩
theorem Jo:∀n:Nat,0<n->∃c r,dg n=c::r/\c ≠ 48:=λn=>by
 induction n using Nat.strongRecOn with
 | _ n ih =>
   intro h
   by_cases z:n<10
   ·exact⟨48+n,[],BS z,by omega⟩
   ·obtain⟨c,r,e,hc⟩:=ih (n / 10) (by omega) (by omega)
    unfold dg at e ⊢
    rw [Nat.toDigits_eq_if (by decide),if_neg z,gv,e]
    exact⟨c,_,rfl,hc⟩
theorem G9:V.str (Str.ofString "/")=vt [47]:=congrArg V.str (by decide +kernel)
inductive Fc(vs:List V)(H:Hp)(Q:VK)(E0x:XK):Prop where
 | mk (n m:Nat) (_:vs=[vt (gf n m)]) (_:0<n) (_:0<m) (_:(dg n).length<=1900) (_:(dg m).length<=1900) (_:∀H',ak H H'->Q (.bl true) H'):Fc vs H Q E0x
theorem Q9(T:Txt K mg t):ar P w K mg base (ay P w) 1 t.wG t.uq ["found"] Fc:=by
 refine T.L0.F.okm (k:=0) yF λcdv A outer s H vs Q E hr h=>?_
 obtain⟨n,m,rfl,n0,m0,ln,lm,q⟩:=h
 have ef:gf n m=bT [47] [dg n,dg m]:=by rw [gk];rfl
 have hp:∀p ∈ [dg n,dg m],(∃c r,p=c::r/\c ≠ 48)/\p.length<=1900/\∀c ∈ p,48<=c/\c<=57:=λp h=>by
  simp only [bE,iZ,or_false] at h
  rcases h with rfl | rfl
  ·exact⟨Jo _ n0,ln,uS⟩
  ·exact⟨Jo _ m0,lm,uS⟩
 have ec:(gf n m).count 47=1:=by
  have z:∀{k:Nat},(dg k).count 47=0:=List.count_eq_zero.mpr λh=>by have:=uS _ h;omega
  show (dg n++47::dg m).count 47=1
  rw [List.count_append,List.count_cons_self,z,z]
 have el:(gf n m).length<=4000:=by show (dg n++47::dg m).length<=4000;rw [aq,d8];omega
 refine⟨_,(ag (aW (PW.pt (fA (dh (du (dB jL rfl T.jJ jP (a2 (pv 0) (jE (v:=.ty "str") rfl T.g9 nH rfl))))) (fM (bo (fP (hr.units0)) (fh hZ PySem.F.slot_str_count PySem.F.type_str_count QM (pv 0) (a1 aO)) aw)))) (aj (az eA)) aX) (ag (cW cR rfl (di (fh hZ xn PySem.F.type_str_split Ig (pv 0) (a1 aO))) (bB 1 yF.nd) (ag (aW (PW.pt (fA (bo (dR (hr.units0)) (pv 1) aO) (fM (bo (dR (hr.units0)) (aK 1) aO)))) (aj (az eA)) aX) (aj (cW cR rfl (di (pv 1)) (bB 2 yF.nd) (aj (aW (AG HZ (pv 2) aO (by with_unfolding_all rfl)) (aj (az eA)) aX)))))) (aj (az eA)))),?_⟩
 nofun
 refine⟨_,rfl,.inl ⟨_,_,_,true,rfl,.str _,jg K _,true,rfl,bK ?_⟩⟩
 rw [G9]
 refine⟨_,rfl,rfl,gf n m,47,rfl,rfl,.inl ⟨rfl,_,rfl,?_⟩⟩
 rw [ec]
 refine eE rfl ?_
 refine⟨_,rfl,rfl,47,[dg n,dg m],congrArg vt ef,rfl,Ct _ _,λp h z=>by have:=(hp p h).2.2 _ z;omega,by rw [← ef];omega,λr hr=>?_⟩
 refine .inl ⟨r,_,rfl,aD.of aA,?_⟩
 have s1:ak H (ai H r (.lst ([dg n,dg m].map vt))):=bL hr _
 have e1:ai H r (.lst ([dg n,dg m].map vt)) r=some (.lst ([dg n,dg m].map vt)):=aA
 generalize ai H r (.lst ([dg n,dg m].map vt))=H1 at s1 e1
 refine fD (iK (xs:=[dg n,dg m].map vt)) (λi σ H'=>∃r1 r2,σ=[some (vt (gf n m)),r1,r2]/\H'=H1) ⟨_,_,rfl,rfl⟩ (λi σ H' _ ⟨_,_,_,h⟩=>by rw [h];exact aD.of e1) ?_ ?_
 ·rintro i x _ H1 hx ⟨r1,r2,rfl,rfl⟩
  rw [bS] at hx
  obtain⟨p,hpi,rfl⟩:=xr.mp hx
  obtain⟨⟨c,r,rfl,hc⟩,hl,hd⟩:=hp p (eU hpi)
  have zl:(c::r).length<=sizeLine:=by rw [sizeLine_eq];omega
  rw [gY,Az,Jc]
  refine⟨_,rfl,.inl ⟨rfl,_,rfl,pD (λz=>by cases gE.mp z) ?_⟩⟩
  refine⟨_,rfl,gH zl (fR (j:=0) rfl) (.inl ⟨rfl,_,rfl,pD (λz=>hc (by cases gE.mp z;rfl)) ?_⟩)⟩
  refine⟨_,rfl,.inr (.inr ⟨_,rfl,?_⟩)⟩
  refine fD (fw (c::r)) (λi σ H'=>∃r2,σ=[some (vt (gf n m)),some (vt (c::r)),r2]/\H'=H1) ⟨_,rfl,rfl⟩ (λ_ _ _ _ _=>trivial) ?_ ?_
  ·rintro j y _ H1 hy ⟨r2,rfl,rfl⟩
   obtain⟨e,he,rfl⟩:=fL hy
   refine⟨_,rfl,.inl ⟨e,_,rfl,rfl,_,rfl,?_⟩⟩
   have:decide (e ∈ [48,49,50,51,52,53,54,55,56,57])=true:=BH (hd e (eU he))
   rw [if_pos rfl,this]
   exact bK ⟨_,rfl,rfl⟩
  ·rintro _ H1 ⟨r2,rfl,rfl⟩
   exact⟨_,_,rfl,rfl⟩
 ·rintro _ _ ⟨r1,r2,rfl,rfl⟩
  exact q _ s1
structure cN(K:Frag)(D C E dk dd:Addr)(kvs:List (aU × V))(nm:List Nat)(z:Lr)(H:Hp):Prop where
 me:∃dq,H dk=some (.ins E dq (iC dd))
 td:H dd=some (.dK kvs)
 ln:kvs.length<=100
 vl:aZ kvs (key nm)=some (.ref z.q)
 at_:cw K D C z (mS [dd] H)
 ft:c6 z
 fl:FT z z.l
 bd:z.B<=9000
 nm:gO nm
theorem cw.to{z:Lr}{S S':List Addr}{G:Hp}(h:cw K D C z (mS S H))(s:∀b o,H b=some o->b ∉ S->(∀y,o ≠ .own y)->mS S' G b=some o):cw K D C z (mS S' G) :=
 LO.same (LO.bare h) λb o e=>s b o (gG _ _ _ _ (mY e)) (λhb=>by have:=mY e;rw [iA hb] at this;cases this) λy z=>by rw [z] at e;exact rV e
theorem cN.to{E:Addr}{z:Lr}{G:Hp}(h:cN K D C E dk dd kvs nm z H)(s:bF [] H G):cN K D C E dk dd kvs nm z G :=
 ⟨let ⟨dq,e⟩:=h.me;⟨dq,s _ _ e (λh=>nomatch h) λx z=>nomatch z⟩,s _ _ h.td (λh=>nomatch h) (λx z=>nomatch z),h.ln,h.vl,h.at_.to λb o e n y=>cm (s b o e (λh=>nomatch h) y) n y,h.ft,h.fl,h.bd,h.nm⟩
theorem cN.say{E:Addr}{hd:List Nat}{r:List (List Nat)}{z:Lr}{X:XK}(h:cN K D C E dk dd kvs nm z H)(R:kM hd (nm::r))(n1:hd ≠ wd "frame")(n2:hd ≠ wd "unwrap")(W:jk z hd (nm::r) (bF [] H) (Dd K D C dk dd H z) Q):
 l5 K D C E [.ref dk,vt (bT [32] (hd::nm::r))] H Q X:=by
 obtain⟨dq,e⟩:=h.me
 exact⟨dk,dq,dd,kvs,hd,nm,r,rfl,R,h.nm,e,h.td,h.ln,λe=>absurd e n1,λe=>absurd e n2,λ_ _=>⟨z,h.vl,h.at_,h.ft,h.fl,h.bd,W⟩⟩
noncomputable def hdA:Nat->List Nat
 | 0=>wd "held"
 | 1=>wd "weight"
 | 2=>wd "tree"
 | 3=>wd "press"
 | _=>wd "wrap"
noncomputable def rH(x:List Nat):Nat->List (List Nat)
 | 3=>[x]
 | _=>[]
noncomputable def An(z:Lr)(x:List Nat):Nat->List Nat->Prop
 | 0,v=>v=z.l
 | 1,v=>∃n m,nT (wt z) n m/\v=gf n m
 | 2,v=>v=wr (qU z)
 | 3,v=>jy z z.l x v
 | _,v=>∃c,jy z [] z.l c/\v=lh (z.f::z.L) z.d z.l.length c
theorem qL{z:Lr}{x:List Nat}{St:Hp->Prop}{De:Lr->Hp->Prop}(g:FT z (z.l++x)):∀j,(∀v H',An z x j v->St H'->Q (vt v) H')->jk z (hdA j) (nm::rH x j) St De Q
 | 0,k=>⟨λe=>absurd e (by decide +kernel),λe=>absurd e (by decide +kernel),λ_ H' s=>k _ H' rfl s,λe=>absurd e (by decide +kernel),(by decide +kernel),λe=>absurd e (by decide +kernel),λe=>absurd e (by decide +kernel),λe=>absurd e (by decide +kernel),λ_ _ e _ _ _ _=>absurd rfl e⟩
 | 1,k=>⟨λe=>absurd e (by decide +kernel),λe=>absurd e (by decide +kernel),λe=>absurd e (by decide +kernel),λ_ n m H' h s=>k _ H' ⟨n,m,h,rfl⟩ s,(by decide +kernel),λe=>absurd e (by decide +kernel),λe=>absurd e (by decide +kernel),λe=>absurd e (by decide +kernel),λ_ _ _ e _ _ _=>absurd rfl e⟩
 | 2,k=>⟨λe=>absurd e (by decide +kernel),λe=>absurd e (by decide +kernel),λe=>absurd e (by decide +kernel),λe=>absurd e (by decide +kernel),(by decide +kernel),λ_ H' s=>k _ H' rfl s,λe=>absurd e (by decide +kernel),λe=>absurd e (by decide +kernel),λ_ _ _ _ e _ _=>absurd rfl e⟩
 | 3,k=>⟨λe=>absurd e (by decide +kernel),λe=>absurd e (by decide +kernel),λe=>absurd e (by decide +kernel),λe=>absurd e (by decide +kernel),(by decide +kernel),λe=>absurd e (by decide +kernel),λ_=>⟨nm,x,rfl,g,λb H' h s=>k _ H' h s⟩,λe=>absurd e (by decide +kernel),λ_ _ _ _ _ e _=>absurd rfl e⟩
 | n+4,k=>show jk z (wd "wrap") [nm] St De Q from ⟨λe=>absurd e (by decide +kernel),λe=>absurd e (by decide +kernel),λe=>absurd e (by decide +kernel),λe=>absurd e (by decide +kernel),(by decide +kernel),λe=>absurd e (by decide +kernel),λe=>absurd e (by decide +kernel),λe=>absurd e (by decide +kernel),λ_ _ _ _ _ _ _ b H' h s=>k _ H' ⟨b,h,rfl⟩ s⟩
noncomputable def gr(w:List Nat):Prop:=(∀c ∈ w,dm c=true/\c ≠ 32)/\w.length<=4410
theorem K1(c B:Nat):∀ws:List (List Nat),(∀w ∈ ws,w.length<=B)->(bT [c] ws).length<=ws.length*(B+1)
 | [],_=>cU _
 | [x],h=>by have:=h x bO;show x.length<=1*(B+1);omega
 | x::y::r,h=>by
   have h1:=h x bO
   have h2:=K1 c B (y::r) λw hw=>h w (df _ hw)
   rw [gk,aq,d8,d8 (a:=x),jS,Nat.one_mul]
   omega
theorem j9{h:List Nat}{r:List (List Nat)}(sz:(tx h,((r.length+1:Nat):Int)) ∈ ij)(n:r.length<=3)(sg:∀w ∈ h::r,gr w):kM h r :=
 ⟨sz,λw hw=>(sg w hw).1,c7 (K1 32 4410 _ λw hw=>(sg w hw).2) (c7 (xy _ (show (h::r).length<=4 by rw [d8];omega)) (by decide))⟩
theorem gO.sgn(h:gO nm):gr nm:=⟨λc hc=>(show ∀c ∈ small,dm c=true/\c ≠ 32 by decide +kernel) c (h.2.2 c hc),by have:=h.2.1;omega⟩
theorem c6.sgn{z:Lr}(F:c6 z){x:List Nat}(h:FT z x):gr x:=⟨λc hc=>⟨F.isg c (h.al c hc),F.nb c (h.al c hc)⟩,by have:=h.n1;omega⟩
theorem FT.suf{z:Lr}{x:List Nat}(h:FT z (l++x)):FT z x:=by
 have e:(l++x).length=l.length+x.length:=aq
 refine⟨λc hc=>h.al c (gs _ hc),by have:=h.n1;omega,c7 (xy _ (by omega)) h.n2⟩
theorem gr.cons{h:List Nat}{r:List (List Nat)}(a:gr h)(b:∀w ∈ r,gr w):∀w ∈ h::r,gr w:=λw hw=>(bE.mp hw).elim (λe=>e ▸ a) (b w)
instance (w:List Nat):Decidable (gr w):=inferInstanceAs (Decidable (_/\_))
theorem kh{x:List Nat}(h:gO nm)(g:gr x):∀j,kM (hdA j) (nm::rH x j)/\hdA j ≠ wd "frame" /\ hdA j ≠ wd "unwrap"
 | 0=>⟨j9 (show (tx (wd "held"),(2:Int)) ∈ ij by decide +kernel) (by show 1<=3;decide) (.cons (by decide +kernel) (.cons h.sgn λw h=>nomatch h)),by decide +kernel,by decide +kernel⟩
 | 1=>⟨j9 (show (tx (wd "weight"),(2:Int)) ∈ ij by decide +kernel) (by show 1<=3;decide) (.cons (by decide +kernel) (.cons h.sgn λw h=>nomatch h)),by decide +kernel,by decide +kernel⟩
 | 2=>⟨j9 (show (tx (wd "tree"),(2:Int)) ∈ ij by decide +kernel) (by show 1<=3;decide) (.cons (by decide +kernel) (.cons h.sgn λw h=>nomatch h)),by decide +kernel,by decide +kernel⟩
 | 3=>⟨j9 (show (tx (wd "press"),(3:Int)) ∈ ij by decide +kernel) (by show 2<=3;decide) (.cons (by decide +kernel) (.cons h.sgn (.cons g λw h=>nomatch h))),by decide +kernel,by decide +kernel⟩
 | n+4=>show kM (wd "wrap") [nm]/\_ from ⟨j9 (show (tx (wd "wrap"),(2:Int)) ∈ ij by decide +kernel) (by show 1<=3;decide) (.cons (by decide +kernel) (.cons h.sgn λw h=>nomatch h)),(by decide +kernel:wd "wrap" ≠ wd "frame"),(by decide +kernel:wd "wrap" ≠ wd "unwrap")⟩
theorem ko{s s':String}(nm:List Nat)(e:wd s'=wd s++[32]):wd s'++nm=bT [32] [wd s,nm]:=by rw [gk,e,gA];rfl
theorem kj{s s':String}(nm x:List Nat)(e:wd s'=wd s++[32]):wd s'++nm++[32]++x=bT [32] [wd s,nm,x]:=by rw [gk,gk,e];simp [bT]
noncomputable def jm(z:Lr)(x:List Nat)(as:List (List Nat)):Prop:=as.length=5/\∀j v,as[j]?=some v->An z x j v
noncomputable def la(nm x:List Nat):List (List Nat):=(List.range 5).map λj=>bT [32] (hdA j::nm::rH x j)
inductive FU(K:Frag)(D C E:Addr)(vs:List V)(H:Hp)(Q:VK)(E0x:XK):Prop where
 | mk (dk dd:Addr) (kvs:List (aU × V)) (nm x:List Nat) (z:Lr) (_:vs=[.ref dk,vt nm,vt x]) (_:cN K D C E dk dd kvs nm z H) (_:FT z (z.l++x)) (_:∀as r H',jm z x as->H r=none->H' r=some (.lst (as.map vt))->bF [] H H'->Q (.ref r) H'):FU K D C E vs H Q E0x
theorem rR(T:Txt K mg t)(Y:KeysLit w.params t.e_ROW_SIZES.toList):ar P w K mg base (ay P w) 16 t.vP t.tO ["desk", "name", "second"] (FU K t.bC t.aS t.cJ):=by
 refine T.qC.F.okm (k:=15) yE λcdv A outer s H vs Q E hr h=>?_
 obtain⟨dk,dd,kvs,nm,x,z,rfl,O,g,k⟩:=h
 have n8:=O.nm.2.1
 have nx:=g.suf.n1
 have wl:∀s ∈ ["held ", "weight ", "tree ", "press ", "wrap "],(wd s).length<=10:=by decide +kernel
 refine⟨_,(ag (aC 3 yE.nd (jC lp)) (ag (cW cR rfl (di (jC (cF.h (aE (ao aM aO (pv 1)) (aE (ao aM aO (pv 1)) (aE (ao aM aO (pv 1)) (aE (ao aM (ao aM (ao aM aO (pv 1)) aO) (pv 2)) (aE (ao aM aO (pv 1)) cT)))))))) (bB 4 yE.nd) (aj (fg (fh nL qg qe mZ (pv 3) (a1 (cO (pv 0) T.eG T.gD (mX T Y) hr (a1 (pv 4)))))))) (aj (az (pv 3))))),?_⟩
 rw [wd_str "held ",wd_str "weight ",wd_str "tree ",wd_str "press ",wd_str "wrap ",uY]
 nofun
 refine⟨by rw [sizeLine_eq];show 0<=_;decide,λF hF=>?_⟩
 refine⟨_,rfl,.inr (.inl (aY (by have:=wl "held " (by simp);rw [sizeLine_eq];omega) ?_))⟩
 refine⟨_,rfl,.inr (.inl (aY (by have:=wl "weight " (by simp);rw [sizeLine_eq];omega) ?_))⟩
 refine⟨_,rfl,.inr (.inl (aY (by have:=wl "tree " (by simp);rw [sizeLine_eq];omega) ?_))⟩
 have wp:=wl "press " (by simp)
 refine⟨_,rfl,.inr (.inl (aY (by rw [sizeLine_eq];omega) (.inr (.inl (aY (by rw [sizeLine_eq,aq];show _+1<=_;omega) ⟨_,rfl,.inr (.inl (aY (by rw [sizeLine_eq,aq,aq];show _+1+_<=_;omega) ?_))⟩)))))⟩
 refine⟨_,rfl,.inr (.inl (aY (by have:=wl "wrap " (by simp);rw [sizeLine_eq];omega) ?_))⟩
 rw [ko (s := "held") nm (by decide +kernel),ko (s := "weight") nm (by decide +kernel),ko (s := "tree") nm (by decide +kernel),kj (s := "press") nm x (by decide +kernel),ko (s := "wrap") nm (by decide +kernel)]
 refine⟨by rw [sizeLine_eq];show 5<=_;decide,λR hR=>.inl ⟨R,_,rfl,aD.of aA,?_⟩⟩
 have hRF:F ≠ R:=λe=>by rw [← e,aA] at hR;cases hR
 rw [au hRF.symm] at hR
 have b1:bF [] H (ai (ai H F (.lst [])) R (.lst ((la nm x).map vt))):=λb o e _ _=>by rw [au (bQ e hR),au (bQ e hF)];exact e
 have f1:ai (ai H F (.lst [])) R (.lst ((la nm x).map vt)) F=some (.lst []):=(au hRF).trans aA
 have r1:ai (ai H F (.lst [])) R (.lst ((la nm x).map vt)) R=some (.lst ((la nm x).map vt)):=aA
 refine fD (iK (xs:=(la nm x).map vt)) (λi σ H'=>∃(r4:Option V) (ys:List (List Nat)),σ=[some (.ref dk),some (vt nm),some (vt x),some (.ref F),r4]/\bF [] H H'/\H' F=some (.lst (ys.map vt))/\H' R=some (.lst ((la nm x).map vt))/\ys.length=i/\∀j v,ys[j]?=some v->An z x j v)
  ⟨_,[],rfl,b1,f1,r1,rfl,λj v h=>nomatch h⟩ (λi σ H' _ ⟨_,_,_,_,_,h,_⟩=>aD.of h) ?_ ?_
 ·rintro i v _ H1 hv ⟨r4,ys,rfl,b1,f1,r1,hl,ha⟩
  rw [bS] at hv
  obtain⟨u,hu,rfl⟩:=xr.mp hv
  unfold la at hu
  rw [bS] at hu
  obtain⟨j,hj,rfl⟩:=xr.mp hu
  obtain⟨hi,rfl⟩:=bh.mp hj
  rw [List.getElem_range] at *
  rw [iF] at hi
  have O1:=O.to b1
  obtain⟨dq,me⟩:=O1.me
  obtain⟨R1,n1,n2⟩:=kh O.nm (O.ft.sgn g.suf) i
  refine⟨_,rfl,kX (.inl (.inl f1)),_,rfl,dk,dq,_,rfl,me,(fE _).1,_,rfl,O1.say R1 n1 n2 (qL g i λa H2 h2 b2=>?_)⟩
  have f2:=b2 _ _ f1 (λh=>nomatch h) (λx z=>nomatch z)
  refine⟨F,_,vt a,rfl,rfl,f2,by rw [aT,sizeLine_eq];omega,?_⟩
  refine⟨_,ys++[a],rfl,λb o e n y=>?_,?_,?_,by rw [aq,hl];rfl,λj v hv=>?_⟩
  ·rw [au (bQ e hF)];exact b2 b o (b1 b o e n y) n y
  ·rw [aA,gv];rfl
  ·rw [au hRF.symm];exact b2 _ _ r1 (λh=>nomatch h) (λx z=>nomatch z)
  ·rcases xC j ys.length with h | h
   ·rw [iH h] at hv;exact ha j v hv
   ·rw [iG h] at hv
    have e:j-ys.length=0:=by have:=(bh.mp hv).1;rw [List.length_singleton] at this;omega
    rw [e] at hv
    cases hv
    rw [show j=i by omega];exact h2
 ·rintro _ H1 ⟨r4,ys,rfl,b1,f1,r1,hl,ha⟩
  exact⟨_,rfl,k ys F H1 ⟨hl,ha⟩ hF f1 b1⟩
theorem nT.one{A:Int × Int}(hA:0<A.2){n m n' m':Int}(h:nT A n m)(h':nT A n' m'):n'=n/\m'=m:=Sx h.2.1 h'.2.1 hA hA h.2.2.2.1 h'.2.2.2.1 h.2.2.1 h'.2.2.1 rfl
theorem c6.wpos{z:Lr}(F:c6 z){x:List Nat}(g:FT z (l++x)):0<eI (z.f::z.L) z.f z.d l x:=(rG (F.sp g) g.al (by have:=(c6.tb g).1;have:=(c6.tb g.pre).1;omega)).w0
theorem c6.w2{z:Lr}(F:c6 z)(g:FT z l):0<(WT (z.f::z.L) z.f z.d l).2:=by have:=((F.sp g).p2 (aI _) g.al).b1;omega
theorem An.one{z:Lr}{x:List Nat}(F:c6 z)(g:FT z (z.l++x)):∀{j:Nat} {v v':List Nat},An z x j v->An z x j v'->v=v'
 | 0,_,_,h,h'=>Eq.trans h (Eq.symm h')
 | 1,_,_,⟨n,m,h,e⟩,⟨n',m',h',e'⟩=>by obtain⟨rfl,rfl⟩:=h.one (F.w2 g.pre) h';rw [e,e']
 | 2,_,_,h,h'=>Eq.trans h (Eq.symm h')
 | 3,_,_,h,h'=>eh.one (F.wpos g) h h'
 | n+4,_,_,⟨c,h,e⟩,⟨c',h',e'⟩=>by
   have:c=c':=eh.one (F.wpos (l:=[]) (x:=z.l) g.pre) h h'
   rw [e,e',this]
theorem jm.one{z:Lr}{x:List Nat}{as bs:List (List Nat)}(F:c6 z)(g:FT z (z.l++x))(h:jm z x as)(h':jm z x bs):as=bs:=by
 refine jt λj=>?_
 rcases xC j 5 with y | y
 ·have e1:=bq (l:=as) (i:=j) (by rw [h.1];exact y)
  have e2:=bq (l:=bs) (i:=j) (by rw [h'.1];exact y)
  rw [e1,e2,(h.2 j _ e1).one F g (h'.2 j _ e2)]
 ·rw [fe (by rw [h.1];exact y),fe (by rw [h'.1];exact y)]
theorem Du{z:Lr}{x:List Nat}{St:Hp->Prop}{De:Lr->Hp->Prop}(g:FT z (z.l++x))(b:z.B+7*x.length<=9000)(k:∀B' H',B'<=z.B+7*x.length->De { z with l:=z.l++x,B:=B' } H'->Q (vt jc) H'):jk z (wd "learn") [nm,x] St De Q :=
 ⟨λ_=>⟨nm,x,rfl,g,b,k⟩,λe=>absurd e (by decide +kernel),λe=>absurd e (by decide +kernel),λe=>absurd e (by decide +kernel),(by decide +kernel),λe=>absurd e (by decide +kernel),λe=>absurd e (by decide +kernel),λe=>absurd e (by decide +kernel),λe=>absurd rfl e⟩
theorem Dv{z:Lr}{x:List Nat}{St:Hp->Prop}{De:Lr->Hp->Prop}(e:z.l=l++x)(k:∀H',De { z with l:=l } H'->Q (vt jc) H'):jk z (wd "back") [nm,dg x.length] St De Q :=
 ⟨λe=>absurd e (by decide +kernel),λ_=>⟨nm,l,x,rfl,e,k⟩,λe=>absurd e (by decide +kernel),λe=>absurd e (by decide +kernel),(by decide +kernel),λe=>absurd e (by decide +kernel),λe=>absurd e (by decide +kernel),λe=>absurd e (by decide +kernel),λ_ e=>absurd rfl e⟩
theorem GA{x:List Nat}(h:gO nm)(g:gr x):kM (wd "learn") [nm,x]:=j9 (show (tx (wd "learn"),(3:Int)) ∈ ij by decide +kernel) (by show 2<=3;decide) (.cons (by decide +kernel) (.cons h.sgn (.cons g λw h=>nomatch h)))
theorem BR(h:n<=100):gr (dg n):=⟨λc hc=>by
 obtain⟨a,b⟩:=uS c hc
 unfold dm
 rw [decide_eq_true (show 32<=c by omega),decide_eq_true (show c<=126 by omega),decide_eq_false (show ¬ c=37 by omega)]
 exact⟨rfl,by omega⟩,by have:=(iU h).1;omega⟩
theorem GB(h:gO nm)(g:n<=100):kM (wd "back") [nm,dg n]:=j9 (show (tx (wd "back"),(3:Int)) ∈ ij by decide +kernel) (by show 2<=3;decide) (.cons (by decide +kernel) (.cons h.sgn (.cons (BR g) λw h=>nomatch h)))
theorem cN.deed{E:Addr}{z:Lr}(h:cN K D C E dk dd kvs nm z H)(d:Dd K D C dk dd H z { z with l:=l,B:=B } H')(g:FT z l)(b:B<=9000):cN K D C E dk dd kvs nm { z with l:=l,B:=B } H' :=
 ⟨let ⟨dq,e⟩:=h.me;⟨dq,d.dk.trans e⟩,d.dd.trans h.td,h.ln,h.vl,d.at_,⟨h.ft.l2,h.ft.l6,h.ft.nd,h.ft.sg,h.ft.nb,h.ft.d6⟩,⟨g.al,g.n1,g.n2⟩,b,h.nm⟩
theorem cw.tup{z:Lr}{S:List Addr}(O:cw K D C z (mS S H))(b:bF z.ads H H')(h:aG K H p xs):aG K H' p xs:=by
 have no:∀o,H p=some o->(∀C d f,o ≠ .ins C d f)->(∀kv,o ≠ .dK kv)->(∀ys,o ≠ .lst ys)->p ∉ z.ads:=λo e h1 h2 h3 hp=>by
  obtain⟨dq,me⟩:=LO.me O
  obtain⟨dx,ob⟩:=(LO.go O).ob
  obtain⟨kvs,e1,_⟩:=(LO.go O).td
  obtain⟨rs,e2,_⟩:=(LO.go O).rl
  simp only [Lr.ads,bE,iZ,or_false] at hp
  rcases hp with rfl | rfl | rfl | rfl
  ·rw [gG _ _ _ _ me] at e;cases e;exact h1 _ _ _ rfl
  ·rw [gG _ _ _ _ ob] at e;cases e;exact h1 _ _ _ rfl
  ·rw [gG _ _ _ _ e1] at e;cases e;exact h2 _ rfl
  ·rw [gG _ _ _ _ e2] at e;cases e;exact h3 _ rfl
 rcases h with(h | ⟨o,h⟩) | h
 ·exact .inl (.inl (b _ _ h (no _ h (λ_ _ _ z=>nomatch z) (λ_ z=>nomatch z) λ_ z=>nomatch z) λx z=>nomatch z))
 ·exact .inl (.inr ⟨o,b _ _ h (no _ h (λ_ _ _ z=>nomatch z) (λ_ z=>nomatch z) λ_ z=>nomatch z) λx z=>nomatch z⟩)
 ·exact .inr h
inductive FR(K:Frag)(D C E:Addr)(vs:List V)(H:Hp)(Q:VK)(E0x:XK):Prop where
 | mk (dk dd:Addr) (kvs:List (aU × V)) (nm:List Nat) (z:Lr) (fr:Addr) (g:Nat) (_:vs=[.ref dk,vt nm,.ref fr,vt z.l,.int (g:Int)]) (_:cN K D C E dk dd kvs nm z H) (_:aG K H fr [vt (z.f::z.L),.int z.d]) (_:g<=z.l.length) (_:z.B+7*g<=9000) (_:∀B' H',B'<=z.B+7*g->cN K D C E dk dd kvs nm { z with B:=B' } H'->bF z.ads H H'->Q (.bl true) H'):FR K D C E vs H Q E0x
theorem bF.trans{X:List Addr}{H1 H2 H3:Hp}(h:bF X H1 H2)(g:bF X H2 H3):bF X H1 H3:=λb o e n k=>g b o (h b o e n k) n k
theorem bF.up{X:List Addr}{H1 H2:Hp}(h:bF [] H1 H2):bF X H1 H2:=λb o e _ k=>h b o e (λh=>nomatch h) k
theorem Qn(T:Txt K mg t)(Y:KeysLit w.params t.e_ROW_SIZES.toList):ar P w K mg base (ay P w) 16 t.x9 t.uK ["desk", "name", "frame", "text", "gone"] (FR K t.bC t.aS t.cJ):=by
 refine T.Lg.F.okm (k:=15) yH λcdv A outer s H vs Q E hr h=>?_
 obtain⟨dk,dd,kvs,nm,z,fr,gn,e0,O,hF,hg,hB,k⟩:=h
 have n8:=O.nm.2.1
 have n1:=O.fl.n1
 have zl:z.l.length<=sizeLine:=by rw [sizeLine_eq];omega
 obtain⟨a,c,el,ec⟩:∃a c:List Nat,z.l=a++c/\gn=c.length:=⟨z.l.take (z.l.length-gn),z.l.drop (z.l.length-gn),(kO _ _).symm,by rw [gR];omega⟩
 subst ec e0
 have ell:z.l.length=a.length+c.length:=by rw [el,aq]
 have esub:((z.l.length:Nat):Int)-((c.length:Nat):Int)=(a.length:Nat):=by omega
 have ga:FT z (a++c):=by rw [← el];exact O.fl
 have wl:∀s ∈ ["held ", "weight ", "back ", "learn "],(wd s).length<=10:=by decide +kernel
 have dl:(dg c.length).length<=3:=(iU (by omega)).1
 refine⟨_,(ag (aC 5 yH.nd (ez ei (pv 3) fO (dv (ao lq (cq T.ck (pv 3)) (pv 4))))) (ag (aC 6 yH.nd (pc (Py T) hr T.Kx (a2 (pv 2) (pv 5)))) (ag (aW (PW.pt (fA (bo (fP (hr.units0)) (cO (pv 0) T.eG T.gD (mX T Y) hr (a1 (ao aM (ao aM (ao aM aO (pv 1)) aO) (jB T.g9 (pv 4))))) aO) (fM (bo (fP (hr.units0)) (cO (pv 0) T.eG T.gD (mX T Y) hr (a1 (ao aM aO (pv 1)))) (pv 5))))) (aj (az eA)) aX) (ag (aW (bo (fP (hr.units0)) (cO (pv 0) T.eG T.gD (mX T Y) hr (a1 (ao aM aO (pv 1)))) (ao aM (ao aM (jB T.g9 (aK 6)) aO) (jB T.g9 (aK 6)))) (aj (az eA)) aX) (aj (az (lN (dR (hr.units0)) (cO (pv 0) T.eG T.gD (mX T Y) hr (a1 (ao aM (ao aM (ao aM aO (pv 1)) aO) (ez ei (pv 3) (dv (ao lq (cq T.ck (pv 3)) (pv 4))) fO)))) aO))))))),?_⟩
 rw [wd_str "held ",wd_str "weight ",wd_str "learn ",wd_str "back ",uY,G9,oW]
 nofun
 refine⟨_,rfl,_,rfl,_,_,rfl,dD zl,_,rfl,_,_,rfl,rfl,_,rfl,.inr (eF zl ?_)⟩
 rw [esub,BW z.l (Int.natCast_nonneg _),eK,show z.l.take a.length=a by rw [el,List.take_left]]
 refine⟨_,rfl,_,rfl,fr,z.f,z.L,a,z.d,rfl,hF,O.ft.l6,O.ft.d6,by omega,ga.pre.al,O.ft.sm ga.pre,λH1 v s1 hv=>?_⟩
 obtain⟨vp,n,m,rfl,h1,n0,m0,c1,g1,n1',m1'⟩:=hv
 have pt:=(O.ft.sp ga.pre).p3 (aI _) ga.pre.al
 have bt:∀{i:Int},i<=(WT (z.f::z.L) z.f z.d a).2->i<2^1900:=λh=>dC (aP h pt.bb) (by have:=(c6.tb ga.pre).1;omega)
 have n2':=bt (aP n1' pt.ab)
 have m2':=bt m1'
 clear bt pt
 obtain⟨n,rfl⟩:=iJ (cx n0)
 obtain⟨m,rfl⟩:=iJ (cx m0)
 obtain⟨a1,a2⟩:=nE (n:=n) (by exact_mod_cast n2')
 obtain⟨b1,b2⟩:=nE (n:=m) (by exact_mod_cast m2')
 have O1:=O.to (bF.of s1)
 obtain⟨dq,me⟩:=O1.me
 have wb:=wl "back " (by simp)
 refine⟨_,rfl,dk,dq,_,rfl,me,(fE _).1,_,rfl,.inr (.inl (aY (by rw [sizeLine_eq];omega) (.inr (.inl (aY (by rw [sizeLine_eq,aq];show _+1<=_;omega) ⟨_,rfl,_,rfl,lD (n:=c.length) (by omega),?_⟩)))))⟩
 rw [j6]
 refine .inr (.inl (aY (by rw [sizeLine_eq,aq,aq];show _+1+_<=_;omega) ?_))
 rw [kj (s := "back") nm (dg c.length) (by decide +kernel)]
 refine O1.say (GB O.nm (by omega)) (by decide +kernel) (by decide +kernel) (Dv el λH2 d2=>?_)
 refine .inl ⟨rfl,_,rfl,eE rfl ?_⟩
 have O2:cN K t.bC t.aS t.cJ dk dd kvs nm { z with l:=a } H2:=O1.deed d2 ga.pre O.bd
 have h2:=O1.at_.tup d2.bas h1
 have g2:FT { z with l:=a } (a++c):=⟨ga.al,ga.n1,ga.n2⟩
 obtain⟨dq2,me2⟩:=O2.me
 have sc:=O.ft.sgn ga.suf
 refine⟨_,rfl,dk,dq2,_,rfl,me2,(fE _).1,_,rfl,.inr (.inl (aY (by have:=wl "held " (by simp);rw [sizeLine_eq];omega) ?_))⟩
 rw [ko (s := "held") nm (by decide +kernel)]
 refine O2.say (kh O.nm sc 0).1 (kh O.nm sc 0).2.1 (kh O.nm sc 0).2.2 (qL g2 0 λv H3 hv b3=>?_)
 refine⟨_,rfl,.inl ⟨rfl,_,rfl,eE (congrArg vt hv) ?_⟩⟩
 have O3:=O2.to b3
 have h3:=O2.at_.tup b3.up h2
 obtain⟨dq3,me3⟩:=O3.me
 refine⟨_,rfl,dk,dq3,_,rfl,me3,(fE _).1,_,rfl,.inr (.inl (aY (by have:=wl "weight " (by simp);rw [sizeLine_eq];omega) ?_))⟩
 rw [ko (s := "weight") nm (by decide +kernel)]
 refine O3.say (kh O.nm sc 1).1 (kh O.nm sc 1).2.1 (kh O.nm sc 1).2.2 (qL g2 1 λv H4 hv b4=>?_)
 obtain⟨n',m',hlo,rfl⟩:=hv
 obtain⟨rfl,rfl⟩:=nT.one (O.ft.w2 ga.pre) (n:=n) (m:=m) ⟨n0,m0,c1,g1,n1',m1'⟩ hlo
 have h4:=O3.at_.tup b4.up h3
 refine⟨_,rfl,aV h4 rfl ⟨_,rfl,a2,?_⟩⟩
 rw [j6]
 refine .inr (.inl (aY (by rw [sizeLine_eq];show _+1<=_;omega) ?_))
 refine⟨_,rfl,aV h4 rfl ⟨_,rfl,b2,?_⟩⟩
 rw [j6]
 refine .inr (.inl (aY (by rw [sizeLine_eq,aq];show _+1+_<=_;omega) ?_))
 have e4:gf n m=dg n++[47]++dg m:=by rw [gA];rfl
 refine .inl ⟨rfl,_,rfl,eE (congrArg vt e4) ?_⟩
 have O4:=O3.to b4
 obtain⟨dq4,me4⟩:=O4.me
 have wr:=wl "learn " (by simp)
 refine⟨_,rfl,dk,dq4,_,rfl,me4,(fE _).1,_,rfl,.inr (.inl (aY (by rw [sizeLine_eq];omega) (.inr (.inl (aY (by rw [sizeLine_eq,aq];show _+1<=_;omega) ⟨_,rfl,_,rfl,_,_,rfl,dD zl,_,rfl,_,_,rfl,rfl,_,rfl,.inr (eF zl ?_)⟩)))))⟩
 rw [esub,uU z.l (Int.natCast_nonneg _),eK,show z.l.drop a.length=c by rw [el,List.drop_left]]
 refine .inr (.inl (aY (by rw [sizeLine_eq,aq,aq];show _+1+_<=_;omega) ?_))
 rw [kj (s := "learn") nm c (by decide +kernel)]
 refine O4.say (GA O.nm sc) (by decide +kernel) (by decide +kernel) (Du g2 hB λB' H5 hB' d5=>?_)
 have O5:cN K t.bC t.aS t.cJ dk dd kvs nm { z with l:=a++c,B:=B' } H5:=O4.deed d5 g2 (c7 hB' hB)
 rw [← el] at O5
 refine .inl ⟨rfl,?_⟩
 have:=k B' H5 hB' O5 ((bF.of s1).trans (d2.bas.trans (b3.up.trans (b4.up.trans d5.bas))))
 exact this
theorem oP(A' H:Hp):put A' H H=A':=by
 funext b
 unfold put
 cases h:A' b with
 | some o=>rfl
 | none=>cases e:H b with
   | some o=>rfl
   | none=>rfl
theorem oQ(H:Hp):jR H H:=⟨ak.refl _,λ_ _ e=>e,λ_ _ _ _ e _=>e,λ_ _ _ _ e n _=>by rw [e] at n;cases n⟩
section
variable {D C E dk dd:Addr} {kvs:List (aU × V)} {nm x:List Nat} {z:Lr} {H:Hp} {Q:VK} {X:XK}
theorem cN.ask(h:cN K D C E dk dd kvs nm z H)(g:FT z (z.l++x))(j:Nat)(k:∀v H',An z x j v->bF [] H H'->Q (vt v) H'):frmP (l5 K D C E) [.ref dk,vt (bT [32] (hdA j::nm::rH x j))] H Q X:=by
 obtain⟨R,n1,n2⟩:=kh h.nm (h.ft.sgn g.suf) j
 exact⟨H,oQ H,h.say R n1 n2 (qL g j λv H' hv b _=>by rw [oP];exact k v H' hv b)⟩
theorem U9{wi:Int}{b:List Nat}(h:eh lo wi W b):gr b:=⟨λc hc=>by
 have:=eV.mp h.all c hc
 have:c=48\/c=49:=by unfold eP at this;simpa using this
 rcases this with rfl | rfl<;>decide,by have:=h.len;omega⟩
theorem cN.askR{b:List Nat}(h:cN K D C E dk dd kvs nm z H)(g:FT z (z.l++x))(hb:jy z z.l x b)(k:∀H',bF [] H H'->Q (vt x) H'):frmP (l5 K D C E) [.ref dk,vt (bT [32] [wd "read",nm,dg x.length,b])] H Q X :=
 ⟨H,oQ H,h.say (j9 (show (tx (wd "read"),(4:Int)) ∈ ij by decide +kernel) (by show 3<=3;decide) (.cons (by decide +kernel) (.cons h.nm.sgn (.cons (BR (by have:=g.suf.n1;omega)) (.cons (U9 hb) λw h=>nomatch h))))) (by decide +kernel) (by decide +kernel)
  ⟨λe=>absurd e (by decide +kernel),λe=>absurd e (by decide +kernel),λe=>absurd e (by decide +kernel),λe=>absurd e (by decide +kernel),(by decide +kernel),λe=>absurd e (by decide +kernel),λe=>absurd e (by decide +kernel),λ_=>⟨nm,x,b,rfl,g,hb,λH' s _=>by rw [oP];exact k H' s⟩,λ_ _ _ _ _ _ e=>absurd rfl e⟩⟩
theorem cN.learn(h:cN K D C E dk dd kvs nm z H)(g:FT z (z.l++x))(b:z.B+7*x.length<=9000)(k:∀B' H',B'<=z.B+7*x.length->cN K D C E dk dd kvs nm { z with l:=z.l++x,B:=B' } H'->bF z.ads H H'->Q (vt jc) H'):l5 K D C E [.ref dk,vt (bT [32] [wd "learn",nm,x])] H Q X :=
 h.say (GA h.nm (h.ft.sgn g.suf)) (by decide +kernel) (by decide +kernel) (Du g b λB' H' hB d=>k B' H' hB (h.deed d g (c7 hB b)) d.bas)
theorem cN.back(h:cN K D C E dk dd kvs nm z H)(e:z.l=l++x)(k:∀H',cN K D C E dk dd kvs nm { z with l:=l } H'->bF z.ads H H'->Q (vt jc) H'):l5 K D C E [.ref dk,vt (bT [32] [wd "back",nm,dg x.length])] H Q X:=by
 have g:FT z (l++x):=by rw [← e];exact h.fl
 exact h.say (GB h.nm (by have:=g.suf.n1;omega)) (by decide +kernel) (by decide +kernel) (Dv e λH' d=>k H' (h.deed d g.pre h.bd) d.bas)
end
structure gL(K:Frag)(D C E dk dd:Addr)(kvs:List (aU × V))(n1:List Nat)(x:Lr)(n2:List Nat)(y:Lr)(H:Hp):Prop where
 d1:cN K D C E dk dd kvs n1 x H
 d2:cN K D C E dk dd kvs n2 y H
 a1:cw K D C x (mS (dd::y.ads) H)
 a2:cw K D C y (mS (dd::x.ads) H)
theorem gL.swap{E:Addr}{n1 n2:List Nat}{x y:Lr}(h:gL K D C E dk dd kvs n1 x n2 y H):gL K D C E dk dd kvs n2 y n1 x H:=⟨h.d2,h.d1,h.a2,h.a1⟩
theorem gL.ask{E:Addr}{n1 n2:List Nat}{x y:Lr}(h:gL K D C E dk dd kvs n1 x n2 y H)(b:bF [] H H'):gL K D C E dk dd kvs n1 x n2 y H' :=
 ⟨h.d1.to b,h.d2.to b,h.a1.to λ_ _ e n y=>cm (b _ _ e (λh=>nomatch h) y) n y,h.a2.to λ_ _ e n y=>cm (b _ _ e (λh=>nomatch h) y) n y⟩
theorem cw.out{x:Lr}{S:List Addr}(O:cw K D C x (mS S H))(h:a ∈ x.ads):a ∉ S:=λz=>by
 obtain⟨o,e,_⟩:=O.kinds (ak.refl _) a h
 rw [iA z] at e;cases e
theorem cN.nks{E:Addr}{y:Lr}(h:cN K D C E dk dd kvs nm y H):dk ∉ y.ads/\dd ∉ y.ads/\Lv y.ads H:=by
 refine⟨λz=>?_,λz=>h.at_.out z bO,λa ha=>h.at_.kinds (gG _ _) a ha⟩
 obtain⟨dq,e⟩:=h.me
 have n:=Jp e h.at_
 simp only [Lr.ads,bE,iZ,or_false] at z
 rcases z with z | z | z | z
 ·obtain⟨dq',me⟩:=LO.me h.at_
  rw [z,gG _ _ _ _ me] at e
  have:=congrArg List.length (HO.ins.inj (dS e)).2.2
  cases this
 ·exact n.1 z
 ·exact n.2.1 z
 ·exact n.2.2 z
theorem gL.part{E:Addr}{n1 n2:List Nat}{x y:Lr}(h:gL K D C E dk dd kvs n1 x n2 y H):Lv y.ads H/\cN K D C E dk dd kvs n1 x (mS y.ads H):=by
 obtain⟨nk,nd,lv⟩:=h.d2.nks
 obtain⟨dq,e⟩:=h.d1.me
 exact⟨lv,⟨dq,cm e nk λx z=>nomatch z⟩,cm h.d1.td nd (λx z=>nomatch z),h.d1.ln,h.d1.vl,h.a1.to λb o e n y=>cm (cm e (λz=>n (df _ z)) y) (λz=>n (by rw [bx.mp z];exact bO)) y,h.d1.ft,h.d1.fl,h.d1.bd,h.d1.nm⟩
theorem gL.deed{E:Addr}{n1 n2:List Nat}{x y:Lr}{A':Hp}(h:gL K D C E dk dd kvs n1 x n2 y H)(d:cN K D C E dk dd kvs n1 { x with l:=l,B:=B } A')(b:bF x.ads (mS y.ads H) A')(aft:j5 (mS y.ads H) A' H):
 gL K D C E dk dd kvs n1 { x with l:=l,B:=B } n2 y (put A' H (mS y.ads H))/\bF x.ads H (put A' H (mS y.ads H)):=by
 have lv:=h.part.1
 obtain⟨u1,u2⟩:=pz lv aft
 have bk:=Bx lv aft
 have bs:bF x.ads H (put A' H (mS y.ads H)):=λc o e n y'=>by
  by_cases hc:c ∈ y.ads
  ·rw [u1 c hc];exact e
  ·exact fN (b c o (cm e hc y') n y')
 have d1:=d.to (bF.of u2)
 refine⟨⟨d1,?_,d.at_.to λc o e n y'=>cm (u2 _ _ e) (λz=>?_) y',h.a2.to λc o e n y'=>cm (bs c o e (λz=>n (df _ z)) y') n y'⟩,bs⟩
 ·exact⟨d1.me,d1.td,d1.ln,h.d2.vl,h.a2.to λc o e n y'=>cm (bs c o e (λz=>n (df _ z)) y') (λz=>n (by rw [bx.mp z];exact bO)) y',h.d2.ft,h.d2.fl,h.d2.bd,h.d2.nm⟩
 ·rcases bE.mp z with z | z
  ·exact n (by rw [z];exact bO)
  ·have:=bk c o (jI e y')
   rw [iA z] at this;cases this
theorem Uo(L:List Nat)(f d:Nat):WT L f d []=(1,1):=k8 rfl
theorem rg(h1:38<=c)(h2:c<=126):dm c=true/\c ≠ 32:=by
 unfold dm
 rw [decide_eq_true (show 32<=c by omega),decide_eq_true h2,decide_eq_false (show ¬ c=37 by omega)]
 exact⟨rfl,by omega⟩
theorem Og{z:Lr}(F:c6 z)(g:FT z z.l){b:List Nat}(hb:b.length<=4402):gr (lh (z.f::z.L) z.d z.l.length b):=by
 have n1:=g.n1
 have l6:=F.l6
 have d6:=F.d6
 have gN:bz b<=1000:=by unfold bz;omega
 have el:(de (z.f::z.L) z.d z.l.length b).length=(z.f::z.L).length+5+bz b:=by unfold de;rw [aq,pE (by omega),nB]
 refine⟨λc hc=>?_,by unfold lh;rw [aq,el];show _+2<=_;omega⟩
 rcases cD.mp hc with hc | hc
 ·rcases cD.mp hc with hc | hc
  ·rcases cD.mp hc with hc | hc
   ·rcases cD.mp hc with hc | hc
    ·rcases cD.mp hc with hc | hc
     ·have:=bx.mp hc;exact rg (by omega) (by omega)
     ·have:=bx.mp hc;exact rg (by omega) (by omega)
    ·exact⟨F.isg c hc,F.nb c hc⟩
   ·have:=yc (show z.l.length<=100 by omega) c hc;exact rg (by omega) (by omega)
  ·exact(show ∀c ∈ cY,dm c=true/\c ≠ 32 by decide +kernel) c (sD _ _ c hc)
 ·have h:=JA (de (z.f::z.L) z.d z.l.length b)
  simp only [jj,bE,iZ,or_false] at hc
  exact rg (by omega) (by omega)
theorem RC{a b:List Nat}(h:a ≠ b):key a ≠ key b:=λe=>h (su e)
theorem gL.made{E:Addr}{n1 n2:List Nat}{x y:Lr}{A':Hp}(h:cN K D C E dk dd kvs n1 x H)(hn:n1 ≠ n2)(m2:gO n2)(lv:Lv x.ads H)(ln:(cE kvs (key n2) (.ref y.q)).length<=100)(aft:j5 (mS x.ads H) A' H)
 (fr:∀a ∈ y.ads,mS x.ads H a=none) (O:cw K D C y (mS [dd] A')) (td:A' dd=some (.dK (cE kvs (key n2) (.ref y.q)))) (bs:bF [dd] (mS x.ads H) A') (F:c6 y) (G:FT y y.l) (hB:y.B<=9000) (me:∃dq,A' dk=some (.ins E dq (iC dd))):
 gL K D C E dk dd (cE kvs (key n2) (.ref y.q)) n1 x n2 y (put A' H (mS x.ads H))/\bF [dd] H (put A' H (mS x.ads H))/\∀a ∈ y.ads,a ∉ x.ads:=by
 obtain⟨u1,u2⟩:=pz lv aft
 have dj:∀a ∈ y.ads,a ∉ x.ads:=λa ha hx=>by
  obtain⟨o,e,_⟩:=O.kinds (gG _ _) a ha
  obtain⟨o',e',_⟩:=lv a hx
  rw [aft.free a o' e' (iA hx)] at e;cases e
 have b2:bF [dd] H (put A' H (mS x.ads H)):=λc o e n y'=>by
  by_cases hc:c ∈ x.ads
  ·rw [u1 c hc];exact e
  ·exact fN (bs c o (cm e hc y') n y')
 have ny:∀c o,H c=some o->(∀x,o ≠ .own x)->c ∉ y.ads:=λc o e y' hc=>by
  have:=fr c hc
  rw [cm e (dj c hc) y'] at this;cases this
 have O2:cw K D C y (mS (dd::x.ads) (put A' H (mS x.ads H))):=O.to λc o e n y'=>cm (u2 _ _ e) (λz=>by
  rcases bE.mp z with z | z
  ·exact n (by rw [z];exact bO)
  ·obtain⟨o',e',_⟩:=lv c z
   rw [aft.free c o' e' (iA z)] at e;cases e) y'
 have O1:cw K D C x (mS (dd::y.ads) (put A' H (mS x.ads H))):=h.at_.to λc o e n y'=>cm (b2 c o e n y') (λz=>by
  rcases bE.mp z with z | z
  ·exact n (by rw [z];exact bO)
  ·exact ny c o e y' z) y'
 have one:∀{S:List Addr} {z:Lr},cw K D C z (mS (dd::S) (put A' H (mS x.ads H)))->cw K D C z (mS [dd] (put A' H (mS x.ads H))):=λO=>O.to λc o e n y'=>cm e (λz=>n (by rw [bx.mp z];exact bO)) y'
 obtain⟨dq,me⟩:=me
 refine⟨⟨⟨⟨dq,u2 _ _ me⟩,u2 _ _ td,ln,?_,one O1,h.ft,h.fl,h.bd,h.nm⟩,⟨⟨dq,u2 _ _ me⟩,u2 _ _ td,ln,?_,one O2,F,G,hB,m2⟩,O1,O2⟩,b2,dj⟩
 ·rw [k9,if_neg (RC hn)];exact h.vl
 ·rw [k9,if_pos rfl]
noncomputable def caps:List Int:=[30,30,24,16,12,8,8]
theorem Tv(d:Nat)(h:d<=6):∃m:Nat,dz (caps.map V.int) (d:Int)=some (.int (m:Int))/\2*m<=60/\2*m*(d+1)<=144:=by
 have go:∀d ∈ List.range 7,∃m ∈ [30,24,16,12,8],caps[d]?=some ((m:Nat):Int)/\2*m<=60/\2*m*(d+1)<=144:=by decide +kernel
 obtain⟨m,_,e,h2⟩:=go d (jV.mpr (by omega))
 exact⟨m,fR (by rw [bS,e];rfl),h2⟩
theorem GC{s s':String}(nm x y:List Nat)(e:wd s'=wd s++[32]):wd s'++nm++[32]++x++[32]++y=bT [32] [wd s,nm,x,y]:=by rw [gk,gk,gk,e];simp [bT]
theorem Pg:V.str (Str.ofString "1/1")=vt (gf 1 1):=congrArg V.str (by decide +kernel)
theorem SD{as:List (List Nat)}(h:as.length=5):∃a0 a1 a2 a3 a4,as=[a0,a1,a2,a3,a4]:=by
 match as,h with
 | [a0,a1,a2,a3,a4],_=>exact⟨a0,a1,a2,a3,a4,rfl⟩
structure Is(x:Lr)(f:Nat)(L:List Nat)(d:Nat)(l:List Nat):Prop where
 f:x.f=f
 L:x.L=L
 d:x.d=d
 l:x.l=l
theorem Is.fit{x y:Lr}{l':List Nat}(h:Is x f L d l)(h':Is y f L d l')(F:c6 x):c6 y:=by
 obtain⟨rfl,rfl,rfl,_⟩:=h
 obtain⟨e1,e2,e3,_⟩:=h'
 exact⟨by rw [e1,e2];exact F.l2,by rw [e1,e2];exact F.l6,by rw [e1,e2];exact F.nd,by rw [e1,e2];exact F.sg,by rw [e1,e2];exact F.nb,by rw [e3];exact F.d6⟩
theorem jm.is{x y:Lr}{se:List Nat}{as:List (List Nat)}(h:Is x f L d l)(h':Is y f L d l)(t:jm x se as):jm y se as:=by
 obtain⟨q,p,u,r,a,f1,L1,d1,l1,B⟩:=x
 obtain⟨q',p',u',r',a',f2,L2,d2,l2,B'⟩:=y
 obtain⟨e1,e2,e3,e4⟩:=h
 obtain⟨e5,e6,e7,e8⟩:=h'
 dsimp only at e1 e2 e3 e4 e5 e6 e7 e8
 subst e1 e2 e3 e4 e5 e6 e7 e8
 exact t
theorem bF.past{X:List Addr}{G G':Hp}(f:∀c ∈ X,∀o,H c=some o->(∀x,o ≠ .own x)->False)(h:bF [] H G)(b:bF X G G'):bF [] H G':=λc o e n y=>b c o (h c o e n y) (λz=>f c z o e y) y
theorem NY(kvs:List (aU × V))(k:aU)(v:V):(cE kvs k v).length<=kvs.length+1:=by
 unfold cE
 split
 ·rw [aT];omega
 ·rw [aq];exact aI _
theorem C9{as:List (List Nat)}:∀(i:Nat) u v,(as.map vt)[i]?=some u->(as.map vt)[i]?=some v->mB K H 3 u v:=λi u v h h'=>by
 rw [h] at h'
 cases h'
 rw [bS] at h
 obtain⟨a,_,rfl⟩:=xr.mp h
 exact .inl (.inl (.inl ⟨rfl,.inl rfl⟩))
theorem aD.ka(h:aD K H a xs)(b:bF [] H H'):aD K H' a xs:=by
 rcases h with(h | ⟨o,h⟩) | h
 ·exact .inl (.inl (b _ _ h (λh=>nomatch h) λx z=>nomatch z))
 ·exact .inl (.inr ⟨o,b _ _ h (λh=>nomatch h) λx z=>nomatch z⟩)
 ·exact .inr h
inductive oG(K:Frag)(vs:List V)(H:Hp)(Q:VK)(E0x:XK):Prop where
 | mk (a:Addr) (ns:List Int) (_:vs=[.ref a]) (_:aD K H a (ns.map V.int)) (_:ns.length<=63) (_:(∀n ∈ ns,jn n)) (_:∀H',Q (.bl true) H'):oG K vs H Q E0x
theorem Pp(T:Txt K mg t)(Y:KeysLit w.params t.e_ROW_SIZES.toList):ar P w K mg base (ay P w) 17 t.ve t.pJ ["script"] (oG K):=by
 refine T.Kt.F.okm (k:=16) g6 λcdv A outer s H vs Q E hr h=>?_
 obtain⟨a,ns,rfl,ha,hl,_,q⟩:=h
 have G_L_back_and_forth:=ar.frmP (Qn (P:=P) (w:=w) (base:=base) T Y)
 have G_Desk_say:=(ar.frmP (mX (P:=P) (w:=w) (base:=base) T Y)).mono (show 15<=16 by decide)
 refine⟨_,(ag (aC 1 g6.nd (pc (oY T) hr T.o9 (a2 (pv 0) aw))) (ag (aC 2 g6.nd (pc (Qa T) hr T.L3 (a1 (pc (oY T) hr T.o9 (a2 (pv 0) aw))))) (ag (aC 3 g6.nd (ao dP (pv 1) aw)) (ag (aW (bo (I0 (gI hr)) (ao dP (pc (iq T) hr T.ic (a2 (pv 1) aw)) aw) aw) (aj (aC 3 g6.nd (ao dP (pv 1) aw))) aX) (ag (Oa (pc (Q0 T) hr T.KR (a1 (pc (oY T) hr T.o9 (a2 (pv 0) aw)))) (mU rfl (ip (bB 4 g6.nd) (ip (bB 5 g6.nd) mT)))) (ag (aC 6 g6.nd (pc (PR T) hr T.KJ (cF.h (aE (pv 0) (aE (pv 2) (aE (ao dP (pc (iq T) hr T.ic (a2 (pv 1) aw)) aw) (aE (cA (jC (cF.h (aE aw (aE aw (aE aw (aE aw (aE aw (aE aw (aE aw cT))))))))) (pv 3)) cT))))))) (ag (aC 7 g6.nd (ao dP (pc (oY T) hr T.o9 (a2 (pv 0) aw)) (ao aM (cq T.ck (pv 6)) aw))) (ag (O0 (i:=8) (j:=9) rfl g6.nd rfl rfl (by decide) rfl rfl (a2 (ez ei (pv 6) fO (dv (pv 7))) (ez ei (pv 6) (dv (pv 7)) fO)) (by rfl)) (ag (aC 10 g6.nd (OA T.CO.mi ((PQ T).mono (by decide)) hr rfl T.Rn T.CO.b .nil g8)) (ag (aW (bo (ir (gI hr)) (cO (pv 10) T.eG T.gD G_Desk_say hr (a1 (ao aM (ao aM (ao aM (ao aM (ao aM aO (pv 4)) aO) (jB T.g9 (pv 3))) aO) (pv 2)))) aO) (aj (az eA)) aX) (ag (aW (PW.pt (fA (bo (ir (gI hr)) (cO (pv 10) T.eG T.gD G_Desk_say hr (a1 (ao aM aO (pv 4)))) aO) (fM (bo (ir (gI hr)) (cO (pv 10) T.eG T.gD G_Desk_say hr (a1 (ao aM (ao aM (ao aM aO (pv 4)) aO) (pv 8)))) aO)))) (aj (az eA)) aX) (ag (aC 11 g6.nd (pc (rR T Y) hr T.qC (cF.h (aE (pv 10) (aE (pv 4) (aE (pv 9) cT)))))) (ag (aW (PW.pt (fA (bo (ir (gI hr)) (aK 11) (pv 8)) (fM (dh (du (pc (Q9 T) hr T.L0 (a1 (aK 11)))))))) (aj (az eA)) aX) (ag (aC 12 g6.nd (aK 11)) (ag (aW (PW.pt (fA (dh (du (dB jL rfl T.jJ jP (a2 (pv 12) (jE (v:=.ty "str") rfl T.g9 nH rfl))))) (fM (bo (ir (gI hr)) (cO (pv 10) T.eG T.gD G_Desk_say hr (a1 (ao aM (ao aM (ao aM (ao aM (ao aM aO (pv 4)) aO) (jB T.g9 (cq T.ck (pv 9)))) aO) (pv 12)))) (pv 9))))) (aj (az eA)) aX) (ag (aW (PW.pt (fA (dh (du (dB jL rfl T.jJ jP (a2 (aK 11) (jE (v:=.ty "str") rfl T.g9 nH rfl))))) (fM (bo (ir (gI hr)) (cO (pv 10) T.eG T.gD G_Desk_say hr (a1 (ao aM (ao aM (ao aM aO (pv 5)) aO) (aK 11)))) aO)))) (aj (az eA)) aX) (ag (aW (bo (ir (gI hr)) (pc (rR T Y) hr T.qC (cF.h (aE (pv 10) (aE (pv 5) (aE (pv 9) cT))))) (pv 11)) (aj (az eA)) aX) (ag (aW (PW.pt (fA (bo (ir (gI hr)) (cO (pv 10) T.eG T.gD G_Desk_say hr (a1 (ao aM (ao aM (ao aM aO (pv 4)) aO) (pv 9)))) aO) (fM (bo (ir (gI hr)) (cO (pv 10) T.eG T.gD G_Desk_say hr (a1 (ao aM aO (pv 4)))) (pv 6))))) (aj (az eA)) aX) (ag (aC 13 g6.nd (pc (Bd T) hr T.xZ (a2 (pv 2) (pv 3)))) (ag (aW (bo (ir (gI hr)) (cO (pv 10) T.eG T.gD G_Desk_say hr (a1 (ao aM (ao aM (ao aM aO (pv 4)) aO) (pv 9)))) (jD ((rQ T).mono (by decide)) hr rfl T.rZ T.F_Qwa.kp T.b_press .nil g8 (cF.h (aE (pv 13) (aE (pv 9) (aE (pv 6) cT)))))) (aj (az eA)) aX) (ag (aC 14 g6.nd (ao dP (pc (iq T) hr T.ic (a2 (pc (oY T) hr T.o9 (a2 (pv 0) aw)) aw)) (ao aM (cq T.ck (pv 8)) aw))) (ag (aW (PW.pt (fA (dh (du (pc G_L_back_and_forth hr T.Lg (cF.h (aE (pv 10) (aE (pv 5) (aE (pv 13) (aE (pv 8) (aE (pv 14) cT))))))))) (fM (bo (ir (gI hr)) (pc (rR T Y) hr T.qC (cF.h (aE (pv 10) (aE (pv 5) (aE (pv 9) cT))))) (pv 11))))) (aj (az eA)) aX) (ag (aW (bo (ir (gI hr)) (cO (pv 10) T.eG T.gD G_Desk_say hr (a1 (ao aM (ao aM (ao aM aO (pv 4)) aO) (jB T.g9 (cq T.ck (pv 9)))))) aO) (aj (az eA)) aX) (aj (az (lN (I0 (gI hr)) (pc (rR T Y) hr T.qC (cF.h (aE (pv 10) (aE (pv 4) (aE (pv 9) cT))))) (pv 11))))))))))))))))))))))))))),?_⟩
 rw [wd_str "frame ",wd_str "weight ",wd_str "learn ",wd_str "read ",wd_str "unwrap ",wd_str "held ",wd_str "press ",wd_str "back ",uY,oW,Pg]
 symm
 show let R:=_;sq [_,_,_,_,_,_,_,_,_,_,_,_,_,_,_,_,_,_,_,_,_,_,_] R _ _ _
 intro R23
 show let R:=_;sq [_,_,_,_,_,_,_,_,_,_,_,_,_,_,_,_,_,_,_,_,_,_] R _ _ _
 intro R22
 show let R:=_;sq [_,_,_,_,_,_,_,_,_,_,_,_,_,_,_,_,_,_,_,_,_] R _ _ _
 intro R21
 show let R:=_;sq [_,_,_,_,_,_,_,_,_,_,_,_,_,_,_,_,_,_,_,_] R _ _ _
 intro R20
 show let R:=_;sq [_,_,_,_,_,_,_,_,_,_,_,_,_,_,_,_,_,_,_] R _ _ _
 intro R19
 show let R:=_;sq [_,_,_,_,_,_,_,_,_,_,_,_,_,_,_,_,_,_] R _ _ _
 intro R18
 show let R:=_;sq [_,_,_,_,_,_,_,_,_,_,_,_,_,_,_,_,_] R _ _ _
 intro R17
 show let R:=_;sq [_,_,_,_,_,_,_,_,_,_,_,_,_,_,_,_] R _ _ _
 intro R16
 show let R:=_;sq [_,_,_,_,_,_,_,_,_,_,_,_,_,_,_] R _ _ _
 intro R15
 show let R:=_;sq [_,_,_,_,_,_,_,_,_,_,_,_,_,_] R _ _ _
 intro R14
 show let R:=_;sq [_,_,_,_,_,_,_,_,_,_,_,_,_] R _ _ _
 intro R13
 show let R:=_;sq [_,_,_,_,_,_,_,_,_,_,_,_] R _ _ _
 intro R12
 show let R:=_;sq [_,_,_,_,_,_,_,_,_,_,_] R _ _ _
 intro R11
 show let R:=_;sq [_,_,_,_,_,_,_,_,_,_] R _ _ _
 intro R10
 nofun
 refine⟨_,rfl,a,ns,0,rfl,ha,by decide,?_⟩
 show f9 1 (V.int (kL ns 0)) _ _ _
 generalize kL ns 0=hd0
 refine⟨_,rfl,a,ns,1,rfl,ha,by decide,_,rfl,λLL hL2 hL6 hnd hsg=>?_⟩
 obtain⟨f,L,rfl⟩:=List.exists_cons_of_length_pos (show 0<LL.length by omega)
 obtain⟨a0,a1⟩:=kC hd0 (show (0:Int)<4 by decide)
 obtain⟨b0,b1⟩:=kC hd0 (show (0:Int)<7 by decide)
 refine⟨_,rfl,_,_,rfl,rfl,(by show (0:Int)<4;decide),?_⟩
 dsimp (config:={ eta:=false,zeta:=false,iota:=false }) only [f9]
 show kZ (qY _ _ _) _ _ (some (.ref a)::some (.int hd0)::some (vt (f::L))::some (.int (hd0 % 4))::List.replicate 11 none) H
 refine Br (λσ H'=>∃d:Nat,d<=6/\σ=some (.ref a)::some (.int hd0)::some (vt (f::L))::some (.int (d:Int))::List.replicate 11 none/\H'=H) (λN hN=>?_) ?_
 ·refine⟨_,rfl,hd0,2,rfl,by decide,by decide,λm hm=>⟨_,_,rfl,rfl,(by show (0:Int)<6;decide),.inl (.inl ⟨rfl,_,rfl,dr (λ_=>?_) (λ_=>?_)⟩)⟩⟩
  ·refine⟨_,rfl,_,_,rfl,rfl,(by show (0:Int)<7;decide),hN _ _ ⟨(hd0 % 7).toNat,by omega,?_,rfl⟩⟩
   rw [Cw b0];rfl
  ·refine hN _ _ ⟨(hd0 % 4).toNat,by omega,?_,rfl⟩
   rw [Cw a0]
 rintro _ H ⟨d,hd,rfl,rfl⟩
 clear a0 a1 b0 b1
 refine⟨_,rfl,a,ns,2,rfl,ha,by decide,_,rfl,λnm ot np H1 s1 hnm hot hne e1=>?_⟩
 refine⟨np,[vt nm,vt ot],rfl,.inl (.inl e1),rfl,_,_,rfl,_,_,rfl,rfl,?_⟩
 obtain⟨mo,hmo,m60,m144⟩:=Tv d hd
 refine⟨_,rfl,_,rfl,_,rfl,hd0,3,rfl,by decide,by decide,λm2 _=>⟨_,_,rfl,rfl,(by show (0:Int)<2;decide),?_⟩⟩
 refine⟨by rw [sizeLine_eq];show 7<=_;decide,λpN hN=>?_⟩
 have s2:ak H (ai H1 pN (.lst [V.int 30,V.int 30,V.int 24,V.int 16,V.int 12,V.int 8,V.int 8])):=fQ hN s1
 refine⟨_,rfl,cQ (aD.of aA) hmo ?_⟩
 refine⟨a,ns,f::L,_,mo,rfl,ik s2 ha,hl,hL2,hL6,by omega,λtx htm htl=>?_⟩
 generalize ai H1 pN (.lst [V.int 30,V.int 30,V.int 24,V.int 16,V.int 12,V.int 8,V.int 8])=H2 at s2
 clear hmo hN
 have ha2:=ik s2 ha
 have ztx:tx.length<=sizeLine:=by rw [sizeLine_eq];omega
 refine⟨_,rfl,a,ns,3,rfl,ha2,by decide,_,rfl,_,_,rfl,dD ztx,.inl ⟨_,_,rfl,rfl,_,_,rfl,rfl,(by show (0:Int)<((tx.length:Nat):Int)+1;omega),?_⟩⟩
 rfl'
 obtain⟨c0,c1⟩:=kC (kL ns 3) (show (0:Int)<((tx.length:Nat):Int)+1 by omega)
 generalize kL ns 3 % (((tx.length:Nat):Int)+1)=cu at c0 c1 ⊢
 refine⟨_,rfl,_,rfl,_,rfl,.inr (eF ztx ?_)⟩
 refine⟨_,rfl,_,rfl,_,rfl,.inr (eF ztx ?_)⟩
 rw [BW tx c0,uU tx c0]
 obtain⟨fi,se,et,e1',e2'⟩:∃fi se,tx=fi++se/\tx.take cu.toNat=fi/\tx.drop cu.toNat=se:=⟨_,_,(kO _ _).symm,rfl,rfl⟩
 rw [e1',e2']
 clear e1' e2'
 subst et
 refine⟨_,_,rfl,?_⟩
 refine λdk dx ndk ndx nex=>⟨dk,dx,rfl,aA,λdd H3 ndd d1 d2 k1=>⟨rfl,?_⟩⟩
 have s0:ak H2 (ai (ai H2 dx (.own dk)) dk (.ins t.cJ dx [])):=λb o e=>by rw [au (bQ e ndk),au (bQ e ndx)];exact e
 have s3:ak H2 H3:=λb o e=>k1 b o (s0 b o e) (bQ e ndk)
 have h2d:H2 dd=none:=s0.free ndd
 clear k1 nex s0 ndk ndx ndd
 dsimp (config:={ eta:=false,zeta:=false,iota:=false }) only [f9]
 show kZ (qY _ _ _) _ _ [some (.ref a),some (.int hd0),some (vt (f::L)),some (.int (d:Int)),some (vt nm),some (vt ot),some (vt (fi++se)),some (.int cu),some (vt fi),some (vt se),some (.ref dk),none,none,none,none] H3
 clear c0 c1 ztx
 have n8:=hnm.2.1
 have o8:=hot.2.1
 have wl:∀s ∈ ["frame ", "weight ", "learn ", "read ", "unwrap ", "held ", "press ", "back "],(wd s).length<=10:=by decide +kernel
 have dl:(dg d).length<=3:=(iU (by omega)).1
 have F0:c6 ⟨0,0,0,0,0,f,L,d,[],0⟩:=⟨hL2,hL6,hnd,λc hc=>xG (hsg c hc),λc hc=>(show ∀c ∈ dU.drop 1,c ≠ 32 by decide +kernel) c (hsg c hc),hd⟩
 have w1:=wl "frame " (by simp)
 refine⟨_,rfl,dk,dx,_,rfl,d1,(fE _).1,_,rfl,.inr (.inl (aY (by rw [sizeLine_eq];omega) (.inr (.inl (aY (by rw [sizeLine_eq,aq];show _+1<=_;omega) ⟨_,rfl,_,rfl,lD (n:=d) (by omega),?_⟩)))))⟩
 rw [j6]
 refine .inr (.inl (aY (by rw [sizeLine_eq,aq,aq];show _+1+_<=_;omega) ?_))
 refine .inr (.inl (aY (by rw [sizeLine_eq,aq,aq,aq];show _+1+_+1<=_;omega) ?_))
 refine⟨_,rfl,.inr (.inl (aY (by rw [sizeLine_eq,aq,aq,aq,aq];show _+1+_+1+_<=_;omega) ?_))⟩
 rw [GC (s := "frame") nm (dg d) (f::L) (by decide +kernel)]
 have sL:gr (f::L):=⟨λc hc=>⟨F0.isg c hc,F0.nb c hc⟩,by omega⟩
 refine⟨H3,oQ _,dk,dx,dd,[],wd "frame",nm,[dg d,f::L],rfl,j9 (show (tx (wd "frame"),(4:Int)) ∈ ij by decide +kernel) (by show 3<=3;decide) (.cons (by decide +kernel) (.cons hnm.sgn (.cons (BR (by omega)) (.cons sL λw h=>nomatch h)))),hnm,d1,d2,cU _,λ_=>⟨⟨0,0,0,0,0,f,L,d,[],0⟩,rfl,F0,rfl,λz H4 N fz O e4 b4 _=>?_⟩,λe=>absurd e (by decide +kernel),λe=>absurd rfl e⟩
 rw [oP]
 refine .inl (.inl ⟨rfl,_,rfl,eE rfl ?_⟩)
 have iz:Is z f L d []:=⟨N.f,N.L,N.d,N.l⟩
 have i0:Is ⟨0,0,0,0,0,f,L,d,[],0⟩ f L d []:=⟨rfl,rfl,rfl,rfl⟩
 have zB:z.B=0:=by have:z.B<=7*0:=N.B;omega
 have fd:∀c ∈ [dd],∀o,H2 c=some o->(∀x,o ≠ .own x)->False:=λc hc o e _=>by rw [bx.mp hc,h2d] at e;cases e
 have bH:bF [] H2 H4:=(bF.of s3).past fd b4
 have fx:∀c ∈ z.ads,∀o,H2 c=some o->(∀x,o ≠ .own x)->False:=λc hc o e _=>by rw [s3.free (fz c hc)] at e;cases e
 have g0:∀{x:Lr} {l:List Nat},Is x f L d l->FT x (fi++se):=λh=>⟨by rw [h.f,h.L];exact htm,by omega,by rw [h.d];exact c7 (xy _ (show (fi++se).length<=2*mo by omega)) m144⟩
 have gz:FT z z.l:=by rw [iz.l];exact(g0 iz).pre.pre (l:=[])
 have O1:cN K t.bC t.aS t.cJ dk dd (cE [] (key nm) (.ref z.q)) nm z H4 :=
  ⟨⟨dx,b4 _ _ d1 (λz=>by rw [bx.mp z,d2] at d1;cases d1) λx z=>nomatch z⟩,e4,by show 1<=100;decide,by rw [k9,if_pos rfl],O,i0.fit iz F0,gz,by omega,hnm⟩
 clear b4 d1 d2 e4 O N fz s3 s1 h2d
 obtain⟨dq,me⟩:=O1.me
 refine⟨_,rfl,dk,dq,_,rfl,me,(fE _).1,_,rfl,.inr (.inl (aY (by have:=wl "weight " (by simp);rw [sizeLine_eq];omega) ?_))⟩
 rw [ko (s := "weight") nm (by decide +kernel)]
 rfl'
 refine O1.ask (x:=[]) (by rw [gw];exact gz) 1 λv H5 hv b5=>?_
 obtain⟨n,m,hlo,rfl⟩:=hv
 have e5:n=1/\m=1:=by
  obtain⟨h1,h2,_,_,h3,h4⟩:=hlo
  have:wt z=(1,1):=by unfold wt;rw [iz.l];exact Uo _ _ _
  rw [this] at h3 h4
  exact⟨by have:n<=1:=h3;omega,by have:m<=1:=h4;omega⟩
 obtain⟨rfl,rfl⟩:=e5
 refine .inl (.inl ⟨rfl,_,rfl,eE rfl ?_⟩)
 have O2:=O1.to b5
 replace bH:=bH.trans b5
 clear O1 me hlo b5
 obtain⟨dq,me⟩:=O2.me
 have w2:=wl "learn " (by simp)
 have nfi:fi.length+se.length<=30:=by rw [← aq];omega
 refine⟨_,rfl,dk,dq,_,rfl,me,(fE _).1,_,rfl,.inr (.inl (aY (by rw [sizeLine_eq];omega) (.inr (.inl (aY (by rw [sizeLine_eq,aq];show _+1<=_;omega) ⟨_,rfl,.inr (.inl (aY (by rw [sizeLine_eq,aq,aq];show _+1+_<=_;omega) ?_))⟩)))))⟩
 rw [kj (s := "learn") nm fi (by decide +kernel)]
 refine⟨H5,oQ _,O2.learn (x:=fi) (by rw [iz.l];exact(g0 iz).pre) (by omega) λB1 H6 hB1 O3 b6 _=>?_⟩
 rw [oP]
 refine .inl (.inl ⟨rfl,_,rfl,eE rfl ?_⟩)
 replace bH:=bH.past fx b6
 have ix:Is { z with l:=z.l++fi,B:=B1 } f L d fi:=⟨iz.f,iz.L,iz.d,by show z.l++fi=_;rw [iz.l];rfl⟩
 have hB1:({ z with l:=z.l++fi,B:=B1 }:Lr).B<=7*30:=by show B1<=_;omega
 have fx:∀c ∈ ({ z with l:=z.l++fi,B:=B1 }:Lr).ads,∀o,H2 c=some o->(∀x,o ≠ .own x)->False:=fx
 have O3:cN K t.bC t.aS t.cJ dk dd (cE [] (key nm) (.ref ({ z with l:=z.l++fi,B:=B1 }:Lr).q)) nm { z with l:=z.l++fi,B:=B1 } H6:=O3
 generalize ({ z with l:=z.l++fi,B:=B1 }:Lr)=x at ix hB1 fx O3
 clear O2 b6 me iz i0 zB gz
 have gx:=g0 ix
 refine⟨_,rfl,_,rfl,_,rfl,dk,dd,_,nm,se,x,rfl,O3,by rw [ix.l];exact gx,λas r H7 ht nr er b7=>?_⟩
 obtain⟨h5,hA⟩:=id ht
 obtain⟨a0,a1,a2,a3,a4,rfl⟩:=SD h5
 have A0:a0=fi:=Eq.trans (hA 0 a0 rfl) ix.l
 obtain⟨n,m,hlo,A1⟩:=hA 1 a1 rfl
 have A3:jy x x.l se a3:=hA 3 a3 rfl
 obtain⟨c,hc,A4⟩:=hA 4 a4 rfl
 clear h5 hA
 have rx:r ∉ x.ads:=λz=>by
  obtain⟨o,e,_⟩:=O3.at_.kinds (gG _ _) r z
  rw [nr] at e;cases e
 have O4:=O3.to b7
 replace bH:=bH.trans b7
 clear O3 b7 nr
 have hr7:aD K H7 r ([a0,a1,a2,a3,a4].map vt):=aD.of er
 refine⟨_,rfl,cQ hr7 (dw (k:=0) rfl) ⟨_,rfl,.inl (.inl ⟨rfl,_,rfl,eE (congrArg vt A0) ?_⟩)⟩⟩
 have pt:=(O4.ft.sp O4.fl).p3 (aI _) O4.fl.al
 have bt:∀{i:Int},i<=(wt x).2->i<2^1900:=λh=>dC (aP h pt.bb) (by have:=(c6.tb O4.fl).1;omega)
 obtain⟨lo1,lo2,_,_,lo3,lo4⟩:=hlo
 replace lo3:=bt (aP lo3 pt.ab)
 replace lo4:=bt lo4
 clear bt pt
 obtain⟨n,rfl⟩:=iJ (cx lo1)
 obtain⟨m,rfl⟩:=iJ (cx lo2)
 refine⟨_,rfl,cQ hr7 (dw (k:=1) rfl) ⟨n,m,by rw [A1];rfl,by omega,by omega,(nE (by exact_mod_cast lo3)).1,(nE (by exact_mod_cast lo4)).1,λH8 s8=>⟨true,rfl,bK ?_⟩⟩⟩
 have O5:=O4.to (bF.of s8)
 replace bH:=bH.trans (bF.of s8)
 have hr8:=ik s8 hr7
 replace er:=s8 _ _ er
 clear lo1 lo2 lo3 lo4 A1 O4 hr7 s8
 have zse:se.length<=sizeLine:=by rw [sizeLine_eq];omega
 have sl:(dg se.length).length<=3:=(iU (by omega)).1
 have bl:=A3.len
 refine⟨_,rfl,cQ hr8 (dw (k:=3) rfl) ?_⟩
 obtain⟨dq,me⟩:=O5.me
 have w3:=wl "read " (by simp)
 refine⟨_,rfl,.inl ⟨_,_,_,true,rfl,.str _,jg K _,true,rfl,bK ?_⟩⟩
 refine⟨_,rfl,dk,dq,_,rfl,me,(fE _).1,_,rfl,.inr (.inl (aY (by rw [sizeLine_eq];omega) (.inr (.inl (aY (by rw [sizeLine_eq,aq];show _+1<=_;omega) ⟨_,rfl,_,_,rfl,dD zse,_,rfl,lD (n:=se.length) (by omega),?_⟩)))))⟩
 rw [j6]
 refine .inr (.inl (aY (by rw [sizeLine_eq,aq,aq];show _+1+_<=_;omega) ?_))
 refine .inr (.inl (aY (by rw [sizeLine_eq,aq,aq,aq];show _+1+_+1<=_;omega) ?_))
 refine⟨_,rfl,.inr (.inl (aY (by rw [sizeLine_eq,aq,aq,aq,aq];show _+1+_+1+_<=_;omega) ?_))⟩
 rw [GC (s := "read") nm (dg se.length) a3 (by decide +kernel)]
 rfl'
 refine O5.askR (by rw [ix.l];exact gx) A3 λH9 b9=>?_
 refine⟨_,rfl,.inl (.inl ⟨rfl,_,rfl,eE rfl ?_⟩)⟩
 have O6:=O5.to b9
 replace bH:=bH.trans b9
 replace er:=b9 _ _ er (λh=>nomatch h) (λx z=>nomatch z)
 have hr9:aD K H9 r ([a0,a1,a2,a3,a4].map vt):=aD.of er
 clear O5 b9 hr8 me A3 bl w3
 refine⟨_,rfl,cQ hr9 (dw (k:=4) rfl) (.inl ⟨_,_,_,true,rfl,.str _,jg K _,true,rfl,bK ?_⟩)⟩
 obtain⟨dq,me⟩:=O6.me
 have w4:=wl "unwrap " (by simp)
 have pk:gr a4:=by rw [A4];exact Og O6.ft O6.fl hc.len
 have pl:=pk.2
 refine⟨_,rfl,dk,dq,_,rfl,me,(fE _).1,_,rfl,.inr (.inl (aY (by rw [sizeLine_eq];omega) (.inr (.inl (aY (by rw [sizeLine_eq,aq];show _+1<=_;omega) ⟨_,rfl,cQ hr9 (dw (k:=4) rfl) (.inr (.inl (aY (by rw [sizeLine_eq,aq,aq];show _+1+_<=_;omega) ?_)))⟩)))))⟩
 rw [kj (s := "unwrap") ot a4 (by decide +kernel)]
 obtain⟨nk,ndd,lv⟩:=O6.nks
 have nkd:dk ∉ [dd]:=λz=>by rw [bx.mp z,O6.td] at me;cases me
 refine⟨mS x.ads H9,pB lv,dk,dq,dd,_,wd "unwrap",ot,[a4],rfl,j9 (show (tx (wd "unwrap"),(3:Int)) ∈ ij by decide +kernel) (by show 2<=3;decide) (.cons (by decide +kernel) (.cons hot.sgn (.cons pk λw h=>nomatch h))),hot,cm me nk (λx z=>nomatch z),cm O6.td ndd (λx z=>nomatch z),O6.ln,λe=>absurd e (by decide +kernel),λ_=>⟨x,c,by rw [A4],O6.ft,O6.fl,hc,λy A' N fz O e b aft=>?_⟩,λ_ e=>absurd rfl e⟩
 have iy:Is y f L d fi:=⟨N.f.trans ix.f,N.L.trans ix.L,N.d.trans ix.d,N.l.trans ix.l⟩
 have hB2:y.B<=7*30:=by have:=N.B;rw [ix.l] at this;omega
 obtain⟨Tw,b10,dj⟩:=gL.made O6 hne hot lv (c7 (NY _ _ _) (by show 1+1<=100;decide)) aft fz O e b (ix.fit iy O6.ft) (by rw [iy.l];exact(g0 iy).pre) (by omega) ⟨dq,b _ _ (cm me nk λx z=>nomatch z) nkd λx z=>nomatch z⟩
 refine .inl (.inl ⟨rfl,_,rfl,eE rfl ?_⟩)
 have nrd:r ∉ [dd]:=λz=>by rw [bx.mp z,O6.td] at er;cases er
 have ry:r ∉ y.ads:=λz=>by
  have:=fz r z
  rw [cm er rx λx z=>nomatch z] at this;cases this
 have fy:∀c ∈ y.ads,∀o,H2 c=some o->(∀x,o ≠ .own x)->False:=λc hc o e y=>by
  have:=fz c hc
  rw [cm (bH c o e (λh=>nomatch h) y) (dj c hc) y] at this;cases this
 replace bH:=bH.past fd b10
 replace er:=b10 _ _ er nrd (λx z=>nomatch z)
 generalize put A' H9 (mS x.ads H9)=H10 at Tw bH er
 clear b10 dj O e b aft fz N nk ndd lv nkd O6 hr9 me pk pl w4 A4 hc nrd
 generalize cE (cE [] (key nm) (.ref x.q)) (key ot) (.ref y.q)=kvs at Tw
 have gy:=g0 iy
 have Fx:=Tw.d1.ft
 have Fy:=Tw.d2.ft
 clear O3
 refine⟨_,rfl,_,rfl,_,rfl,dk,dd,kvs,ot,se,y,rfl,Tw.d2,by rw [iy.l];exact gy,λbs r2 H11 ht2 nr2 er2 b11=>?_⟩
 obtain rfl:=jm.one Fy (by rw [iy.l];exact gy) ht2 (ht.is ix iy)
 replace er:=b11 _ _ er (λh=>nomatch h) (λx z=>nomatch z)
 refine⟨_,rfl,.inr ⟨r2,r,_,_,rfl,rfl,.inr ⟨aD.of er2,aD.of er⟩,rfl,C9,_,rfl,bK ?_⟩⟩
 replace Tw:=Tw.ask b11
 replace bH:=bH.trans b11
 clear ht2 nr2 er2 b11
 obtain⟨dq,me⟩:=Tw.d1.me
 refine⟨_,rfl,dk,dq,_,rfl,me,(fE _).1,_,rfl,.inr (.inl (aY (by rw [sizeLine_eq];omega) (.inr (.inl (aY (by rw [sizeLine_eq,aq];show _+1<=_;omega) ⟨_,rfl,.inr (.inl (aY (by rw [sizeLine_eq,aq,aq];show _+1+_<=_;omega) ?_))⟩)))))⟩
 rw [kj (s := "learn") nm se (by decide +kernel)]
 obtain⟨lv,P1⟩:=Tw.part
 refine⟨mS y.ads H11,pB lv,P1.learn (x:=se) (by rw [ix.l];exact gx) (by omega) λB3 A' hB3 D3 bs aft=>?_⟩
 obtain⟨Tw2,b12⟩:=Tw.deed D3 bs aft
 refine .inl (.inl ⟨rfl,_,rfl,eE rfl ?_⟩)
 replace bH:=bH.past fx b12
 replace er:=b12 _ _ er rx (λx z=>nomatch z)
 have ix2:Is { x with l:=x.l++se,B:=B3 } f L d (fi++se):=⟨ix.f,ix.L,ix.d,by show x.l++se=_;rw [ix.l]⟩
 have rx:r ∉ ({ x with l:=x.l++se,B:=B3 }:Lr).ads:=rx
 have fx:∀c ∈ ({ x with l:=x.l++se,B:=B3 }:Lr).ads,∀o,H2 c=some o->(∀x,o ≠ .own x)->False:=fx
 generalize put A' H11 (mS y.ads H11)=H12 at Tw2 bH er
 clear Tw P1 lv D3 bs aft b12 me
 generalize ({ x with l:=x.l++se,B:=B3 }:Lr)=x2 at Tw2 ix2 rx fx
 obtain⟨dq,me⟩:=Tw2.d1.me
 refine⟨_,rfl,dk,dq,_,rfl,me,(fE _).1,_,rfl,.inr (.inl (aY (by have:=wl "held " (by simp);rw [sizeLine_eq];omega) ?_))⟩
 rw [ko (s := "held") nm (by decide +kernel)]
 rfl'
 refine Tw2.d1.ask (x:=[]) (by rw [gw];exact Tw2.d1.fl) 0 λv H13 hv b13=>?_
 refine⟨_,rfl,.inl (.inl ⟨rfl,_,rfl,eE (congrArg vt (Eq.trans hv ix2.l)) ?_⟩)⟩
 replace Tw2:=Tw2.ask b13
 replace bH:=bH.trans b13
 replace er:=b13 _ _ er (λh=>nomatch h) (λx z=>nomatch z)
 clear b13 hv me
 refine⟨_,rfl,_,rfl,f::L,d,rfl,hL2,hL6,hnd,F0.isg,hd,λH14 fp s14 nfp=>?_⟩
 have s15:ak H13 (ai H14 fp (.tup [vt (f::L),.int (d:Int)])):=fQ nfp s14
 have ef:ai H14 fp (.tup [vt (f::L),.int (d:Int)]) fp=some (.tup [vt (f::L),.int (d:Int)]):=aA
 rfl'
 generalize ai H14 fp (.tup [vt (f::L),.int (d:Int)])=H15 at s15 ef ⊢
 replace Tw2:=Tw2.ask (bF.of s15)
 replace bH:=bH.trans (bF.of s15)
 replace er:=s15 _ _ er
 clear s14 nfp s15
 have g1:FT x2 (x2.l++se):=by
  rw [ix2.l]
  have e:(fi++se++se).length<=2*mo:=by have:=aq (as:=fi) (bs:=se);rw [aq (as:=fi++se)];omega
  refine⟨λc hc=>?_,by omega,by rw [ix2.d];exact c7 (xy _ e) m144⟩
  rw [ix2.f,ix2.L]
  rcases cD.mp hc with z | z
  ·exact htm c z
  ·exact htm c (gs _ z)
 obtain⟨dq,me⟩:=Tw2.d1.me
 have w5:=wl "press " (by simp)
 refine⟨_,rfl,dk,dq,_,rfl,me,(fE _).1,_,rfl,.inr (.inl (aY (by rw [sizeLine_eq];omega) (.inr (.inl (aY (by rw [sizeLine_eq,aq];show _+1<=_;omega) ⟨_,rfl,.inr (.inl (aY (by rw [sizeLine_eq,aq,aq];show _+1+_<=_;omega) ?_))⟩)))))⟩
 rw [kj (s := "press") nm se (by decide +kernel)]
 rfl'
 refine Tw2.d1.ask (x:=se) g1 3 λv H16 hv b16=>?_
 have hv:jy x2 x2.l se v:=hv
 have wp:=Tw2.d1.ft.wpos g1
 have sp:=Tw2.d1.ft.sp g1
 have t1:=(c6.tb g1).1
 have t2:=(c6.tb g1.pre).1
 rw [ix2.l] at sp t1 t2
 rw [ix2.f,ix2.L,ix2.d] at sp
 rw [ix2.d] at t1 t2
 unfold jy at hv
 rw [ix2.f,ix2.L,ix2.d,ix2.l] at hv wp
 replace ef:=b16 _ _ ef (λh=>nomatch h) (λx z=>nomatch z)
 refine⟨_,rfl,_,rfl,_,rfl,fp,f,L,d,se,fi++se,rfl,.inl (.inl ef),htm,λc hc=>htm c (gs _ hc),sp,by omega,λH17 b s17 hb=>?_⟩
 refine .inl (.inl ⟨rfl,_,rfl,eE (congrArg vt (hv.one wp hb)) ?_⟩)
 replace Tw2:=(Tw2.ask b16).ask (bF.of s17)
 replace bH:=(bH.trans b16).trans (bF.of s17)
 replace er:=s17 _ _ (b16 _ _ er (λh=>nomatch h) (λx z=>nomatch z))
 replace ef:=s17 _ _ ef
 clear hv hb wp sp t1 t2 b16 s17 me g1 w5
 have zfi:fi.length<=sizeLine:=by rw [sizeLine_eq];omega
 refine⟨_,rfl,a,ns,3,rfl,aD.ka ha2 bH,by decide,kL ns 3,60,rfl,by decide,by decide,λm3 _=>⟨_,rfl,_,_,rfl,dD zfi,.inl ⟨_,_,rfl,rfl,_,_,rfl,rfl,(by show (0:Int)<((fi.length:Nat):Int)+1;omega),?_⟩⟩⟩
 rfl'
 obtain⟨c0,c1⟩:=kC m3 (show (0:Int)<((fi.length:Nat):Int)+1 by omega)
 obtain⟨g,hg⟩:=iJ c0
 rw [hg] at c1 ⊢
 clear c0 hg
 obtain⟨lv,P2⟩:=Tw2.swap.part
 have nfp:fp ∉ x2.ads:=λz=>by
  obtain⟨o,e,h,_⟩:=lv fp z
  rw [ef] at e;cases e;exact h _ rfl
 have hF:aG K (mS x2.ads H17) fp [vt (y.f::y.L),.int y.d]:=by rw [iy.f,iy.L,iy.d];exact .inl (.inl (cm ef nfp λx z=>nomatch z))
 refine⟨_,rfl,_,rfl,_,rfl,_,rfl,_,rfl,mS x2.ads H17,pB lv,dk,dd,kvs,ot,y,fp,g,by rw [iy.l];rfl,P2,hF,by rw [iy.l];omega,by omega,λB4 A' hB4 D4 bs aft=>?_⟩
 obtain⟨Tw3,b18⟩:=Tw2.swap.deed (l:=y.l) D4 bs aft
 replace er:=b18 _ _ er ry (λx z=>nomatch z)
 have iy2:Is { y with l:=y.l,B:=B4 } f L d fi:=⟨iy.f,iy.L,iy.d,iy.l⟩
 generalize put A' H17 (mS x2.ads H17)=H18 at Tw3 er
 clear Tw2 P2 lv D4 bs aft b18 hF nfp ef bH ry fy
 generalize ({ y with l:=y.l,B:=B4 }:Lr)=y2 at Tw3 iy2
 refine⟨true,rfl,bK ?_⟩
 refine⟨_,rfl,_,rfl,_,rfl,dk,dd,kvs,ot,se,y2,rfl,Tw3.d1,by rw [iy2.l];exact g0 iy2,λbs r3 H19 ht2 nr2 er2 b19=>?_⟩
 obtain rfl:=jm.one Tw3.d1.ft (by rw [iy2.l];exact g0 iy2) ht2 (ht.is ix iy2)
 replace er:=b19 _ _ er (λh=>nomatch h) (λx z=>nomatch z)
 refine⟨_,rfl,.inr ⟨r3,r,_,_,rfl,rfl,.inr ⟨aD.of er2,aD.of er⟩,rfl,C9,_,rfl,bK ?_⟩⟩
 have O7:=Tw3.d2.to b19
 clear Tw3 ht2 nr2 er2 b19
 obtain⟨dq,me⟩:=O7.me
 have w6:=wl "back " (by simp)
 refine⟨_,rfl,dk,dq,_,rfl,me,(fE _).1,_,rfl,.inr (.inl (aY (by rw [sizeLine_eq];omega) (.inr (.inl (aY (by rw [sizeLine_eq,aq];show _+1<=_;omega) ⟨_,rfl,_,_,rfl,dD zse,_,rfl,lD (n:=se.length) (by omega),?_⟩)))))⟩
 rw [j6]
 refine .inr (.inl (aY (by rw [sizeLine_eq,aq,aq];show _+1+_<=_;omega) ?_))
 rw [kj (s := "back") nm (dg se.length) (by decide +kernel)]
 refine⟨H19,oQ _,O7.back ix2.l λH20 O8 b20 _=>?_⟩
 rw [oP]
 refine .inl (.inl ⟨rfl,_,rfl,eE rfl ?_⟩)
 replace er:=b20 _ _ er rx (λx z=>nomatch z)
 have ix3:Is { x2 with l:=fi } f L d fi:=⟨ix2.f,ix2.L,ix2.d,rfl⟩
 refine⟨_,rfl,_,rfl,_,rfl,dk,dd,kvs,nm,se,{ x2 with l:=fi },rfl,O8,g0 ix3,λbs r4 H21 ht2 nr2 er2 b21=>?_⟩
 obtain rfl:=jm.one O8.ft (g0 ix3) ht2 (ht.is ix ix3)
 exact⟨_,rfl,.inr ⟨r4,r,_,_,rfl,rfl,.inr ⟨aD.of er2,aD.of (b21 _ _ er (λh=>nomatch h) (λx z=>nomatch z))⟩,rfl,C9,q _⟩⟩
end
theorem fin{P:Program}{w:World}{K:Frag}{mg:Str->Option Value}{fa:Addr}(hmg:mg "law" = some (.ref fa))(h:∃t,Txt K mg t/\KeysLit w.params t.e_ROW_SIZES.toList):
 ∃fd:FuncData,(∀(s:Shared) (v:Value),BindsTo s fd ⟨[v],[]⟩ [("script",v)])/\∀base:Heap,K.In base->base.Ns mainGlobals mg->ar P w K mg base (ay P w) 17 fa fd ["script"] (oG K):=by
 obtain⟨t,T,Y⟩:=h
 have e:=hmg.symm.trans T.Kt.m
 cases e
 exact⟨_,T.bl,λbase _ _=>Pp T Y⟩
theorem walk{l:PySem.W.OpenLaw}{q:Program}{loose:List Str}{XP:(Str->Option Value)->Heap->Prop}{YP:World->Heap->Prop}{d:DefRec}{K:Params->Frag}(hn:l.most=some 63)(hdf:d.params.defaults=[])
 (hY:∀(w:World) (h:Heap),YP w h->(K w.params).In h)
 (F:∀(w:World) (mg:Str->Option Value) (fa:Addr) (h:Heap),(K w.params).In h->h.Ns mainGlobals mg->mg d.name=some (.ref fa)->
  ∃fd:FuncData,(∀(s:Shared) (u:Value),BindsTo s fd ⟨[u],[]⟩ [("script",u)])/\∀base:Heap,(K w.params).In base->base.Ns mainGlobals mg->ar l.prog w (K w.params) mg base (ay l.prog w) 17 fa fd ["script"] (oG (K w.params))):
 PySem.W.WalkO q loose XP YP l.row.toRowW d [] (λf vs=>PySem.call f vs) :=
 L2.Lz (n:=63) (k:=17) (x := "script") (CX:=λw=>ay l.prog w) (sp:=λw=>oG (K w.params)) hn (by decide) hdf ⟨rfl,by decide,by decide⟩ hY F (λ_ _ a ns hl hb _ hS=>⟨a,ns,rfl,hS,hl,hb,λ_=>rfl⟩) λ_ _ _ _ _ z=>Jv z
end Bp
inductive PySem.W.Fast:Prop where
|tw2376743781945313928|tw12040774771217149176|tw6095531956270520822|tw16464419149614702468|tw4799117078181663884|tw865224006958156341|tw9301509509103887581|tw13947502055126647792|tw4287165016212829669|tw5985463347494834345|tw1655864759050262934|tw12176259035110656356|tw13826781220223661582|tw10831949293969188762|tw18193573003421486440|tw14520012708870258546|tw17162013879348033555|tw7067179513773672349|tw8333296439527073943|tw18388646061857893482|tw11785090257074515098|tw3816555648164707569|tw5546476019004967273|tw5404695922335881658|tw17449999031285983928|tw13390384917184238908|tw5574271863626990028|tw17347849452672292445|tw952254088888290448|tw15383236014888048778|tw14425705063477332576|tw4196490853728370222|tw6032243347480927775|tw13844692659634423885|tw12504337606579939978|tw14834945277273732848|tw7475895643408792766|tw2456805977648618385|tw11635331704616340761|tw14847963172643900096|tw895582182116512783|tw9190458038803541797|tw18181576779442788813|tw11960217150483807844|tw634032488070234955|tw1039080516147681768|tw10955691851094483652|tw13013714947514400951|tw4450488743439068329|tw9911974855033991645|tw6194061227318792205|tw8361772928421033078|tw14273928077863512290|tw11457405105553232204|tw13066547134130394642|tw7729656193330499278|tw2475765074424418118|tw16278105407937219841|tw13466106476194101381|tw14265618863980502349|tw8515896256143515405|tw267878023093710254|tw8900456224676635297|tw4574136486817938212|tw14208471588104970215|tw5909695748714625228|tw12859439918729996698|tw486550636932105816|tw9932535971165732389|tw4687488177663329671|tw9651540732168166024|tw18281212220552992356|tw5017674903263505601|tw9490629445329811698|tw490001767776747150|tw1740288054921666337|tw11696885242820630346|tw15379895540041835092|tw14390599893310697176|tw9727223926159822037|tw11695170039012856502|tw366907901309627539|tw10951557313651578143|tw6256838361116599690|tw14622884788446110890|tw17799508779805525129|tw3310238196107333152|tw4797045235946709391|tw6744936582786761169|tw9496531065420981226|tw1987802613546658487|tw2016618204441436143|tw9391835969853987112|tw10598026128685821207|tw4671812724775353633|tw14605869875136988620|tw15473010473697130181|tw1207332534090228305|tw16791803434400865052|tw6397103675507889916|tw2322698610241980950|tw14423563651822480740|tw15396609696228445827|tw11802724364873857367|tw9494161263804888831|tw8966140323737079252|tw10946744776424627952|tw11785879214646008587|tw4392725444708946499|tw7406213832881247629|tw43607428068779804|tw8339529820398557051|tw10885580297202193936|tw15378395828726278179|tw9161476163983015407|tw8177952640037952781|tw14485762466469431937|tw11332888789233908960|tw15747686091476163462|tw10658568360344943862|tw8026236300843793012|tw18132212622923008815|tw745890088571578580|tw11929096752609711409|tw13539064444993369421|tw11967051913724601984|tw9875804923024585503|tw7916612911407755387|tw12444957646395961823|tw11912877947775014035|tw1992424763867596164|tw11105758598881790602|tw16445367259470769989|tw828632065955705084|tw16345066972793282629|tw5210860963598212417|tw9862511699031708109|tw9484195884222867576|tw10106538423780254990|tw7961396433527458534|tw15156510251660055080|tw16260388484454629199|tw4165582066052164844|tw17269545064857320583|tw17226519552351580402|tw16413850217853437579|tw362057925104813324|tw193890054641354772|tw14436453007197707888|tw17675040705612750122|tw15633678608061676447|tw9901155450895922729|tw15891946663452512383|tw7598630906244470598|tw13035934731907834306|tw10419565646670648255|tw422722840231242624|tw10180167015161669901|tw4414685262254077769|tw4039871975777691485|tw3106916966691183227|tw9527424159122360427|tw12448028003398559343|tw7347893744383140537|tw7333153383593426265|tw8772489086841903678|tw6721506342953080930|tw9655635012672563131|tw17379131091828167548|tw9908155962435285949|tw12581161496094206414|tw589384890330803358|tw10170229311913128615|tw7310047646216559905|tw12330493665339166494|tw9634880988968216375|tw18320787974461685783|tw1897074877261991818|tw5698128013293188860|tw4821721432204569485|tw17538795230515606538|tw7447272265576878518|tw1260100386772117730|tw8575463181887594426|tw64591420728235358|tw9708331449916417588|tw16548849881556476878|tw1971489151322729237|tw14431107031005293168|tw3064282881224563090|tw5222825975201195352|tw3791404304782107122|tw12239549681290878168|tw1257307252806575473|tw12729270856271883910|tw18101534371574624595|tw9275834818446463799|tw2188954436663741870|tw13730166892162693003|tw17642207490894301850|tw1685404807468909963|tw14503738172267921295|tw2634965989919598237|tw8744683419057808450|tw581808194991226531|tw14886723906542892750|tw14127718809828886701|tw12823879233187840160|tw15340419729486800851|tw9973538282597613901|tw2508705379576521483|tw16950230748935405619|tw1529488236069806209|tw7711580482122212057|tw8744495792533399064|tw14278250069191186557|tw6188137443117974600|tw12861723645755410196|tw7329599735952647360|tw9485494687347565815|tw14030928081296029314|tw1559125195997740845|tw7086199916028494098|tw1823409613299163118|tw16758824217200572394|tw16897226279065649362|tw16639052234431253717|tw4454720136304119797|tw12969075868405939826|tw16112191890643737475|tw10353212974186163995|tw5172684561803668284|tw13661090791545034579|tw4904994811596551711|tw700288666530313105|tw2949516963268820348|tw15328179403774766122|tw564740523757277076|tw12540651507855991868|tw7780094238973674462|tw15976317473568268286|tw4791646373810204432|tw13244767551403450765|tw2235958549959728892|tw7188195214219220806|tw10941112841942858171|tw18224517851471326049|tw9124832926620137292|tw17178745070296244974|tw1345909866112101479|tw9885748917049804040|tw4813889927773085146|tw10746551023564323523|tw1824703446993512229|tw12327013552204017083|tw9957943452976671431|tw17729481496761324285|tw6763309707252382455|tw17548563383393577003|tw14507295348151083004|tw1220858528334798221|tw3957419660756174554|tw7870418698386478206|tw10410603396918054956|tw14928569255002527251|tw12973027686191624094|tw2643136066391198920|tw11643475459482897068|tw869430260799237083|tw18156441357408109165|tw4746109318226400974|tw2052006944395694286|tw14221015326517223639|tw35462122434748876|tw2947514535398190475|tw10992604422690252583|tw9865465192341428390|tw2200042206069866630|tw6954122481347948321|tw17892688791098997630|tw18025857287403165004|tw16430649301438980948|tw13067302128383828304|tw13235773242494438717|tw15554511111663780840|tw14783513041752549277
local macro_rules | `(tactic| sizeOf_list_dec)=>`(tactic| first | (refine' Bp.fx ?n ?l ?c ?k; (case n=>k_is); (case l=>k_is); (case c=>k_is); (case k=>k_is)) | (refine' Bp.mx ?n ?i ?l ?c ?k; (case n=>k_is); (case i=>k_is); (case l=>k_is); (case c=>k_is); (case k=>k_is)))
open PySem PySem.W PyProof.Rows
set_option maxRecDepth 100000 in
set_option maxHeartbeats 0 in
theorem PySem.Challenge.cw_boughpress_k84_whole_from_rows_to_rows_holds : PySem.Challenge.rw_boughpress_k84_whole_from_rows_to_rows.Holds := by
 w_on;o_law;k_head;(case hw=>w_witness2)
 k_fill
 refine Bp.walk (l:=PySem.Challenge.rw_boughpress_k84_whole_from_rows_to_rows) rfl rfl (λw h Y=>PySem.W.kIn_of Y) ?F
 case F =>
  intro w mg fa h KX G hmg
  refine Bp.fin hmg ?_
  refine' Bp.LG KX G ..
  all_goals try first | sizeOf_list_dec | k_is | rfl | exact⟨⟨_,_,rfl,rfl⟩,⟨_,_,rfl,rfl⟩,⟨_,_,rfl,rfl⟩,⟨_,_,rfl,rfl⟩,⟨_,_,rfl,rfl⟩,⟨_,_,rfl,rfl⟩,⟨_,_,rfl,rfl⟩,⟨_,_,rfl,rfl⟩,⟨_,_,rfl,rfl⟩,⟨_,_,rfl,rfl⟩,⟨_,_,rfl,rfl⟩,trivial⟩
#print axioms PySem.Challenge.cw_boughpress_k84_whole_from_rows_to_rows_holds
