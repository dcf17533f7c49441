import PyProof.Rows.All
import Wide.All
import OpenK.AllK
import Wide.FinOn
import Lean
import PyProof.EqAt
import PyProof.EqKinds
import PyProof.TupleCall
import KE.KSortTup
import KE.KDictOf
import PyProof.AttrMissHeap
import KE.KSortKey
import KE.KNestM
import KE.KLam
import KE.KEqDict
import KE.KBoundM
import KE.KSuperObj
import PySem.Challenge.RW_pagefolk_k11_whole_sent_and_read
set_option Elab.async false
set_option linter.all false
set_option maxRecDepth 100000
section
local macro_rules|`(())=>`(by omega)
local macro_rules|`(∅)=>`(by decide +kernel)
local macro_rules|`(⋯)=>`(by decide)
local macro_rules(kind:=«term{}»)|`({})=>`(fun _ _ _ _ h=>by cases h;subst_vars;rfl)
local macro_rules(kind:=«term{_}»)|`({$x,*})=>`(⟨$x,*⟩)
local macro_rules|`(↑$x)=>`(($x).heap.objs.size)
def qq:=@PySem.wpAny_bind
def qs:=@PySem.wpAny_pure
def qt:=@if_neg
def q0:=@if_pos
def qA:=@decide_eq_true
def qB:=@PySem.Heap.lt_size
def qC:=@PySem.Heap.get?_push_of_some
def qD:=@PySem.Heap.get?_push_size
def qE:=@Option.some.inj
def qF:=@of_decide_eq_true
def qG:=@PySem.wpAny_holding
def qH:=@PySem.wpAny_mono
def qI:=@PySem.wpAny_call_entry
def U{α:Sort u}{a:α}:a=a:=rfl
def qa:=@List.length_map
def qb:=@Nat.le_refl
def qc:=@List.getElem?_eq_getElem
def qd:=@Nat.ne_of_lt
def qf:=@List.mem_map
def qg:=@Nat.le_trans
def qh:=@List.getElem?_map
def qi:=@List.map_cons
def qj:=@Nat.le_of_lt
def qk:=@List.mem_of_getElem?
def ql:=@List.mem_cons_self
def qm:=@List.length_append
def qo:=@List.mem_cons_of_mem
def qp:=@Bool.false_ne_true
def qr:=@List.length_cons
def qu:=@List.getD_eq_getElem?_getD
def qv:=@List.mem_cons
def qw:=@List.getElem?_eq_some_iff
def qx:=@List.size_toArray
def qy:=@List.mem_append
def qz:=@Nat.le_of_ble_eq_true
def zb:=@List.mem_singleton
def zc:=@Nat.lt_of_lt_of_le
def zd:=@Nat.zero_le
def ze:=@Bool.and_eq_true
def zf:=@List.map_append
def zg:=@Nat.ne_of_gt
def zh:=@Array.length_toList
def zi:=@List.length_singleton
def zj:=@List.map_map
def zk:=@List.nodup_cons
def zm:=@List.all_eq_true
def zn:=@List.take_length
def zo:=@List.take_add_one
def zp:=@Array.getElem?_eq_getElem
def zq:=@List.length_take
def zr:=@Nat.lt_succ_of_lt
def zt:=@Nat.lt_irrefl
def zu:=@Array.getElem?_toList
def zv:=@List.mem_iff_getElem
def zw:=@List.getElem_of_mem
def zx:=@List.mem_append_right
def zy:=@List.mem_range
def z0:=@Nat.not_lt_zero
def z7:=@Nat.lt_succ_self
def wa:=@List.length_drop
def wb:=@Nat.lt_of_le_of_lt
def wc:=@List.sum_cons
def we:=@Array.getD_eq_getD_getElem?
def wf:=@List.find?_cons
def wg:=@Nat.succ_le_succ
def wj:=@List.nodup_nil
def wk:=@List.pairwise_iff_getElem
def wm:=@List.ext_getElem?
def wn:=@Bool.eq_iff_iff
def wo:=@List.append_nil
def wq:=@List.length_set
def wu:=@List.replicate_succ
def ww:=@List.take_of_length_le
def wx:=@Nat.lt_add_of_pos_right
def wy:=@Nat.add_lt_add_left
def wz:=@Bool.true_and
def w5:=@List.cons_ne_nil
def w6:=@List.mem_filter
def va:=@List.mem_append_left
def vd:=@List.length_nil
def vf:=@Option.map_eq_some_iff
def vg:=@List.getElem_mem
def vh:=@Nat.sub_zero
def vi:=@List.pairwise_map
def vj:=@List.getElem?_set_ne
def vk:=@List.any_cons
def vm:=@List.length_range
def vn:=@List.drop_zero
def vq:=@Nat.le_add_right
def vt:=@Nat.zero_add
def vy:=@List.getElem?_eq_none
def vz:=@List.getElem?_append_left
def yb:=@List.mem_of_mem_take
def yc:=@List.all_map
def yd:=@List.mem_of_find?_eq_some
def ye:=@Nat.le_succ
def yf:=@List.getElem?_replicate
def yg:=@List.flatten_cons
def yh:=@Nat.lt_trans
def yi:=@List.any_eq_true
def yj:=@Nat.min_self
def yk:=@Array.forIn_toList
def yl:=@List.map_congr_left
def ym:=@Nat.lt_add_right
def yn:=@List.getElem?_range
def yo:=@List.filterMap_cons
def yq:=@List.getElem?_set_self
def yr:=@Bool.false_and
def yt:=@List.mem_filterMap
def yu:=@Nat.add_comm
def yv:=@Option.map_some
def yw:=@List.not_mem_nil
def yx:=@Nat.lt_or_ge
def yy:=@List.find?_eq_none
def yz:=@List.filterMap_cons_some
def y0:=@Nat.add_zero
def y7:=@List.getElem?_toArray
def y9:=@Nat.succ_ne_self
def ja:=@List.getElem?_append_right
def jb:=@List.map_set
def jc:=@Nat.mod_lt
def jd:=@List.find?_some
def je:=@List.range_succ
def jf:=@List.find?_map
def jg:=@Option.map_map
def jh:=@List.map_replicate
def ji:=@Array.mem_toList_iff
def jj:=@List.of_mem_zip
def jk:=@Option.isSome_iff_exists
def jm:=@List.filterMap_map
def jn:=@List.append_assoc
def jo:=@List.foldl_cons
def jp:=@List.lookup_cons
def jq:=@Array.all_toList
def jr:=@List.not_lt
def jt:=@Array.size_map
def ju:=@List.range_succ_eq_map
def jv:=@List.getElem?_eq_none_iff
def jw:=@List.filterMap_cons_none
def jx:=@Array.getElem?_eq_none
def jy:=@List.mem_of_mem_drop
def jz:=@Nat.succ_pos
def j3:=@Nat.add_assoc
def j4:=@Bool.eq_false_iff
def j5:=@List.length_filter_le
def j6:=@Array.append_assoc
def j7:=@List.length_replicate
def j8:=@Option.isSome_map
def j9:=@List.getElem_toArray
def gc:=@List.toList_toArray
def gg:=@List.drop_eq_getElem_cons
def gh:=@List.findIdx?_eq_some_iff_getElem
def gj:=@List.getElem?_inj
def gl:=@List.findIdx?_eq_none_iff
def gq:=@List.range_eq_range'
def gr:=@List.filter_eq_nil_iff
def gs:=@List.mem_range'_1
def gu:=@List.length_eq_zero_iff
def gv:=@Nat.lt_of_succ_lt_succ
def gw:=@List.mem_or_eq_of_mem_set
def gx:=@Array.getElem?_eq_some_iff
def gy:=@List.perm_append_singleton
def gz:=@List.getElem_take
def kc:=@Nat.length_repr_le_iff
def ke:=@Nat.add_sub_cancel
def kf:=@List.drop_succ_cons
def kg:=@Nat.lt_trichotomy
def kh:=@List.filter_cons_of_pos
def ki:=@List.replicate_succ'
namespace L2
open PySem PySem.Spec PyProof.Rows
def m1{P:List Value->Prop}(h:∀a,P [a])(u:List Value)(l:u.length=1):P u:=match u,l with|[_],_=>h _
def m2{P:List Value->Prop}(h:∀a b,P [a,b])(u:List Value)(l:u.length=2):P u:=match u,l with|[_,_],_=>h _ _
def m3{P:List Value->Prop}(h:∀a b c,P [a,b,c])(u:List Value)(l:u.length=3):P u:=match u,l with|[_,_,_],_=>h _ _ _
abbrev Key:=Sum Int Str
def hE:Key->Value->Bool
 |.inl k,v=>Value.isInt k v
 |.inr x,v=>Value.isStrOf x v
def rB(w:World):Key->Int
 |.inl k=>hashInt k
 |.inr x=>hashStr w x
def iq:∀{k:Key} {v:Value},hE k v=true->(∃i t,k=Sum.inl i/\v=Value.int i t)\/(∃x t,k=Sum.inr x/\v=Value.str x t)
 |.inl i,v,h=>by
  obtain⟨t,e⟩:=Value.isInt_shape (k:=i) (v:=v) h;exact .inl {i,t,U,e}
 |.inr x,v,h=>by
  obtain⟨t,e⟩:=Value.isStrOf_shape (x:=x) (v:=v) h;exact .inr {x,t,U,e}
def MC(i:Int)(t:Tok):hE (.inl i) (.int i t)=true:=by simp[hE,Value.isInt]
def E1(x:Str)(t:Tok):hE (.inr x) (.str x t)=true:=by simp[hE,Value.isStrOf]
def wM(a b:Int):decide ((Sum.inl a:Key)=Sum.inl b)=(a==b):=by
 by_cases e:a=b
 ·subst e;simp
 ·have h:¬(Sum.inl a:Key)=Sum.inl b:=λq=>e (Sum.inl.inj q)
  rw[decide_eq_false h];exact(beq_eq_false_iff_ne.mpr e).symm
def EG(a b:Str):decide ((Sum.inr a:Key)=Sum.inr b)=decide (a=b):=by
 by_cases e:a=b
 ·subst e;simp
 ·have h:¬(Sum.inr a:Key)=Sum.inr b:=λq=>e (Sum.inr.inj q)
  rw[decide_eq_false h,decide_eq_false e]
def Cj(a:Int)(b:Str):decide ((Sum.inl a:Key)=Sum.inr b)=false:=decide_eq_false (λq=>nomatch q)
def A5(a:Str)(b:Int):decide ((Sum.inr a:Key)=Sum.inl b)=false:=decide_eq_false (λq=>nomatch q)
def ag(prog:Program)(w:World):PySem.KeyKind prog w Key where
 is:=hE
 hash:=rB w
 inj:=λv a b g d=>by
  rcases iq g with⟨i,t,rfl,rfl⟩|⟨x,t,rfl,rfl⟩
  ·rcases iq d with⟨j,u,rfl,e⟩|⟨y,u,rfl,e⟩
   ·injection e with e1 _;rw[e1]
   ·exact nomatch e
  ·rcases iq d with⟨j,u,rfl,e⟩|⟨y,u,rfl,e⟩
   ·exact nomatch e
   ·injection e with e1 _;rw[e1]
 byValue:=λk v h=>by
  rcases iq h with⟨i,t,rfl,rfl⟩|⟨x,t,rfl,rfl⟩ <;> rfl
 pyHash:=λc h=>by
  rcases iq c with⟨i,t,rfl,rfl⟩|⟨x,t,rfl,rfl⟩
  ·exact wpAny_pyHash_int h
  ·exact wpAny_pyHash_str h
 eqBool:=λf c h=>by
  rcases iq f with⟨i,t,rfl,rfl⟩|⟨x,t,rfl,rfl⟩
  ·rcases iq c with⟨j,u,rfl,rfl⟩|⟨y,u,rfl,rfl⟩
   ·rw[wM]at h;exact wpAny_eqBool_int h
   ·rw[Cj]at h;exact SeqAt.EqAt.int_str i t y u _ _ _ _ h
  ·rcases iq c with⟨j,u,rfl,rfl⟩|⟨y,u,rfl,rfl⟩
   ·rw[A5]at h;exact SeqAt.EqAt.str_int x t j u _ _ _ _ h
   ·rw[EG]at h;exact wpAny_eqBool_str h
 «strs»:=λk x t v h=>by
  rcases iq h with⟨i,u,rfl,e⟩|⟨y,u,rfl,e⟩
  ·exact nomatch e
  ·injection e with e1 _
   subst e1;cases v <;> rfl
def NB(prog:Program)(w:World)(i:Int)(t:Tok):(ag prog w).is (.inl i) (.int i t)=true:=MC i t
def OK(prog:Program)(w:World)(x:Str)(t:Tok):(ag prog w).is (.inr x) (.str x t)=true:=E1 x t
inductive V where
 |aT|bl (b:Bool)|int (i:Int)|str (x:Str)|mK (b:Array UInt8)|Ck (b:UInt64)|ref (a:Addr)|ty (n:String)
 deriving DecidableEq
def RelV:V->Value->Prop
 |.aT,u=>u=Value.none
 |.bl b,u=>u=Value.bool b
 |.int i,u=>∃t,u=Value.int i t
 |.str x,u=>∃t,u=Value.str x t
 |.mK b,u=>∃t,u=Value.bytes b t
 |.Ck b,u=>∃t,u=Value.float b t
 |.ref a,u=>u=Value.ref a
 |.ty n,u=>u=Value.type n
abbrev aA:List V->List Value->Prop:=Paired RelV
theorem aA.length(r:aA xs us):xs.length=us.length:=Paired.length r
theorem aA.get:∀{xs:List V} {us:List Value} {i:Nat} {x:V},aA xs us->xs[i]?=some x->∃u,us[i]?=some u/\RelV x u
 |_,_,_,_,.nil,e=>by simp at e
 |_,_,0,_,.cons r _,e=>by simp at e;subst e;exact{_,U,r}
 |_,_,i+1,x,.cons _ t,e=>by
  obtain⟨u,h1,h2⟩:=aA.get (i:=i) (x:=x) t (by simpa using e);exact{u,by simpa using h1,h2}
theorem aA.set(r:RelV x u):∀{xs:List V} {us:List Value} (i:Nat),aA xs us->aA (xs.set i x) (us.set i u)
 |_,_,_,.nil=>.nil
 |_,_,0,.cons _ t=>.cons r t
 |_,_,i+1,.cons q t=>.cons q (aA.set r i t)
theorem aA.append:∀{xs ys:List V} {us ws:List Value},aA xs us->aA ys ws->aA (xs++ys) (us++ws)
 |_,_,_,_,.nil,s=>s
 |_,_,_,_,.cons r t,s=>.cons r (aA.append t s)
theorem aA.take:∀{xs:List V} {us:List Value} (n:Nat),aA xs us->aA (xs.take n) (us.take n)
 |_,_,0,_=>.nil
 |_,_,_+1,.nil=>.nil
 |_,_,n+1,.cons r t=>.cons r (aA.take n t)
theorem aA.drop:∀{xs:List V} {us:List Value} (n:Nat),aA xs us->aA (xs.drop n) (us.drop n)
 |_,_,0,r=>r
 |_,_,_+1,.nil=>.nil
 |_,_,n+1,.cons _ t=>aA.drop n t
def dP:Option V->Option Value->Prop
 |some v,some u=>RelV v u
 |none,none=>True
 |_,_=>False
def KV{κ:Type}:List (κ×V)->List (κ×Value)->Prop:=Paired λ(p:κ×V) (q:κ×Value)=>p.1=q.1/\RelV p.2 q.2
def kV:Key->V
 |.inl i=>.int i
 |.inr x=>.str x
inductive KD where
 |aT
 |int (i:Int)
 |tup (ks:List Key)
 |two (ks ls:List Key)
deriving DecidableEq
def bg(P:Program)(w:World):KD->Int
 |.aT=>4238894112
 |.int i=>hashInt i
 |.tup ks=>(tupleKind (ag P w)).hash ks
 |.two ks ls=>reduceHash (Builtin.Tuple.tupleHashOf [(tupleKind (ag P w)).hash ks,(tupleKind (ag P w)).hash ls])
def eu(P:Program)(w:World)(x:KD×Value×Value):DictEntry:={bg P w x.1,x.2.1,x.2.2}
inductive HO where
 |lst (xs:List V)
 |tup (xs:List V)
 |dK (kvs:List (Key×V))|dT (kvs:List (List Key×V))
 |dG (kvs:List (KD×V×V))
 |set (S:Int->Bool) (n:Nat)
 |ins (C dx:Addr) (fs:List (Str×V))
 |own (x:Addr)
 |xd (fs:List (Str×V))
 |met (f x:Addr)
 |NQ (lo hi:Int)
 |eD (o:Obj) (u:HO)
 |kA (ps:Array Value)
 |ext (φ:Heap->Prop)
abbrev Hp:=Addr->Option HO
def GK(H:Hp):KD->V->Prop
 |.aT,v=>v=.aT
 |.int i,v=>v=.int i
 |.tup ks,v=>∃b,v=.ref b/\H b=some (.tup (ks.map kV))
 |.two ks ls,v=>∃b c d,v=.ref b/\H b=some (.tup [.ref c,.ref d])/\H c=some (.tup (ks.map kV))/\H d=some (.tup (ls.map kV))
def upd(H:Hp)(a:Addr)(o:HO):Hp:=λb=>if b=a then some o else H b
def aG:upd H a o a=some o:=by unfold upd;rw[q0 rfl]
def aD(h:b≠a):upd H a o b=H b:=by unfold upd;rw[qt h]
def u6{H:Hp}{a b:Addr}{o u:HO}(h:H a=some o)(h':H b=some u)(d:o≠u):a≠b:=by
 intro e;subst e;rw[h]at h';exact d (qE h')
def cg{H:Hp}{a b:Addr}{o:HO}(h:H a=some o)(h':H b=none):a≠b:=by
 intro e;subst e;rw[h]at h';cases h'
section
variable (P:Program)(w:World)
def aQ(H:Hp)(h:Heap)(a:Addr):HO->Prop
 |.lst xs=>xs.length≤sizeLine/\∃(b:List Value) (n:Nat),aA xs b/\h.get? a=some { cls:=.type "list",data:=.seq b.toArray n }
 |.tup xs=>xs.length≤sizeLine/\∃b:List Value,aA xs b/\IsTup h a b.toArray
 |.dK kvs=>kvs.length≤sizeLine/\(a==sysModules)=false/\∃vs,KV kvs vs/\h.DictOf (ag P w) a vs
 |.dT kvs=>kvs.length≤sizeLine/\(a==sysModules)=false/\∃xs:List (List Key×Addr×Value),
   Paired (λ(p:List Key×V) (q:List Key×Addr×Value)=>p.1=q.1/\H q.2.1=some (.tup (p.1.map kV))/\RelV p.2 q.2.2) kvs xs ∧
   ∃o es ep,h.get? a=some o/\o.ExactDict/\o.data=.dict es ep/\es.toList=xs.map (entryOfKey (tupleKind (ag P w)))/\(xs.map (·.1)).Nodup
 |.dG kvs=>kvs.length≤sizeLine/\(a==sysModules)=false/\∃xs:List (KD×Value×Value),
   Paired (λ(p:KD×V×V) (q:KD×Value×Value)=>p.1=q.1/\GK H p.1 p.2.1/\RelV p.2.1 q.2.1/\RelV p.2.2 q.2.2) kvs xs ∧
   ∃o es ep,h.get? a=some o/\o.ExactDict/\o.data=.dict es ep/\es.toList=xs.map (eu P w)/\(xs.map (·.1)).Nodup
 |.set S n=>h.SetOf (intKind P w) a S n
 |.ins C dx fs=>H dx=some (.own a)/\fs.length≤1000/\dx≠a/\h.get? a=some (PySem.W.instObj C dx) ∧
   ∃mA,h.Ns1 dx mA/\(∀f,dP (fs.lookup f) (mA f))/\PySem.Within mA (fs.map (·.1))
 |.own _=>∃o,h.get? a=some o
 |.xd fs=>∃mA,h.Ns1 a mA/\∀f,dP (fs.lookup f) (mA f)
 |.NQ lo hi=>∃t u v,h.get? a=some { cls:=.type "range",data:=.fields #[.int lo t,.int hi u,.int 1 v] }
 |.eD o u=>h.get? a=some o/\aQ H h a u
 |.kA ps=>h.get? a=some { cls:=.none,data:=.fields ps }
 |.met f x=>h.get? a=some (PySem.W.methodObj (.ref f) (.ref x))
 |.ext φ=>φ h/\(∃o,h.get? a=some o)/\∀h1 h2:Heap,φ h1->(∀o,h1.get? a=some o->h2.get? a=some o)->φ h2
def dm(H:Hp)(h:Heap):Prop:=∀a o,H a=some o->aQ P w H h a o
end
section
variable {P:Program}{w:World}{H H':Hp}{h h':Heap}{a:Addr}{o:HO}
theorem aQ.lt(x:aQ P w H h a o):a<h.objs.size:=by
 cases o with
 |lst xs=>obtain⟨_,_,_,_,e⟩:=x;exact qB e
 |tup xs=>obtain⟨_,_,_,p⟩:=x;exact p.lt
 |dK kvs=>obtain⟨_,_,_,_,o,_,_,e,_⟩:=x;exact qB e
 |dT kvs=>obtain⟨_,_,_,_,o,_,_,e,_⟩:=x;exact qB e
 |dG kvs=>obtain⟨_,_,_,_,o,_,_,e,_⟩:=x;exact qB e
 |set S n=>obtain⟨o,_,_,_,e,_⟩:=x;exact qB e
 |ins C dx fs=>obtain⟨_,_,_,e,_⟩:=x;exact qB e
 |own y=>obtain⟨_,e⟩:=x;exact qB e
 |xd fs=>obtain⟨_,⟨_,_,_,e,_⟩,_⟩:=x;exact qB e
 |NQ lo hi=>obtain⟨_,_,_,e⟩:=x;exact qB e
 |eD b u=>obtain⟨e,_⟩:=x;exact qB e
 |kA ps=>exact qB (show h.get? a=some _ from x)
 |met f y=>exact qB (show h.get? a=some _ from x)
 |ext c=>obtain⟨_,⟨_,e⟩,_⟩:=x;exact qB e
theorem Paired.p9{α β:Type}{F G:α->β->Prop}:∀{l₁:List α} {l₂:List β},Paired F l₁ l₂->(∀a b,F a b->G a b)->Paired G l₁ l₂
 |_,_,.nil,_=>.nil
 |_,_,.cons r t,f=>.cons (f _ _ r) (Paired.p9 t f)
def GK.cR{k:KD}(g:GK H k v)(a:∀b xs,H b=some (.tup xs)->H' b=some (.tup xs)):GK H' k v:=by
 cases k with
 |aT=>exact g
 |int i=>exact g
 |tup ks=>obtain⟨b,e,h⟩:=g;exact{b,e,a _ _ h}
 |two ks j=>obtain⟨b,c,d,e,h1,h2,f⟩:=g;exact{b,c,d,e,a _ _ h1,a _ _ h2,a _ _ f}
theorem aQ.cR(x:aQ P w H h a o)(k:∀b u,(b=a\/H b=some (.own a))->h.get? b=some u->h'.get? b=some u)(m:∀b,H b=some (.own a)->H' b=some (.own a))(j:∀b xs,H b=some (.tup xs)->H' b=some (.tup xs)):aQ P w H' h' a o:=by
 induction o with
 |lst xs=>obtain⟨z,i,n,r,e⟩:=x;exact{z,i,n,r,k _ _ (.inl rfl) e}
 |tup xs=>obtain⟨z,i,r,g,e,c⟩:=x;exact{z,i,r,g,k _ _ (.inl rfl) e,c}
 |dK kvs=>obtain⟨z,y,vs,r,g,es,ep,e,c⟩:=x;exact{z,y,vs,r,g,es,ep,k _ _ (.inl rfl) e,c}
 |dT kvs =>
  obtain⟨z,y,xs,r,g,es,ep,e,c⟩:=x;exact{z,y,xs,Paired.p9 r λp q z=>{z.1,j _ _ z.2.1,z.2.2},g,es,ep,k _ _ (.inl rfl) e,c}
 |dG kvs =>
  obtain⟨z,y,xs,r,g,es,ep,e,c⟩:=x;exact{z,y,xs,Paired.p9 r λp q z=>{z.1,z.2.1.cR j,z.2.2},g,es,ep,k _ _ (.inl rfl) e,c}
 |set S n=>obtain⟨g,es,ep,t,e,c⟩:=x;exact{g,es,ep,t,k _ _ (.inl rfl) e,c}
 |ins C dx fs =>
  obtain⟨d,z,ne,e,mA,⟨od,es,ep,s,c⟩,r⟩:=x;exact{m _ d,z,ne,k _ _ (.inl rfl) e,mA,{od,es,ep,k _ _ (.inr d) s,c},r}
 |own y=>obtain⟨g,e⟩:=x;exact{g,k _ _ (.inl rfl) e}
 |xd fs=>obtain⟨mA,⟨od,es,ep,e,c⟩,r⟩:=x;exact{mA,{od,es,ep,k _ _ (.inl rfl) e,c},r}
 |NQ lo hi=>obtain⟨t,u,v,e⟩:=x;exact{t,u,v,k _ _ (.inl rfl) e}
 |eD g u l=>obtain⟨e,q⟩:=x;exact{k _ _ (.inl rfl) e,l q}
 |kA ps =>
  have e:h.get? a=some { cls:=.none,data:=.fields ps }:=x;show h'.get? a=some { cls:=.none,data:=.fields ps };exact k a _ (.inl rfl) e
 |met f y =>
  have e:h.get? a=some (PySem.W.methodObj (.ref f) (.ref y)):=x;show h'.get? a=some (PySem.W.methodObj (.ref f) (.ref y));exact k a _ (.inl rfl) e
 |ext A=>obtain⟨p,⟨o,e⟩,st⟩:=x;exact{st _ _ p λo q=>k _ _ (.inl rfl) q,{o,k _ _ (.inl rfl) e},st}
theorem dm.lt(x:dm P w H h)(e:H a=some o):a<h.objs.size:=(x a o e).lt
def dm.fresh(x:dm P w H h)(e:h.objs.size≤a):H a=none:=by
 cases q:H a with
 |none=>rfl
 |some u=>exact absurd (zc (x.lt q) e) (zt _)
def dm.kept(x:dm P w H h)(k:∀b u,h.get? b=some u->h'.get? b=some u):dm P w H h':=λa o e =>
 (x a o e).cR (λb u _ q=>k b u q) (λ_ q=>q) λ_ _ q=>q
def dm.laid(x:dm P w H h)(k:∀b u,h.get? b=some u->h'.get? b=some u)(f:h.objs.size≤a)(new:aQ P w (upd H a o) h' a o):dm P w (upd H a o) h':=λb u e=>by
 have hn:=x.fresh f
 by_cases d:b=a
 ·subst d;rw[aG]at e;cases e;exact new
 ·rw[aD d]at e
  exact(x b u e).cR (λc v _ q=>k c v q) (λc q=>by rw[aD (cg q hn)];exact q) λc xs q=>by rw[aD (cg q hn)];exact q
end
def Rd(H:Hp)(a:Addr)(u:HO):Prop:=H a=some u\/∃o,H a=some (.eD o u)
def Rd.of(h:H a=some u):Rd H a u:=.inl h
def Rd.ok(r:Rd H a u)(x:dm P w H h):aQ P w H h a u:=by
 rcases r with r|⟨o,r⟩
 ·exact x a u r
 ·obtain⟨_,q⟩:=x a _ r
  exact q
def K':Option HO->Prop
 |some (.lst _)=>True
 |some (.dK _)=>True
 |some (.dT _)=>True
 |some (.dG _)=>True
 |some (.set _ _)=>True
 |some (.ins _ _ _)=>True
 |some (.ext _)=>True
 |_=>False
section
variable {P:Program}{w:World}{H:Hp}{h h':Heap}{x e:Addr}{o':HO}
def dm.write(ok:dm P w H h)(g:K' (H x))(m:e=x\/H e=some (.own x))(k:∀b u,b≠e->h.get? b=some u->h'.get? b=some u)(l:∃u,h'.get? e=some u)(new:aQ P w (upd H x o') h' x o'):dm P w (upd H x o') h':=λb u q=>by
 have d:∀c y,H c=some (.own y)->c≠x:=λc y r z=>by subst z;rw[r]at g;exact g
 have f:∀c xs,H c=some (.tup xs)->c≠x:=λc xs r z=>by subst z;rw[r]at g;exact g
 by_cases j:b=x
 ·subst j;rw[aG]at q;cases q;exact new
 ·rw[aD j]at q
  by_cases a:b=e
  ·have n:H b=some (.own x):=by
    rcases m with z|z
    ·exact absurd (a.trans z) j
    ·rw[a];exact z
   rw[q]at n;cases n;obtain⟨v,o⟩:=l;exact{v,by rw[a];exact o}
  ·refine(ok b u q).cR (λc v i r=>k c v ?_ r) (λc r=>by rw[aD (d c b r)];exact r) λc xs r=>by rw[aD (f c xs r)];exact r
   rcases i with rfl|i
   ·exact a
   ·rintro rfl
    rcases m with z|z
    ·exact d c b i z
    ·rw[i]at z;cases z;exact j rfl
end
structure Un(fs ex:List Addr)(H H':Hp)(h h':Heap):Prop where
 keep:∀b o,h.get? b=some o->H b=none->b∉fs->b∉ex->h'.get? b=some o
 slot:∀b o,h.get? b=some o->H b=none->b∈fs->b∉ex->∃sl,h'.get? b=some { o with slots:=sl }
 free:∀b o,h.get? b=some o->H b=none->b∉ex->H' b=none
 there:∀b o,h.get? b=some o->b∉ex->∃o',h'.get? b=some o'
 bK:∀b xs,H b=some (.tup xs)->H' b=some (.tup xs)
 dX:∀b o u,H b=some (.eD o u)->H' b=some (.eD o u)
 dY:∀b ps,H b=some (.kA ps)->∃more,H' b=some (.kA (ps++more))
 dI:∀b o xs,h.get? b=some o->H b=some (.tup xs)->h'.get? b=some o
section
variable {fs fs' ex ex':List Addr}{H H1 H2:Hp}{h h1 h2 h':Heap}{a x e:Addr}{o:HO}
def Un.any(u:Un fs ex H H1 h h1){b:Addr}{a:Obj}(q:h.get? b=some a)(n:H b=none)(d:b∉ex):∃e,h1.get? b=some { a with slots:=e }:=by
 by_cases c:b∈fs
 ·exact u.slot b a q n c d
 ·exact{a.slots,u.keep b a q n c d}
def Un.trans(a:Un fs ex H H1 h h1)(b:Un fs ex H1 H2 h1 h2):Un fs ex H H2 h h2 where
 keep:=λc d q n g e=>b.keep c d (a.keep c d q n g e) (a.free c d q n e) g e
 slot:=λc d q n g e=>by
  obtain⟨m,f⟩:=a.slot c d q n g e;obtain⟨i,j⟩:=b.slot c _ f (a.free c d q n e) g e;exact{i,j}
 free:=λc d q n e=>by
  obtain⟨o',f⟩:=a.there c d q e;exact b.free c o' f (a.free c d q n e) e
 there:=λc d q e=>by
  obtain⟨o',f⟩:=a.there c d q e;exact b.there c o' f e
 bK:=λc xs q=>b.bK c xs (a.bK c xs q)
 dX:=λc d xs q=>b.dX c d xs (a.dX c d xs q)
 dY:=λc ps q=>by
  obtain⟨k,f⟩:=a.dY c ps q;obtain⟨l,j⟩:=b.dY c _ f;exact{k++l,by rw[j,j6]}
 dI:=λc d xs q n=>b.dI c d xs (a.dI c d xs q n) (a.bK c xs n)
def Un.kept(k:∀b u,h.get? b=some u->h'.get? b=some u):Un fs ex H H h h' :=
 {λb a q _ _ _=>k b a q,λb a q _ _ _=>{a.slots,k b a q},λ_ _ _ n _=>n,λb a q _=>{a,k b a q},λ_ _ q=>q,λ_ _ _ q=>q,λ_ ps q=>{#[],by rw[q];simp},λb a _ q _=>k b a q}
def Un.refl:Un fs ex H H h h:=Un.kept λ_ _ q=>q
def Un.laid(k:∀b u,h.get? b=some u->h'.get? b=some u)(c:h.objs.size≤a)(hn:H a=none):Un fs ex H (upd H a o) h h' where
 keep:=λb u q _ _ _=>k b u q
 slot:=λb u q _ _ _=>{u.slots,k b u q}
 free:=λb u q n _=>by rw[aD (qd (zc (qB q) c))];exact n
 there:=λb u q _=>{u,k b u q}
 bK:=λb xs q=>by rw[aD (cg q hn)];exact q
 dX:=λb u xs q=>by rw[aD (cg q hn)];exact q
 dY:=λb ps q=>{#[],by rw[aD (cg q hn),q];simp}
 dI:=λb u _ q _=>k b u q
def Un.write(c:K' (H x))(i:e=x\/H e=some (.own x))(k:∀b u,b≠e->h.get? b=some u->h'.get? b=some u)(f:∃u,h'.get? e=some u):Un fs ex H (upd H x o) h h':=by
 have g:∀b,H b=none->b≠x:=λb n z=>by subst z;rw[n]at c;exact c
 have j:∀b,H b=none->b≠e:=λb n z=>by
  subst z;rcases i with r|r
  ·exact g b n r
  ·rw[n]at r;cases r
 have d:∀b u,H b=some u->¬K' (some u)->b≠x:=λb u q nm z=>by subst z;rw[q]at c;exact nm c
 refine{λb u q n _ _=>k b u (j b n) q,λb u q n _ _=>{u.slots,k b u (j b n) q},λb u q n _=>by rw[aD (g b n)];exact n,λb u q _=>?_,
  λb xs q=>by rw[aD (d b _ q λz=>z)];exact q,λb u xs q=>by rw[aD (d b _ q λz=>z)];exact q,λb ps q=>{#[],by rw[aD (d b _ q λz=>z),q];simp},λb u xs q n=>k b u (λz=>by
   subst z;rcases i with r|r
   ·exact d b _ n (λz=>z) r
   ·rw[n]at r;cases r) q}
 by_cases a:b=e
 ·subst a;exact f
 ·exact{u,k b u a q}
end
def Mm(h:Heap)(H:Hp):List Addr:=(List.range h.objs.size).filter λa=>(H a).isSome
def hB(h:Heap)(H:Hp):Heap:=PySem.W.hideAll h (Mm h H)
def Qm(h:Heap)(H:Hp):(hB h H).objs.size=h.objs.size:=PySem.W.hideAll_size _ _
def Nf(e:h.get? b=some o)(n:H b=none):(hB h H).get? b=some o :=
 PySem.W.hideAll_get _ e λa=>by
  have q:(H b).isSome=true:=(w6.mp a).2;rw[n]at q;simp at q
def PP(e:(hB h H).get? b=some o):h.get? b=some o/\H b=none:=by
 have a:h.get? b=some o:=PySem.W.of_hideAll (Mm h H) e;refine{a,?_}
 cases q:H b with
 |none=>rfl
 |some x =>
  have c:b∈Mm h H:=List.mem_filter.mpr {List.mem_range.mpr (qB a),by simp[q]};have z:(hB h H).get? b=none:=PySem.W.hideAll_none (Mm h H) c;rw[z]at e;cases e
structure Mod(K:PySem.W.Frag)(mg:Str->Option Value)(base:Heap):Prop where
 uV:K.In base
 glob:base.Ns mainGlobals mg
 blt:∃mb,base.Ns builtinsNs mb/\∀x:Str,x≠"__name__"->mb x=bootBuiltins x
 nolimit:base.NoLimit
structure Cx where
 prog:Program
 w:World
 K:PySem.W.Frag
 mg:Str->Option Value
 base:Heap
 A:Around
 N:List Str
 s₀:Shared
 H₀:Hp
 env:Env
 outer:List Env
 stack:List Env
 ex:List Addr
 fn:Str->Bool
 calm:Bool
 pn:List (Addr×Obj)
 xe:Value->Shared->Prop
def ib(l:List Env):List Addr:=l.filterMap (·.frame)
abbrev Cx.fs(X:Cx):List Addr:=ib X.outer
def Mi(a:Scope)(x:Str):Prop:=a.names.lookup x=some .local\/a.names.lookup x=some .cell\/a.names.lookup x=some .free
def Loc(a:Scope)(x:Str):Prop:=a.names.lookup x=some .local\/a.names.lookup x=some .cell
def Look(env:Env)(h:Heap)(m:Str->Option Value)(x:Str)(u:Value):Prop :=
 (env.kindOf x=some .local/\m x=some u)\/((env.kindOf x=some .cell\/env.kindOf x=some .free)/\∃c,env.cells.lookup x=some c/\h.IsCell c (some u))
structure Cx.Ok(X:Cx):Prop where
 mod:Mod X.K X.mg X.base
 kind:X.env.scope.kind=.function
 glob:X.env.globals=mainGlobals
 blt:X.env.builtins=builtinsNs
 above:X.s₀.heap.objs.size≤X.env.locals
 inj:∀x y c,X.env.cells.lookup x=some c->X.env.cells.lookup y=some c->x=y
 has:∀x,(X.env.kindOf x=some .cell\/X.env.kindOf x=some .free)->∃c,X.env.cells.lookup x=some c
 E7:∀x c,X.fn x=true->X.env.cells.lookup x=some c->X.s₀.heap.objs.size≤c
 hd:X.calm=true->X.A.handled=none
 frames:X.A.frames=some X.stack
 Mc:X.stack=X.outer\/(X.stack=X.env::X.outer/\X.env.frame=some X.env.locals)
 RC:∀b∈X.ex,b≠X.env.locals/\∀x c,X.env.cells.lookup x=some c->c≠b
 bs:∀b o,X.base.get? b=some o->X.s₀.heap.get? b=some o/\(X.H₀ b=none\/∃xs,X.H₀ b=some (.tup xs))
 ro:X.base.objs.size≤X.s₀.heap.objs.size
 nM:∀b o,X.base.get? b=some o->b∉X.ex
 sE:∀b∈X.ex,b∉X.fs
 fQ:X.s₀.heap.FunFrames X.base X.outer
 uv:∀b∈X.fs,X.H₀ b=none
structure Inv(X:Cx)(pins:List (Addr×Obj))(σ:List (Option V))(H:Hp)(s:Shared):Prop where
 ok:X.Ok
 os:s.os=X.s₀.os
 bare:AllBare s.gens
 base:Un X.fs X.ex X.H₀ H X.s₀.heap s.heap
 loc:∃m,s.heap.Ns X.env.locals m/\∀(i:Nat) (x:Str) (v:V),X.N[i]?=some x->σ[i]?=some (some v)->Mi X.env.scope x->∃u,RelV v u/\Look X.env s.heap m x u
 cell:∀x c,X.env.cells.lookup x=some c->∃v,s.heap.IsCell c v
 free:H X.env.locals=none
 dR:∀x c,X.env.cells.lookup x=some c->H c=none
 pin:∀p∈X.pn++pins,s.heap.get? p.1=some p.2/\H p.1=none/\p.1≠X.env.locals/\p.1∉X.fs/\∀v,p.2.data≠.cell v
 a6:dm X.prog X.w H s.heap
 len:σ.length=X.N.length
section
variable {X:Cx}{pins:List (Addr×Obj)}{σ:List (Option V)}{H H':Hp}{s:Shared}{h':Heap}
def Cx.Ok.O9(ok:X.Ok)(e:X.base.get? b=some o):b∉X.fs:=λa=>by
 have:=(ok.fQ.mem a).1;rw[e]at this;cases this
theorem Inv.bs(I:Inv X pins σ H s):∀b o,X.base.get? b=some o->s.heap.get? b=some o/\(H b=none\/∃xs,H b=some (.tup xs)):=λb o e =>
 match I.ok.bs b o e with
 |⟨h1,.inl h2⟩=>{I.base.keep b o h1 h2 (I.ok.O9 e) (I.ok.nM b o e),.inl (I.base.free b o h1 h2 (I.ok.nM b o e))}
 |⟨h1,.inr ⟨xs,h2⟩⟩=>{I.base.dI b o xs h1 h2,.inr {xs,I.base.bK b xs h2}}
def Inv.bk(I:Inv X pins σ H s):∀b o,X.base.get? b=some o->s.heap.get? b=some o:=λb o e=>(I.bs b o e).1
theorem Inv.mod(I:Inv X pins σ H s):Mod X.K X.mg X.base:=I.ok.mod
def Inv.f5(I:Inv X pins σ H s):X.K.In s.heap:=I.ok.mod.uV.keeps I.bk
theorem Inv.lt(I:Inv X pins σ H s):X.env.locals<↑s:=let⟨_,hn,_⟩:=I.loc;hn.lt
def Inv.sz(I:Inv X pins σ H s):X.s₀.heap.objs.size≤↑s:=qg I.ok.above (qj I.lt)
def Inv.rA(I:Inv X pins σ H s){a:Addr}(h:↑s≤a):a∉X.fs:=λb=>by
 obtain⟨_,o,c,_⟩:=I.ok.fQ.mem b;exact absurd (zc (qB c) (qg I.sz h)) (zt _)
def Inv.AG(I:Inv X pins σ H s):∀x c,X.env.cells.lookup x=some c->c≠X.env.locals:=λx c e z=>by
 obtain⟨v,o,d,hd⟩:=I.cell x c e;obtain⟨m,⟨o',es,ep,a,b,_⟩,_⟩:=I.loc;rw[z,a]at d;cases d;rw[b]at hd;cases hd
theorem Inv.fQ(I:Inv X pins σ H s):s.heap.FunFrames X.base X.outer:=by
 have all:∀(l:List Env),(∀b∈ib l,b∈X.fs)->X.s₀.heap.FunFrames X.base l->s.heap.FunFrames X.base l:=by
  intro l
  induction l with
  |nil=>intro _ _;trivial
  |cons env r f =>
   intro hs i;obtain⟨g,⟨L,o,hf,hn,h,hd⟩,d⟩:=i;have c:L∈X.fs:=hs L (by unfold ib;rw[yo,hf];exact ql);obtain⟨j,e⟩:=I.base.slot L o h (I.ok.uv L c) c λz=>I.ok.sE L z c;exact{g,{L,_,hf,hn,e,hd},f (λb a=>hs b (by unfold ib;rw[yo,hf];exact qo _ a)) d}
 exact all X.outer (λ_ a=>a) I.ok.fQ
theorem Inv.stack(I:Inv X pins σ H s):s.heap.FunFrames X.base X.stack:=by
 rcases I.ok.Mc with e|⟨e,hf⟩
 ·rw[e];exact I.fQ
 ·rw[e]
  obtain⟨m,hn,_⟩:=I.loc;refine .cons (by rw[I.ok.kind];decide) hf hn ?_ I.fQ;exact Heap.get?_none_of_le (qg I.ok.ro I.ok.above)
def Inv.gJ(I:Inv X pins σ H s):∀b∈ib X.stack,b∈X.env.locals::X.fs:=λb a=>by
 rcases I.ok.Mc with e|⟨e,hf⟩
 ·rw[e]at a;exact qo _ a
 ·rw[e]at a
  unfold ib at a;rw[yo,hf]at a;exact a
def Inv.lx(I:Inv X pins σ H s):∀b∈ib X.stack,H b=none:=λb a=>by
 rcases qv.mp (I.gJ b a) with e|a
 ·rw[e];exact I.free
 ·obtain⟨_,o,c,_⟩:=I.ok.fQ.mem a
  exact I.base.free b o c (I.ok.uv b a) λz=>I.ok.sE b z a
def Inv.step{g':Array GenState}{t':Nat}{d':Drawn}{ch:List Addr}(I:Inv X pins σ H s)(f:∀b∈ch,(b∈X.ex\/X.s₀.heap.objs.size≤b)/\b≠X.env.locals/\(∀x c,X.env.cells.lookup x=some c->c≠b)/\∀p∈X.pn++pins,p.1≠b)(keep:∀b o,b≠X.env.locals->b∉X.fs->b∉ch->s.heap.get? b=some o->H b=none->h'.get? b=some o)(slot:∀b o,b≠X.env.locals->b∈X.fs->b∉ch->s.heap.get? b=some o->H b=none->∃G,h'.get? b=some { o with slots:=G })(free:∀b o,b∉ch->s.heap.get? b=some o->H b=none->H' b=none)(there:∀b o,b∉ch->s.heap.get? b=some o->∃o',h'.get? b=some o')(bK:∀b xs,H b=some (.tup xs)->H' b=some (.tup xs))(dX:∀b o u,H b=some (.eD o u)->H' b=some (.eD o u))(dY:∀b ps,H b=some (.kA ps)->∃B,H' b=some (.kA (ps++B)))(dI:∀b o xs,s.heap.get? b=some o->H b=some (.tup xs)->h'.get? b=some o)(M:∀m,s.heap.Ns X.env.locals m->h'.Ns X.env.locals m)(F:dm X.prog X.w H' h')(O:AllBare g') :
  Inv X pins σ H' { s with heap:=h',gens:=g',drawn:=d',toks:=t' }:=by
 have C:∀b o,X.s₀.heap.get? b=some o->b≠X.env.locals:=λb o e=>qd (zc (qB e) I.ok.above)
 have j:∀b o,X.s₀.heap.get? b=some o->b∉X.ex->b∉ch:=λb o e a y=>by
  rcases(f b y).1 with z|z
  ·exact a z
  ·exact absurd (zc (qB e) z) (zt _)
 have h:∀x c,X.env.cells.lookup x=some c->∀v,s.heap.IsCell c v->h'.IsCell c v:=λx c e v ⟨o,A,hd⟩=>by
  have g:c∉ch:=λz=>(f c z).2.2.1 x c e rfl
  by_cases J:c∈X.fs
  ·obtain⟨G,q⟩:=slot c o (I.AG x c e) J g A (I.dR x c e)
   exact{_,q,hd}
  ·exact{o,keep c o (I.AG x c e) J g A (I.dR x c e),hd}
 refine{I.ok,I.os,O,{λb o e n y a=>?_,λb o e n y a=>?_,λb o e n a=>?_,λb o e a=>?_,λb xs e=>bK b xs (I.base.bK b xs e),λb o xs e=>dX b o xs (I.base.dX b o xs e),λb ps e=>?_,λb o xs e n=>dI b o xs (I.base.dI b o xs e n) (I.base.bK b xs n)},?_,λx c e=>?_,?_,λx c e=>?_,λp K=>?_,F,I.len}
 ·exact keep b o (C b o e) y (j b o e a) (I.base.keep b o e n y a) (I.base.free b o e n a)
 ·obtain⟨G,t⟩:=I.base.slot b o e n y a
  obtain⟨E,D⟩:=slot b _ (C b o e) y (j b o e a) t (I.base.free b o e n a);exact{E,D}
 ·obtain⟨o',t⟩:=I.base.there b o e a
  exact free b o' (j b o e a) t (I.base.free b o e n a)
 ·obtain⟨o',t⟩:=I.base.there b o e a
  exact there b o' (j b o e a) t
 ·obtain⟨P,t⟩:=I.base.dY b ps e
  obtain⟨Q,D⟩:=dY b _ t;exact{P++Q,by rw[D,j6]}
 ·obtain⟨m,hn,N⟩:=I.loc
  refine{m,M m hn,λi x v t D R=>?_};obtain⟨u,r,l⟩:=N i x v t D R;refine{u,r,?_};rcases l with l|⟨k,c,e,z⟩
  ·exact .inl l
  ·exact .inr ⟨k,c,e,h x c e _ z⟩
 ·obtain⟨v,z⟩:=I.cell x c e
  exact{v,h x c e v z}
 ·obtain⟨m,⟨o,_,_,A,_⟩,_⟩:=I.loc
  exact free _ o (λz=>(f _ z).2.1 rfl) A I.free
 ·obtain⟨v,o,A,hd⟩:=I.cell x c e
  exact free c o (λz=>(f c z).2.2.1 x c e rfl) A (I.dR x c e)
 ·obtain⟨e,n,ne,L,d⟩:=I.pin p K
  have g:p.1∉ch:=λz=>(f p.1 z).2.2.2 p K rfl;exact{keep p.1 p.2 ne L g e n,free p.1 p.2 g e n,ne,L,d}
def Inv.un(I:Inv X pins σ H s)(u:Un X.fs [] H H' s.heap h')(c:dm X.prog X.w H' h'):Inv X pins σ H' { s with heap:=h',toks:=t' }:=by
 obtain⟨m,⟨o,es,ep,h,r⟩,_⟩:=id I.loc;obtain⟨l,k⟩:=u.any h I.free (by simp)
 exact I.step (g':=s.gens) (d':=s.drawn) (ch:=[]) (λ_ z=>nomatch z) (λb o _ f _ e n=>u.keep b o e n f (by simp)) (λb o _ f _ e n=>u.slot b o e n f (by simp)) (λb o _ e n=>u.free b o e n (by simp)) (λb o _ e=>u.there b o e (by simp)) u.bK u.dX u.dY u.dI (λp j=>by
  obtain⟨o',d,g,a,i⟩:=j;rw[h]at a;cases a
  exact{_,d,g,k,i}) c I.bare
def Inv.call(I:Inv X pins σ H s)(u:Un (ib X.stack) ch H H' s.heap h')(g:dm X.prog X.w H' h')(l:AllBare g')(d:∀b∈ch,(b∈X.ex\/X.s₀.heap.objs.size≤b)/\b≠X.env.locals/\(∀x c,X.env.cells.lookup x=some c->c≠b)/\∀p∈X.pn++pins,p.1≠b) :
  Inv X pins σ H' { s with heap:=h',gens:=g',drawn:=d',toks:=t' }:=by
 obtain⟨m,⟨o,es,ep,k,r⟩,_⟩:=id I.loc;obtain⟨y,j⟩:=u.any k I.free λz=>(d _ z).2.1 rfl
 exact I.step (ch:=ch) d (λb o j q a e n=>u.keep b o e n (λz=>(qv.mp (I.gJ b z)).elim j q) a) (λb o _ _ a e n=>u.any e n a) (λb o a e n=>u.free b o e n a) (λb o a e=>u.there b o e a) u.bK u.dX u.dY u.dI (λA v=>by
  obtain⟨o',h,i,f,t⟩:=v;rw[k]at f;cases f
  exact{_,h,i,j,t}) g l
def Inv.turned(I:Inv X pins σ H s)(k:∀b o,b≠it->s.heap.get? b=some o->h'.get? b=some o)(hn:H it=none)(f:it≠X.env.locals)(h1:it∈X.ex\/X.s₀.heap.objs.size≤it)(h2:∀x c,X.env.cells.lookup x=some c->c≠it)(j:∀p∈X.pn++pins,p.1≠it):Inv X pins σ H { s with heap:=h',toks:=t' }:=by
 have d:∀b u,H b=some u->b≠it:=λb u e z=>by rw[z,hn]at e;cases e
 refine I.step (g':=s.gens) (d':=s.drawn) (ch:=[it]) (λb g=>?_) (λb o _ _ a e _=>k b o (λz=>a (by simp[z])) e) (λb o _ _ a e _=>{o.slots,k b o (λz=>a (by simp[z])) e}) (λ_ _ _ _ n=>n)
  (λb o a e=>{o,k b o (λz=>a (by simp[z])) e}) (λ_ _ e=>e) (λ_ _ _ e=>e) (λb ps e=>{#[],by rw[e];simp}) (λb o xs e n=>k b o (d b _ n) e) (λm h=>?_) (λb u e=>?_) I.bare
 ·have e:b=it:=by simpa using g
  subst e;exact{h1,f,h2,j}
 ·obtain⟨o,es,ep,i,r⟩:=h
  exact{o,es,ep,k _ o (Ne.symm f) i,r}
 ·refine(I.a6 b u e).cR (λc v a q=>k c v ?_ q) (λ_ q=>q) λ_ _ q=>q
  rcases a with z|z
  ·rw[z];exact d b u e
  ·exact d c _ z
def Inv.tok(I:Inv X pins σ H s)(t:Nat):Inv X pins σ H { s with toks:=t }:=I.un (h':=s.heap) (t':=t) Un.refl I.a6
theorem Inv.kept(I:Inv X pins σ H s)(k:∀b u,s.heap.get? b=some u->h'.get? b=some u):Inv X pins σ H { s with heap:=h',toks:=t' }:=I.un (Un.kept k) (I.a6.kept k)
theorem Inv.laid{a:Addr}{o:HO}{t':Nat}(I:Inv X pins σ H s)(k:∀b u,s.heap.get? b=some u->h'.get? b=some u)(c:↑s≤a)(new:aQ X.prog X.w (upd H a o) h' a o) :
  Inv X pins σ (upd H a o) { s with heap:=h',toks:=t' }:=I.un (Un.laid k c (I.a6.fresh c)) (I.a6.laid k c new)
theorem Inv.write(I:Inv X pins σ H s)(c:K' (H x))(d:e=x\/H e=some (.own x))(k:∀b u,b≠e->s.heap.get? b=some u->h'.get? b=some u)(a:∃u,h'.get? e=some u)(new:aQ X.prog X.w (upd H x o) h' x o):Inv X pins σ (upd H x o) { s with heap:=h',toks:=t' }:=I.un (Un.write c d k a) (I.a6.write c d k a new)
def Inv.weak(I:Inv X pins σ H s)(e:σ'.length=σ.length)(w:∀(i:Nat) v,σ'[i]?=some (some v)->σ[i]?=some (some v)):Inv X pins σ' H s :=
 {I.ok,I.os,I.bare,I.base,let⟨m,hn,a⟩:=I.loc;{m,hn,λi x v b c d=>a i x v b (w i v c) d},I.cell,I.free,I.dR,I.pin,I.a6,e.trans I.len}
def Inv.gF(I:Inv X pins σ H s)(h:∀p∈pins',s.heap.get? p.1=some p.2/\H p.1=none/\p.1≠X.env.locals/\p.1∉X.fs/\∀v,p.2.data≠.cell v):Inv X pins' σ H s :=
 {I.ok,I.os,I.bare,I.base,I.loc,I.cell,I.free,I.dR,λp a=>(qy.mp a).elim (λz=>I.pin p (va _ z)) (h p),I.a6,I.len}
def Le{N:List Str}(d:N.Nodup){i j:Nat}{x:Str}(a:N[i]?=some x)(b:N[j]?=some x):i=j:=by
 obtain⟨h1,c⟩:=qw.mp a;obtain⟨h2,e⟩:=qw.mp b;exact(List.getElem_inj d).mp (c.trans e.symm)
def FR(I:Inv X pins σ H s)(hN:X.N.Nodup)(hi:X.N[i]?=some x)(t:Loc X.env.scope x)(r:RelV v u)(h:∀s',Inv X pins (σ.set i (some v)) H s'->(∃a,Heap.SameBut a s.heap s'.heap/\(a=X.env.locals\/X.env.cells.lookup x=some a))->Q Unit.unit s')(hf:X.fn x=true\/X.env.scope.names.lookup x=some .local:=by first|exact .inl rfl|exact .inr rfl|assumption):wpAny M A (storeName X.env x u) Q E s:=by
 obtain⟨m,hn,hl⟩:=id I.loc
 have R:(X.env.scope.kind==.class||(X.env.scope.kind==.module&&X.env.locals != X.env.globals))=false:=by rw[I.ok.kind];rfl
 have F:i<σ.length:=by rw[I.len];exact(qw.mp hi).1
 have AG:=I.AG
 have f:∀{a:Addr} {h':Heap},(∃o,s.heap.get? a=some o/\H a=none)->Heap.SameBut a s.heap h'->dm X.prog X.w H h':=λ{a h'} ha hs b ob e=>by
  obtain⟨_,_,B⟩:=ha;refine(I.a6 b ob e).cR (λc S l q=>(hs.2 c ?_).trans q) (λ_ q=>q) λ_ _ q=>q;rintro rfl;rcases l with rfl|l
  ·rw[B]at e;cases e
  ·rw[B]at l;cases l
 rcases t with hk|hk
 ·refine wpAny_storeName_local hk hn (λh' hn' hs=>?_) R
  obtain⟨oL,_,_,W,_⟩:=id hn;refine h _ {I.ok,I.os,I.bare,{λb o e n G t=>?_,λb o e n G t=>?_,I.base.free,λb o e t=>?_,I.base.bK,I.base.dX,I.base.dY,λb o xs e n=>(hs.2 b (Nat.ne_of_lt (Nat.lt_of_lt_of_le (qB e) I.ok.above))).trans (I.base.dI b o xs e n)},{_,hn',λj y U g D e3=>?_},λy c e=>?_,I.free,I.dR,λp Y=>?_,f {oL,W,I.free} hs,by simpa using I.len} {_,hs,.inl rfl}
  ·exact(hs.2 b (qd (zc (qB e) I.ok.above))).trans (I.base.keep b o e n G t)
  ·obtain⟨sl,g⟩:=I.base.slot b o e n G t
   exact{sl,(hs.2 b (qd (zc (qB e) I.ok.above))).trans g}
  ·obtain⟨o',g⟩:=I.base.there b o e t
   exact{o',(hs.2 b (qd (zc (qB e) I.ok.above))).trans g}
  ·by_cases J:j=i
   ·subst J
    rw[hi]at g;cases g;rw[yq F]at D;cases D;exact{u,r,.inl {hk,by simp}}
   ·rw[vj (Ne.symm J)]at D
    obtain⟨u',r',q⟩:=hl j y U g D e3;refine{u',r',?_};rcases q with⟨k,e⟩|⟨k,c,e,z⟩
    ·refine .inl ⟨k,?_⟩
     have:y≠x:=λe=>J (Le hN g (e▸hi))
     simp[this,e]
    ·exact .inr {k,c,e,z.sameBut hs (AG y c e)}
  ·obtain⟨S,z⟩:=I.cell y c e
   exact{S,z.sameBut hs (AG y c e)}
  ·obtain⟨e,n,ne,Z,d⟩:=I.pin p Y
   exact{(hs.2 p.1 ne).trans e,n,ne,Z,d}
 ·have C:X.fn x=true:=by
   rcases hf with z|z
   ·exact z
   ·rw[z]at hk;cases hk
  obtain⟨c,l⟩:=I.ok.has x (.inl hk);obtain⟨S,z⟩:=I.cell x c l;refine wpAny_storeName_cell I.ok.kind hk l z (λh' L hs=>?_);obtain⟨oc,O,P⟩:=id z;refine h { s with heap:=h' } {I.ok,I.os,I.bare,{λb o e n G t=>?_,λb o e n G t=>?_,I.base.free,λb o e t=>?_,I.base.bK,I.base.dX,I.base.dY,λb o xs e n=>(hs.2 b (Nat.ne_of_lt (Nat.lt_of_lt_of_le (qB e) (I.ok.E7 x c C l)))).trans (I.base.dI b o xs e n)},{m,hn.sameBut hs (Ne.symm (AG x c l)),λj y U g D e3=>?_},λy T e=>?_,I.free,I.dR,λp Y=>?_,f {oc,O,I.dR x c l} hs,by simpa using I.len} {c,hs,.inr l}
  ·exact(hs.2 b (qd (zc (qB e) (I.ok.E7 x c C l)))).trans (I.base.keep b o e n G t)
  ·obtain⟨sl,g⟩:=I.base.slot b o e n G t
   exact{sl,(hs.2 b (qd (zc (qB e) (I.ok.E7 x c C l)))).trans g}
  ·obtain⟨o',g⟩:=I.base.there b o e t
   exact{o',(hs.2 b (qd (zc (qB e) (I.ok.E7 x c C l)))).trans g}
  ·by_cases J:j=i
   ·subst J
    rw[hi]at g;cases g;rw[yq F]at D;cases D;exact{u,r,.inr {.inl hk,c,l,L}}
   ·rw[vj (Ne.symm J)]at D
    obtain⟨u',r',q⟩:=hl j y U g D e3;refine{u',r',?_};rcases q with q|⟨k,T,e,z'⟩
    ·exact .inl q
    ·refine .inr ⟨k,T,e,z'.sameBut hs ?_⟩
     rintro rfl;exact J (Le hN g (I.ok.inj _ _ _ e l▸hi))
  ·by_cases K:T=c
   ·subst K;exact{_,L}
   ·obtain⟨w2,z2⟩:=I.cell y T e
    exact{w2,z2.sameBut hs K}
  ·obtain⟨e,n,ne,Z,d⟩:=I.pin p Y
   refine{(hs.2 p.1 ?_).trans e,n,ne,Z,d};intro q;rw[q,O]at e;have q':oc=p.2:=qE e;exact d S (by rw[←q'];exact P)
def FU(I:Inv X pins σ H s)(c:X.N.Nodup)(hi:X.N[i]?=some x)(b:Loc X.env.scope x)(r:RelV v u)(h:∀s',Inv X pins (σ.set i (some v)) H s'->Q Unit.unit s')(hf:X.fn x=true\/X.env.scope.names.lookup x=some .local:=by first|exact .inl rfl|exact .inr rfl|assumption):wpAny M A (storeName X.env x u) Q E s :=
 FR I c hi b r (λs' a _=>h s' a) hf
def Inv.lR(I:Inv X pins σ H s)(f:s'.os=s.os)(u:Un (ib X.stack) ch H H' s.heap s'.heap)(d:dm X.prog X.w H' s'.heap)(g:AllBare s'.gens)(a:∀b∈ch,(b∈X.ex\/X.s₀.heap.objs.size≤b)/\b≠X.env.locals/\(∀x c,X.env.cells.lookup x=some c->c≠b)/\∀p∈X.pn++pins,p.1≠b):Inv X pins σ H' s':=by
 obtain⟨h',g',d',t',o'⟩:=s';have e:o'=s.os:=f;subst e;exact I.call (g':=g') (t':=t') (d':=d') u d g a
end
abbrev XK:=Value->Option Addr->Hp->Prop
abbrev St:=List (Option V)
abbrev VK:=V->Hp->Prop
abbrev TE:=St->Hp->VK->Prop
abbrev TT:=St->Hp->(Bool->Hp->Prop)->Prop
abbrev TA:=St->Hp->(List V->Hp->Prop)->Prop
structure Ends where
 nx:St->Hp->Prop
 rt:VK
 bk:St->Hp->Prop:=λ_ _=>False
 ct:St->Hp->Prop:=λ_ _=>False
abbrev TS:=Ends->St->Hp->Prop
def EP(X:Cx)(pins:List (Addr×Obj))(σ:St)(Q:VK)(u:Value)(s':Shared):Prop:=∃v H',Inv X pins σ H' s'/\RelV v u/\Q v H'
def TP(X:Cx)(pins:List (Addr×Obj))(σ:St)(Q:Bool->Hp->Prop)(b:Bool)(s':Shared):Prop:=∃H',Inv X pins σ H' s'/\Q b H'
def AP(X:Cx)(pins:List (Addr×Obj))(σ:St)(Q:List V->Hp->Prop)(us:List Value)(s':Shared):Prop:=∃vs H',Inv X pins σ H' s'/\aA vs us/\Q vs H'
def SP(X:Cx)(pins:List (Addr×Obj))(D:Ends)(f:Flow)(s':Shared):Prop :=
 match f with
 |.next=>∃σ' H',Inv X pins σ' H' s'/\D.nx σ' H'
 |.brk=>∃σ' H',Inv X pins σ' H' s'/\D.bk σ' H'
 |.cont=>∃σ' H',Inv X pins σ' H' s'/\D.ct σ' H'
 |.ret u=>∃v σ' H',Inv X pins σ' H' s'/\RelV v u/\D.rt v H'
def Rn(X:Cx)(e:Expr)(t:TE):Prop :=
 ∀(pins:List (Addr×Obj)) (s:Shared) (σ:St) (H:Hp) (Q:VK),Inv X pins σ H s->t σ H Q->wpAny (model X.prog X.w) X.A (eval e X.env) (EP X pins σ Q) X.xe s
structure PE(X:Cx)(e:Expr)(t:TE):Prop where run:Rn X e t
instance Sd{X:Cx}{e:Expr}{t:TE}:CoeFun (PE X e t) λ_=>Rn X e t:={PE.run}
def Rt(X:Cx)(e:Expr)(t:TT):Prop :=
 ∀(pins:List (Addr×Obj)) (s:Shared) (σ:St) (H:Hp) (Q:Bool->Hp->Prop),Inv X pins σ H s->t σ H Q->wpAny (model X.prog X.w) X.A (isTrue e X.env (eval e X.env)) (TP X pins σ Q) X.xe s
structure PT(X:Cx)(e:Expr)(t:TT):Prop where run:Rt X e t
instance RT{X:Cx}{e:Expr}{t:TT}:CoeFun (PT X e t) λ_=>Rt X e t:={PT.run}
def Rx(X:Cx)(e:Expr)(t:TT):Prop :=
 ∀(a:Sem Value) (pins:List (Addr×Obj)) (s:Shared) (σ:St) (H:Hp) (Q:Bool->Hp->Prop),Inv X pins σ H s->t σ H Q->wpAny (model X.prog X.w) X.A (isTrue e X.env a) (TP X pins σ Q) X.xe s
structure PW(X:Cx)(e:Expr)(t:TT):Prop where run:Rx X e t
instance RJ{X:Cx}{e:Expr}{t:TT}:CoeFun (PW X e t) λ_=>Rx X e t:={PW.run}
def PW.pt{t:TT}(h:PW X e t):PT X e t:={h _}
def RA(X:Cx)(es:List Expr)(t:TA):Prop :=
 ∀(pos:Pos) (pins:List (Addr×Obj)) (s:Shared) (σ:St) (H:Hp) (Q:List V->Hp->Prop),Inv X pins σ H s->t σ H Q->wpAny (model X.prog X.w) X.A (spliced (backTo pos (starEach es X.env))) (AP X pins σ Q) X.xe s
structure PA(X:Cx)(es:List Expr)(t:TA):Prop where run:RA X es t
instance RU{X:Cx}{es:List Expr}{t:TA}:CoeFun (PA X es t) λ_=>RA X es t:={PA.run}
def Ro(X:Cx)(st:Stmt)(t:TS):Prop :=
 ∀(pins:List (Addr×Obj)) (s:Shared) (σ:St) (H:Hp) (D:Ends),Inv X pins σ H s->t D σ H->wpAny (model X.prog X.w) X.A (exec st X.env) (SP X pins D) X.xe s
structure PS(X:Cx)(st:Stmt)(t:TS):Prop where run:Ro X st t
instance Sg{X:Cx}{st:Stmt}{t:TS}:CoeFun (PS X st t) λ_=>Ro X st t:={PS.run}
def Fz(X:Cx)(st:List Stmt)(t:TS):Prop :=
 ∀(pins:List (Addr×Obj)) (s:Shared) (σ:St) (H:Hp) (D:Ends),Inv X pins σ H s->t D σ H->wpAny (model X.prog X.w) X.A (execs st X.env) (SP X pins D) X.xe s
structure kr(X:Cx)(st:List Stmt)(t:TS):Prop where run:Fz X st t
instance Rw{X:Cx}{st:List Stmt}{t:TS}:CoeFun (kr X st t) λ_=>Fz X st t:={kr.run}
def a8{α:Type}{t:Sem α}{Q b:α->Shared->Prop}{M:Model}{A:Around}{E:Value->Shared->Prop}{s:Shared}(h:wpAny M A t Q E s)(c:∀a s,Q a s->b a s):wpAny M A t b E s:=qH h c λ_ _ x=>x
section
variable {X:Cx}
inductive pI(i:Nat)(σ:St)(H:Hp)(Q:VK):Prop
 |mk(v:_)(_:σ[i]?=some (some v))(_:Q v H)
def tC(v:V):TE:=λ_ H Q=>Q v H
def Dv(j:X.N[i]?=some x)(k:Mi X.env.scope x)(hd:(x==("__debug__":Str))=false:=by decide)(f:(x==("__classdict__":Str))=false:=by decide):PE X (.Name x pos) (pI i):=by
 refine{?_};intro pins s σ H Q I h;obtain⟨v,e,h⟩:=h;obtain⟨m,hn,o⟩:=I.loc;obtain⟨u,r,l⟩:=o i x v j e k;have d:EP X pins σ Q u s:={v,H,I,r,h};rcases l with⟨b,n⟩|⟨b,c,g,a⟩
 ·exact wpAny_Name (wpAny_loadName_local I.ok.kind b hn n d) hd
 ·rcases b with b|b
  ·exact wpAny_Name (wpAny_loadName_cell I.ok.kind b g a d) hd
  ·exact wpAny_Name (wpAny_loadName_free I.ok.kind b g a d f) hd
def aj{i j pos}:PE X (.Constant (.int i) j pos) (tC (.int i)):={λ_ _ _ H _ I h=>wpAny_Constant_int {.int i,H,I.tok _,{_,U},h}}
def cW{b j pos}:PE X (.Constant (.bool b) j pos) (tC (.bl b)):={λ_ _ _ H _ I h=>Constant_bool {.bl b,H,I,U,h}}
def eW{j pos}:PE X (.Constant .none j pos) (tC .aT):={λ_ _ _ H _ I h=>Constant_none {.aT,H,I,U,h}}
def aE{x j pos}:PE X (.Constant (.str x) j pos) (tC (.str x)):={λ_ _ _ H _ I h=>Calls.Constant_str {.str x,H,I.tok _,{_,U},h}}
def Gl(X:Cx)(x:Str):Prop:=X.env.kindOf x=some .globalImplicit
def oQ{E:Value->Shared->Prop}{pins:List (Addr×Obj)}{s:Shared}{σ:St}{H:Hp}{x:Str}{u:Value}{pos:Pos}{Q:Value->Shared->Prop}(I:Inv X pins σ H s)(a:Gl X x)(b:X.mg x=some u)(h:Q u s)(hd:(x==("__debug__":Str))=false:=by decide):wpAny (model X.prog X.w) X.A (eval (.Name x pos) X.env) Q E s :=
 Calls.Name_function_global I.ok.kind a (Calls.loadGlobal_global (by rw[I.ok.glob];exact I.mod.glob.keeps I.bk) b h) hd
def i4{E:Value->Shared->Prop}{pins:List (Addr×Obj)}{s:Shared}{σ:St}{H:Hp}{x:Str}{u:Value}{pos:Pos}{Q:Value->Shared->Prop}(I:Inv X pins σ H s)(a:Gl X x)(c:X.mg x=none)(b:bootBuiltins x=some u)(h:Q u s)(hn:x≠"__name__":=by decide)(hd:(x==("__debug__":Str))=false:=by decide):wpAny (model X.prog X.w) X.A (eval (.Name x pos) X.env) Q E s:=by
 obtain⟨d,h1,h2⟩:=I.mod.blt;exact Calls.Name_function_global I.ok.kind a (Calls.loadGlobal_builtin (by rw[I.ok.glob];exact I.mod.glob.keeps I.bk) c (by rw[I.ok.blt];exact h1.keeps I.bk) ((h2 x hn).trans b) h) hd
def hX(a:Gl X x)(b:X.mg x=some u)(r:RelV v u)(hd:(x==("__debug__":Str))=false:=by decide):PE X (.Name x pos) (tC v):={λ_ _ _ H _ I h=>oQ I a b {v,H,I,r,h} hd}
def dH(a:Gl X x)(c:X.mg x=none)(b:bootBuiltins x=some u)(r:RelV v u)(hn:x≠"__name__":=by decide)(hd:(x==("__debug__":Str))=false:=by decide):PE X (.Name x pos) (tC v):={λ_ _ _ H _ I h=>i4 I a c b {v,H,I,r,h} hn hd}
variable {a b:Expr}{ta tb:TE}{pos:Pos}
inductive R3(Q:Bool->Hp->Prop)(x:V)(H1:Hp):Prop
 |mk(c:_)(_:x=.bl c)(_:Q c H1)
def tB(t:TE):TT:=λσ H Q=>t σ H λx H1=>R3 Q x H1
def bP{t:TE}(h:PE X e t)(c:∀a,isTrue e X.env a=(do let v ←a;standAt e.pos;holding [v] (truthy v)):=by intro _;rfl):PT X e (tB t):=by
 refine{?_};intro pins s σ H Q I hw;refine isTrue_plain (a8 (h pins s σ H _ I hw) λv i ⟨x,H1,f,g,b⟩=>?_) (c _);obtain⟨d,rfl,q⟩:=b;cases g;exact wpAny_truthy_bool {H1,f,q}
variable {tA tB':TT}{rest:List Expr}
def NU(t u:TT):TT:=λσ H Q=>t σ H λc H1=>if c=true then u σ H1 Q else Q false H1
def R4(t u:TT):TT:=λσ H Q=>t σ H λc H1=>if c=true then Q true H1 else u σ H1 Q
def OX(t:TT):TT:=λσ H Q=>t σ H λc H1=>Q (!c) H1
def n_(b:PT X a tA):PW X (.BoolOp .And [a] pos) tA:=by
 refine{?_};intro f pins s σ H Q I h;refine isTrue_and (a8 (b pins s σ H Q I h) λc d e=>?_)
 cases c with
 |true=>exact isTrue_and_nil e
 |false=>exact e
def f9(b:PT X a tA):PW X (.BoolOp .Or [a] pos) tA:=by
 refine{?_};intro f pins s σ H Q I h;refine isTrue_or (a8 (b pins s σ H Q I h) λc d e=>?_)
 cases c with
 |false=>exact isTrue_or_nil e
 |true=>exact e
def m6(j:PT X a tA)(g:PW X (.BoolOp .And (b::rest) pos) tB'):PW X (.BoolOp .And (a::b::rest) pos) (NU tA tB'):=by
 refine{?_};intro f pins s σ H Q I h;refine isTrue_and (a8 (j pins s σ H _ I h) λc i ⟨H1,e,d⟩=>?_)
 cases c with
 |true=>exact g f pins i σ H1 Q e d
 |false=>exact{H1,e,d}
def dz(j:PT X a tA)(g:PW X (.BoolOp .Or (b::rest) pos) tB'):PW X (.BoolOp .Or (a::b::rest) pos) (R4 tA tB'):=by
 refine{?_};intro f pins s σ H Q I h;refine isTrue_or (a8 (j pins s σ H _ I h) λc i ⟨H1,e,d⟩=>?_)
 cases c with
 |true=>exact{H1,e,d}
 |false=>exact g f pins i σ H1 Q e d
def cT(b:PT X a tA):PT X (.UnaryOp .Not a pos) (OX tA):=by
 refine{?_};intro pins s σ H Q I h;exact isTrue_not (b pins s σ H (λc H1=>Q (!c) H1) I h)
inductive D8(tb:TE)(σ:St)(Q:VK)(x:V)(H1:Hp):Prop
 |mk(c:_)(_:x=.bl c)(_:if c=true then tb σ H1 Q else Q (.bl false) H1)
def G_(ta tb:TE):TE:=λσ H Q=>ta σ H λx H1=>D8 tb σ Q x H1
inductive Kk(tb:TE)(σ:St)(Q:VK)(x:V)(H1:Hp):Prop
 |mk(c:_)(_:x=.bl c)(_:if c=true then Q (.bl true) H1 else tb σ H1 Q)
def QV(ta tb:TE):TE:=λσ H Q=>ta σ H λx H1=>Kk tb σ Q x H1
def c0{op}{t:TE}(h:PE X a t):PE X (.BoolOp op [a] pos) t:={λpins s σ H Q I hw=>BoolOp_one (h pins s σ H Q I hw)}
def dM(i:PE X a ta)(f:PE X (.BoolOp .And (b::rest) pos) tb):PE X (.BoolOp .And (a::b::rest) pos) (G_ ta tb):=by
 refine{?_};intro pins s σ H Q I h;refine BoolOp_and (a8 (i pins s σ H _ I h) λv g ⟨x,H1,e,j,d⟩=>?_);obtain⟨c,rfl,d⟩:=d;cases j;refine wpAny_truthy_bool ?_
 cases c with
 |true=>exact f pins g σ H1 Q e d
 |false=>exact{.bl false,H1,e,U,d}
def ec(i:PE X a ta)(f:PE X (.BoolOp .Or (b::rest) pos) tb):PE X (.BoolOp .Or (a::b::rest) pos) (QV ta tb):=by
 refine{?_};intro pins s σ H Q I h;refine BoolOp_or (a8 (i pins s σ H _ I h) λv g ⟨x,H1,e,j,d⟩=>?_);obtain⟨c,rfl,d⟩:=d;cases j;refine wpAny_truthy_bool ?_
 cases c with
 |false=>exact f pins g σ H1 Q e d
 |true=>exact{.bl true,H1,e,U,d}
def RK(t:TT)(ta tb:TE):TE:=λσ H Q=>t σ H λc H1=>if c=true then ta σ H1 Q else tb σ H1 Q
def fH(i:PT X c tA)(k:PE X a ta)(j:PE X b tb):PE X (.IfExp c a b pos) (RK tA ta tb):=by
 refine{?_};intro pins s σ H Q I h;refine wpAny_IfExp (a8 (i pins s σ H _ I h) λd f ⟨H1,g,e⟩=>?_)
 cases d with
 |true=>exact k pins f σ H1 Q g e
 |false=>exact j pins f σ H1 Q g e
end
def aw(H:Hp)(a:Addr)(xs:List V):Prop :=
 Rd H a (.lst xs)
def aH(H:Hp)(a:Addr)(xs:List V):Prop :=
 Rd H a (.tup xs)
def ej:Value->Option V
 |.none=>some .aT
 |.bool b=>some (.bl b)
 |.int i _=>some (.int i)
 |.str x _=>some (.str x)
 |.bytes b _=>some (.mK b)
 |.float b _=>some (.Ck b)
 |.ref a=>some (.ref a)
 |.type n=>some (.ty n)
 |_=>none
def RelV.abs(r:RelV x u):ej u=some x:=by
 cases x with
 |aT=>cases r;rfl
 |bl _=>cases r;rfl
 |int _=>obtain⟨t,rfl⟩:=r;rfl
 |str _=>obtain⟨t,rfl⟩:=r;rfl
 |mK _=>obtain⟨t,rfl⟩:=r;rfl
 |Ck _=>obtain⟨t,rfl⟩:=r;rfl
 |ref _=>cases r;rfl
 |ty _=>cases r;rfl
theorem RelV.inj(r:RelV x u)(q:RelV y u):x=y:=qE (r.abs.symm.trans q.abs)
theorem aA.inj:∀{xs ys:List V} {us:List Value},aA xs us->aA ys us->xs=ys
 |_,_,_,.nil,.nil=>rfl
 |_,_,_,.cons r t,.cons r' t'=>by rw[r.inj r',aA.inj t t']
section
variable {X:Cx}{pins:List (Addr×Obj)}{σ:St}{H:Hp}{s:Shared}{a:Addr}{xs ys:List V}
def aw.of(h:H a=some (.lst xs)):aw H a xs:=.inl h
def aH.of(h:H a=some (.tup xs)):aH H a xs:=.inl h
def Inv.list(I:Inv X pins σ H s)(h:aw H a xs):∃b:List Value,aA xs b/\PlainL s.heap a b.toArray/\xs.length≤sizeLine:=by
 obtain⟨z,b,n,r,e⟩:=Rd.ok h I.a6;exact{b,r,{_,n,e,U,U,U},z}
def Inv.tuple(I:Inv X pins σ H s)(h:aH H a xs):∃b:List Value,aA xs b/\IsTup s.heap a b.toArray/\xs.length≤sizeLine:=by
 obtain⟨z,b,r,p⟩:=Rd.ok h I.a6;exact{b,r,p,z}
def Inv.hZ(I:Inv X pins σ H s)(h:aw H a xs)(h':aw H a ys):xs=ys:=by
 obtain⟨b,r,⟨o,n,e,_,_,d⟩,_⟩:=I.list h;obtain⟨its',f,⟨o',g,c,_,_,d'⟩,_⟩:=I.list h';rw[e]at c;cases c;rw[d]at d';injection d' with d1 _
 have:b=its':=by simpa using congrArg Array.toList d1
 subst this;exact r.inj f
def Inv.iP(I:Inv X pins σ H s)(h:aH H a xs)(h':aH H a ys):xs=ys:=by
 obtain⟨b,r,⟨o,e,_,n,d⟩,_⟩:=I.tuple h;obtain⟨its',f,⟨o',c,_,g,d'⟩,_⟩:=I.tuple h';rw[e]at c;cases c;rw[d]at d';injection d' with d1 _
 have:b=its':=by simpa using congrArg Array.toList d1
 subst this;exact r.inj f
end
abbrev Cx.iz(X:Cx)(E:Value->Shared->Prop):Cx:={ X with xe:=E }
abbrev Cx.E_(X:Cx):Cx:=X.iz λ_ _=>False
theorem Cx.Ok.iz{X:Cx}(ok:X.Ok)(E:Value->Shared->Prop):(X.iz E).Ok :=
 {ok.mod,ok.kind,ok.glob,ok.blt,ok.above,ok.inj,ok.has,ok.E7,ok.hd,ok.frames,ok.Mc,ok.RC,ok.bs,ok.ro,ok.nM,ok.sE,ok.fQ,ok.uv}
def Cx.Ok.eC{X:Cx}{E:Value->Shared->Prop}(ok:(X.iz E).Ok):X.Ok :=
 {ok.mod,ok.kind,ok.glob,ok.blt,ok.above,ok.inj,ok.has,ok.E7,ok.hd,ok.frames,ok.Mc,ok.RC,ok.bs,ok.ro,ok.nM,ok.sE,ok.fQ,ok.uv}
section
variable {X:Cx}{pins:List (Addr×Obj)}{σ:St}{H:Hp}{s:Shared}{E:Value->Shared->Prop}
theorem Inv.iz(I:Inv X pins σ H s)(E:Value->Shared->Prop):Inv (X.iz E) pins σ H s:={I.ok.iz E,I.os,I.bare,I.base,I.loc,I.cell,I.free,I.dR,I.pin,I.a6,I.len}
theorem Inv.eC(I:Inv (X.iz E) pins σ H s):Inv X pins σ H s:={I.ok.eC,I.os,I.bare,I.base,I.loc,I.cell,I.free,I.dR,I.pin,I.a6,I.len}
theorem SP.eC(h:SP (X.iz E) pins D f s'):SP X pins D f s':=by
 cases f with
 |next=>obtain⟨σ',H',I,q⟩:=h;exact{σ',H',I.eC,q}
 |brk=>obtain⟨σ',H',I,q⟩:=h;exact{σ',H',I.eC,q}
 |cont=>obtain⟨σ',H',I,q⟩:=h;exact{σ',H',I.eC,q}
 |ret u=>obtain⟨v,σ',H',I,r,q⟩:=h;exact{v,σ',H',I.eC,r,q}
theorem kr.E_{st:List Stmt}{t:TS}(h:kr X.E_ st t):kr X st t:={λpins s σ H D I hw =>
 qH (h pins s σ H D (I.iz _) hw) (λ_ _ q=>q.eC) λ_ _ z=>False.elim z}
end
section
variable {X:Cx}{st:Stmt}{rest:List Stmt}{t u:TS}{e:Expr}{te:TE}{pos:Pos}
def Fw:TS:=λD σ H=>D.nx σ H
def k9(t u:TS):TS:=λD σ H=>t { D with nx:=u D } σ H
def aO:kr X [] Fw:={λ_ _ σ H _ I h=>wpAny_execs_nil {σ,H,I,h}}
def aq(h1:PS X st t)(h2:kr X rest u):kr X (st::rest) (k9 t u):=by
 refine{?_};intro pins s σ H D I h;refine wpAny_execs_cons (a8 (h1 pins s σ H { D with nx:=u D } I h) λf a q=>?_)
 cases f with
 |next =>
  obtain⟨σ',H',b,q⟩:=q;exact h2 pins a σ' H' D b q
 |ret v=>exact q
 |brk=>exact q
 |cont=>exact q
def ai(h1:PS X st t):kr X [st] t:=by
 refine{?_};intro pins s σ H D I h;refine wpAny_execs_cons (a8 (h1 pins s σ H D I h) λf a q=>?_)
 cases f with
 |next=>exact wpAny_execs_nil q
 |ret v=>exact q
 |brk=>exact q
 |cont=>exact q
def Inv.quiet{pins:List (Addr×Obj)}{σ:St}{H:Hp}{s:Shared}(I:Inv X pins σ H s):interactive X.env=false:=by simp[interactive,I.ok.kind]
def tQ(te:TE):TS:=λD σ H=>te σ H λ_ H1=>D.nx σ H1
def CO(b:PE X e te)(hs:swapsWith e none pos.line X.env=pure false:=by rfl):PS X (.Expr e pos) (tQ te):=by
 refine{?_};intro pins s σ H D I h;exact wpAny_Expr_any (a8 (b pins s σ H _ I h) λv d ⟨x,H1,c,f,a⟩=>{σ,H1,c,a}) I.quiet hs
def Kj(te:TE):TS:=λD σ H=>te σ H D.rt
def ar(b:PE X e te):PS X (.Return (some e) pos) (Kj te):=by
 refine{?_};intro pins s σ H D I h;exact wpAny_Return_some (a8 (b pins s σ H _ I h) λv f ⟨x,H1,c,d,a⟩=>{x,σ,H1,c,d,a})
def Qe(c:TT)(t u:TS):TS:=λD σ H=>c σ H λb H1=>if b=true then t D σ H1 else u D σ H1
def az(i:PT X c tc)(k:kr X a t)(j:kr X b u):PS X (.If c a b pos) (Qe tc t u):=by
 refine{?_};intro pins s σ H D I h;refine wpAny_If (a8 (i pins s σ H _ I h) λd f ⟨H1,g,e⟩=>?_)
 cases d with
 |true=>exact k pins f σ H1 D g e
 |false=>exact j pins f σ H1 D g e
def EW:TS:=λ_ _ _=>False
def fC:PS X st EW:={λ_ _ _ _ _ _ h=>h.elim}
end
abbrev TG:=V->St->Hp->(St->Hp->Prop)->Prop
abbrev AX:=List V->St->Hp->(St->Hp->Prop)->Prop
def Rh(X:Cx)(a:Expr)(t:TG):Prop :=
 ∀(pins:List (Addr×Obj)) (s:Shared) (σ:St) (H:Hp) (v:V) (u:Value) (Q:St->Hp->Prop),Inv X pins σ H s->RelV v u->t v σ H Q →
  wpAny (model X.prog X.w) X.A (assign a X.env u) (λ_ s'=>∃σ' H',Inv X pins σ' H' s'/\Q σ' H') X.xe s
structure PG(X:Cx)(target:Expr)(t:TG):Prop where run:Rh X target t
instance R_{X:Cx}{a:Expr}{t:TG}:CoeFun (PG X a t) λ_=>Rh X a t:={PG.run}
def KS(X:Cx)(a:List Expr)(t:AX):Prop :=
 ∀(pins:List (Addr×Obj)) (s:Shared) (σ:St) (H:Hp) (vs:List V) (us:List Value) (Q:St->Hp->Prop),Inv X pins σ H s->aA vs us->t vs σ H Q →
  wpAny (model X.prog X.w) X.A (assignInOrder ((assignEach a X.env).map (·.2)) us) (λ_ s'=>∃σ' H',Inv X pins σ' H' s'/\Q σ' H') X.xe s
structure zQ(X:Cx)(ts:List Expr)(t:AX):Prop where run:KS X ts t
instance Rb{X:Cx}{a:List Expr}{t:AX}:CoeFun (zQ X a t) λ_=>KS X a t:={zQ.run}
abbrev EF:=V->V->V->Hp->(Hp->Prop)->Prop
def LU(X:Cx)(t:EF):Prop :=
 ∀(pins:List (Addr×Obj)) (s:Shared) (σ:St) (H:Hp) (o i v:V) (b a u:Value) (Q:Hp->Prop),Inv X pins σ H s->RelV o b->RelV i a->RelV v u->t o i v H Q →
  wpAny (model X.prog X.w) X.A (setItem b a u) (λ_ s'=>∃H',Inv X pins σ H' s'/\Q H') X.xe s
section
variable {X:Cx}{pos:Pos}
def cB(i:Nat):TG:=λv σ H Q=>Q (σ.set i (some v)) H
def dF(c:X.N.Nodup)(hi:X.N[i]?=some x)(b:Loc X.env.scope x)(hf:X.fn x=true\/X.env.scope.names.lookup x=some .local:=by first|exact .inl rfl|exact .inr rfl|assumption):PG X (.Name x pos) (cB i):=by
 refine{?_};intro pins s σ H v u Q I r h;exact wpAny_assign_Name (FU I c hi b r (λs' a=>{_,H,a,h}) hf)
def Kf:AX:=λvs σ H Q=>vs=[]/\Q σ H
inductive pj(t:TG)(u:AX)(vs:List V)(σ:St)(H:Hp)(Q:St->Hp->Prop):Prop
 |mk(v r:_)(_:vs=v::r)(_:t v σ H λσ' H'=>u r σ' H' Q)
def jZ:zQ X [] Kf:=by
 refine{?_};intro pins s σ H vs us Q I r h;obtain⟨e,h⟩:=h;subst e;cases r;exact assignInOrder_nil {σ,H,I,h}
def eK{t:TG}(h1:PG X e t)(h2:zQ X es u)(hs:(assignEach (e::es) X.env).map (·.2)=assign e X.env::(assignEach es X.env).map (·.2):=by rfl):zQ X (e::es) (pj t u):=by
 refine{?_};intro pins s σ H vs us Q I r h;obtain⟨v,i,c,h⟩:=h;subst c
 cases r with
 |cons r g =>
  rw[hs];refine assignInOrder_cons (a8 (h1 pins s σ H _ _ _ I r h) λ_ d ⟨a,H1,f,b⟩=>?_);exact h2 pins d a H1 _ _ Q f g b
inductive AU(n:Nat)(t:AX)(v:V)(σ:St)(H:Hp)(Q:St->Hp->Prop):Prop
 |mk(a xs:_)(_:v=.ref a)(_:aH H a xs)(_:xs.length=n)(_:t xs σ H Q)
def mG{k:Nat}{t:AX}(g:X.calm=true)(h:zQ X es t)(hn:(assignEach es X.env).length=n:=by rfl)(c:(assignEach es X.env).findIdx? (·.1)=none:=by rfl):PG X (.Tuple es k pos) (AU n t):=by
 refine{?_};intro pins s σ H v u Q I r hw;obtain⟨a,xs,l,j,q,hw⟩:=hw;subst l;cases r;obtain⟨f,d,p,hz⟩:=I.tuple j;refine assign_Tuple_tuple (I.ok.hd g) p (by simp[hn,←q,d.length]) c λh' i=>?_;have m:Inv X pins σ H { s with heap:=h' }:=I.kept (t':=s.toks) λb o e=>i b o (qd (qB e)) e;exact h pins _ σ H xs _ Q m (by simpa using d) hw
def PL(to a:TE)(t:EF):TG:=λv σ H Q=>to σ H λo H1=>a σ H1 λi H2=>t o i v H2 λb=>Q σ b
def Dm{to c:TE}{t:EF}(p:PE X o to)(hi:PE X i c)(hs:LU X t)(k:∀v,assign (.Subscript o i pos) X.env v=(do
   let a ←holding [v] (eval o X.env)
   let b ←holding [v,a] (eval i X.env)
   standAt pos
   holding [v,a,b] (setItem a b v)
   release [v,a,b] []):=by intro _;rfl):PG X (.Subscript o i pos) (PL to c t):=by
 refine{?_};intro pins s σ H v u Q I r h;rw[k];refine qq (qG (a8 (p pins s σ H _ I h) λa n ⟨x,H1,q,w,d⟩=>?_));refine qq (qG (a8 (hi pins n σ H1 _ q d) λb e ⟨y,H2,j,l,g⟩=>?_));refine qq (wpAny_standAt (qq (qG (a8 (hs pins e σ H2 x y v a b u _ j w l r g) λ_ A ⟨m,f,z⟩=>?_))));exact wpAny_release {σ,m,f,z}
def m9(te:TE)(g:TG):TS:=λD σ H=>te σ H λx H1=>g x σ H1 D.nx
def sX{g:TG}(c:PE X e te)(a:PG X tg g)(hs:swapsWithSole [tg] e pos.line X.env=pure false:=by rfl)(hw:swappedStores [tg] e X.env=pure none:=by rfl)(h1:(assignEach [tg] X.env).map (·.2)=[assign tg X.env]:=by rfl):PS X (.Assign [tg] e pos) (m9 te g):=by
 refine{?_};intro pins s σ H D I h;refine wpAny_Assign_stores (a8 (c pins s σ H _ I h) λv d ⟨x,H1,f,i,b⟩=>?_) hs hw;rw[h1];exact a8 (a pins d σ H1 x v _ f i b) λ_ j q=>q
def F7(c:X.N.Nodup)(hi:X.N[i]?=some x)(b:Loc X.env.scope x)(d:PE X e te)(hs:swapsWith e (some (.Name x pos')) pos.line X.env=pure false:=by rfl)(hf:X.fn x=true\/X.env.scope.names.lookup x=some .local:=by first|exact .inl rfl|exact .inr rfl|assumption) :
  PS X (.Assign [.Name x pos'] e pos) (m9 te (cB i)):=by
 refine{?_};intro pins s σ H D I h;refine wpAny_Assign_Name (a8 (d pins s σ H _ I h) λv l ⟨y,H1,g,j,a⟩=>?_) hs;exact FU g c hi b j (λk f=>{_,H1,f,a}) hf
end
structure It where
 go:Nat->Hp->Prop
 vl:Nat->Hp->V->Hp->Prop
 stop:Nat->Hp->Prop
def f6(X:Cx)(pins:List (Addr×Obj))(H:Hp)(b:Addr):Prop :=
 H b=none/\b≠X.env.locals/\b∉X.fs/\(b∈X.ex\/X.s₀.heap.objs.size≤b)/\(∀x c,X.env.cells.lookup x=some c->c≠b)/\∀p∈X.pn++pins,p.1≠b
def Inv.kJ{X:Cx}{pins:List (Addr×Obj)}{σ:St}{H H':Hp}{s:Shared}{b:Addr}(I:Inv X pins σ H s)(a:↑s≤b)(hn:H' b=none):f6 X pins H' b:=by
 refine{hn,zg (zc I.lt a),I.rA a,.inr (qg I.sz a),λx c e z=>?_,λp d z=>?_}
 ·obtain⟨v,q⟩:=I.cell x c e
  exact absurd (zc q.lt (by rw[z];exact a)) (zt _)
 ·exact absurd (zc (qB (I.pin p d).1) (by rw[z];exact a)) (zt _)
structure Turn(P:Program)(w:World)(K:PySem.W.Frag)(tg:Expr)(J:It)(fp:List Addr)(it:Addr)(tn:Nat->Heap->Prop):Prop where
 mem:it∈fp
 obj:∀i h,tn i h->∀b∈fp,∃o,h.get? b=some o/\∀v,o.data≠.cell v
 keep:∀i h h',tn i h->(∀b∈fp,∀o,h.get? b=some o->h'.get? b=some o)->tn i h'
 item:∀(X:Cx),X.prog=P->X.w=w->X.K=K->X.calm=true->∀(i:Nat) (pins:List (Addr×Obj)) (s:Shared) (σ:St) (H:Hp) (E:Value->Shared->Prop),Inv X pins σ H s->(∀b∈fp,f6 X pins H b)->tn i s.heap->J.go i H →
  wpAny (model P w) X.A (pyNext (.ref it)) (λr s1=>∃u,r=some u ∧
   wpAny (model P w) X.A (letOwnedTupleGo tg (.ref it) u) (λ_ s2=>∃x H',Inv X pins σ H' s2/\RelV x u/\J.vl i H x H'/\tn (i+1) s2.heap/\∀b∈fp,H' b=none) E s1) E s
 done:∀(X:Cx),X.prog=P->X.w=w->X.K=K->X.calm=true->∀(i:Nat) (pins:List (Addr×Obj)) (s:Shared) (σ:St) (H:Hp) (E:Value->Shared->Prop),Inv X pins σ H s->(∀b∈fp,f6 X pins H b)->tn i s.heap->J.stop i H →
  wpAny (model P w) X.A (pyNext (.ref it)) (λr s1=>r=none/\Inv X pins σ H s1) E s
 self:∀(A:Around) (i:Nat) (s:Shared) (Q:Value->Shared->Prop) (E:Value->Shared->Prop),tn i s.heap->Q (.ref it) s->wpAny (model P w) A (pyIter (.ref it)) Q E s
abbrev TI:=St->Hp->(It->Hp->Prop)->Prop
def Ru(X:Cx)(pins:List (Addr×Obj))(σ:St)(tg:Expr)(R:It->Hp->Prop)(a:Value)(e:Shared):Prop :=
 ∃(it:Addr) (d:List Addr) (c:Nat->Heap->Prop) (J:It) (H':Hp),a=.ref it/\Inv X pins σ H' e/\Turn X.prog X.w X.K tg J d it c/\c 0 e.heap/\(∀b∈d,f6 X pins H' b)/\R J H'
def Rg(X:Cx)(tg a:Expr)(c:TI):Prop :=
 ∀(pins:List (Addr×Obj)) (s:Shared) (σ:St) (H:Hp) (R:It->Hp->Prop),Inv X pins σ H s->c σ H R →
  wpAny (model X.prog X.w) X.A (eval a X.env) (λv b=>wpAny (model X.prog X.w) X.A (pyIter v) (Ru X pins σ tg R) X.xe b) X.xe s
structure PI(X:Cx)(tg iter:Expr)(wi:TI):Prop where run:Rg X tg iter wi
instance RM{X:Cx}{tg a:Expr}{b:TI}:CoeFun (PI X tg a b) λ_=>Rg X tg a b:={PI.run}
def iM(b:s.heap.get? it=some o)(c:o.cls=.type n)(hd:o.data=.fields vs)(hn:["enumerate","zip","dict_itemiterator","dict_reverseitemiterator","odict_iterator","itertools.zip_longest","itertools.pairwise"].contains n=false)(a:Q Unit.unit s):wpAny M A (letOwnedTupleGo tg (.ref it) u) Q E s:=by
 unfold letOwnedTupleGo
 cases tg <;> first
  |exact qs a
  | (cases u <;> first
    |exact qs a
    | (refine qq (wpAny_load b ?_)
       rw[c,hd];show wpAny M A (if(["enumerate","zip","dict_itemiterator","dict_reverseitemiterator","odict_iterator","itertools.zip_longest","itertools.pairwise"].contains n&&vs[0]?==some (rawInt _))=true then _ else _) Q E s;rw[qt (by intro h;rw[hn,yr]at h;cases h)]
       exact qs a))
def rG(a:Addr):It :=
 {λi H=>∃xs x,aw H a xs/\xs[i]?=some x,λi H x H'=>H'=H/\∀xs,aw H a xs->xs[i]?=some x,λi H=>∃xs,aw H a xs/\xs.length≤i}
def KH(a:Addr):It :=
 {λi H=>∃xs x,aH H a xs/\xs[i]?=some x,λi H x H'=>H'=H/\∀xs,aH H a xs->xs[i]?=some x,λi H=>∃xs,aH H a xs/\xs.length≤i}
def Eo(lo:Int)(n:Nat):It:={λi _=>i<n,λi H x H'=>H'=H/\x=.int (lo+i),λi _=>n≤i}
def Pj{P:Program}{w:World}{K:PySem.W.Frag}{tg:Expr}(a it:Addr):Turn P w K tg (rG a) [it] it (λi h=>h.IsListIter it a i) where
 mem:=by simp
 obj:=λi h st b f=>by
  have e:b=it:=by simpa using f
  subst e;obtain⟨o,e,c,d⟩:=st;exact{o,e,λv z=>by rw[d]at z;cases z}
 keep:=λi h h' st k=>st.at λo e=>k it (by simp) o e
 item:=by
  intro X C hw t D i pins s σ H E I hf st r;subst C hw t;obtain⟨xs,x,j,m⟩:=r;obtain⟨l,A,p,hz⟩:=I.list j;obtain⟨u,J,G⟩:=A.get m;obtain⟨B,f1,f2,n,q,y⟩:=hf it (by simp);refine wpAny_pyNext_list_item st p.isList (x:=u) (by simpa using J) λh' g M=>?_;have N:Inv X pins σ H { s with heap:=h' }:=I.turned (t':=s.toks) (λb o f e=>(M.2 b f).trans e) B f1 n q y;obtain⟨o,e,c,d⟩:=id g;exact{u,U,iM (s:={ s with heap:=h' }) e c d ⋯ {x,H,N,G,{U,λys F=>by rw[I.hZ F j];exact m},g,λb f=>(hf b f).1}}
 done:=by
  intro X C hw t D i pins s σ H E I hf st r;subst C hw t;obtain⟨xs,j,m⟩:=r;obtain⟨l,A,p,hz⟩:=I.list j;obtain⟨B,f1,f2,n,q,y⟩:=hf it (by simp);have O:=A.length;exact wpAny_pyNext_list_end (I.ok.hd D) st p.isList (by simp;omega) λh' L=>{U,I.turned (t':=s.toks) (λb o f e=>L b o f e) B f1 n q y}
 self:=λ_ _ _ _ _ st h=>wpAny_pyIter_listiter st h
def Pw{P:Program}{w:World}{K:PySem.W.Frag}{tg:Expr}(a it:Addr):Turn P w K tg (KH a) [it] it (λi h=>h.IsTupleIter it a i) where
 mem:=by simp
 obj:=λi h st b g=>by
  have e:b=it:=by simpa using g
  subst e;obtain⟨o,e,c,d⟩:=st;exact{o,e,λv z=>by rw[d]at z;cases z}
 keep:=λi h h' st k=>st.at λo e=>k it (by simp) o e
 item:=by
  intro X C hw t D i pins s σ H E I hf st r;subst C hw t;obtain⟨xs,x,l,m⟩:=r;obtain⟨f,A,p,hz⟩:=I.tuple l;obtain⟨u,J,G⟩:=A.get m;obtain⟨B,f1,f2,n,q,y⟩:=hf it (by simp);refine wpAny_pyNext_tuple_item st (show s.heap.IsTuple a f.toArray from p) (x:=u) (by simpa using J) λh' j M=>?_;have N:Inv X pins σ H { s with heap:=h' }:=I.turned (t':=s.toks) (λb o g e=>(M.2 b g).trans e) B f1 n q y;obtain⟨o,e,c,d⟩:=id j;exact{u,U,iM (s:={ s with heap:=h' }) e c d ⋯ {x,H,N,G,{U,λys F=>by rw[I.iP F l];exact m},j,λb g=>(hf b g).1}}
 done:=by
  intro X C hw t D i pins s σ H E I hf st r;subst C hw t;obtain⟨xs,l,m⟩:=r;obtain⟨f,A,p,hz⟩:=I.tuple l;obtain⟨B,f1,f2,n,q,y⟩:=hf it (by simp);have O:=A.length;exact wpAny_pyNext_tuple_end (I.ok.hd D) st (show s.heap.IsTuple a f.toArray from p) (by simp;omega) λh' L=>{U,I.turned (t':=s.toks) (λb o g e=>L b o g e) B f1 n q y}
 self:=λ_ _ _ _ _ st h=>wpAny_pyIter_tupleiter st h
def NL{P:Program}{w:World}{K:PySem.W.Frag}{tg:Expr}(it:Addr)(lo:Int)(n:Nat):Turn P w K tg (Eo lo n) [it] it (λi h=>IsRangeIter h it (lo+(i:Nat) * 1) ((n:Int) - (i:Nat)) 1) where
 mem:=by simp
 obj:=λi h st b a=>by
  have e:b=it:=by simpa using a
  subst e
  exact{_,st,λv z=>by
   have r:Data.fields _=Data.cell v:=z
   cases r}
 keep:=λi h h' st k=>k it (by simp) _ st
 item:=by
  intro X p hw q f i pins s σ H E I hf st d;subst p hw q;obtain⟨m,f1,f2,j,l,g⟩:=hf it (by simp);have W:=Walks.range (prog:=X.prog) (w:=X.w) (I.ok.hd f) it lo 1 n;refine W.item i s _ _ d st λv h' tk y c kk=>?_;obtain⟨t,rfl⟩:=y;have x:Inv X pins σ H { s with heap:=h',toks:=tk }:=I.turned (λb o a e=>kk b o (by simpa using a) e) m f1 j l g;refine{_,U,iM (s:={ s with heap:=h',toks:=tk }) (n:="range_iterator") c rfl rfl ⋯ {.int (lo+i),H,x,{t,?_},{U,U},c,λb a=>(hf b a).1}};rw[Int.mul_one]
 done:=by
  intro X p hw q f i pins s σ H E I hf st d;subst p hw q;obtain⟨m,f1,f2,j,l,g⟩:=hf it (by simp);exact wpAny_pyNext_range_end (I.ok.hd f) st (by have:n≤i:=d;omega) λh' u=>{U,I.turned (t':=s.toks) (λb o a e=>u b o a e) m f1 j l g}
 self:=λ_ _ _ _ _ st h=>wpAny_pyIter_rangeiter st h
section
variable {X:Cx}{tg:Expr}
inductive zN(R:It->Hp->Prop)(x:V)(H1:Hp):Prop
 |mk(a:_)(_:x=.ref a)(_:(∃xs,aw H1 a xs))(_:R (rG a) H1)
def wG(tl:TE):TI:=λσ H R=>tl σ H λx H1=>zN R x H1
inductive IF(R:It->Hp->Prop)(x:V)(H1:Hp):Prop
 |mk(a:_)(_:x=.ref a)(_:(∃xs,aH H1 a xs))(_:R (KH a) H1)
def Gj(tl:TE):TI:=λσ H R=>tl σ H λx H1=>IF R x H1
def Pe{tl:TE}(m:PE X l tl):PI X tg l (wG tl):=by
 refine{?_};intro pins s σ H R I h;refine a8 (m pins s σ H _ I h) λv c ⟨x,H1,d,k,f⟩=>?_;obtain⟨a,e,⟨xs,i⟩,q⟩:=f;subst e;cases k;obtain⟨g,n,p,hz⟩:=d.list i;refine wpAny_pyIter_list p.isList ?_;refine{↑c,[↑c],_,_,H1,U,d.kept (t':=c.toks) λb o e=>qC _ e,Pj a _,{_,qD _ rfl,U,U},λb j=>?_,q}
 have e:b=↑c:=by simpa using j
 subst e;exact d.kJ (qb _) (d.a6.fresh (qb _))
def yW{tl:TE}(m:PE X l tl):PI X tg l (Gj tl):=by
 refine{?_};intro pins s σ H R I h;refine a8 (m pins s σ H _ I h) λv c ⟨x,H1,d,k,g⟩=>?_;obtain⟨a,e,⟨xs,i⟩,q⟩:=g;subst e;cases k;obtain⟨f,n,p,hz⟩:=d.tuple i;refine wpAny_pyIter_tuple (show c.heap.IsTuple a f.toArray from p) ?_;refine{↑c,[↑c],_,_,H1,U,d.kept (t':=c.toks) λb o e=>qC _ e,Pw a _,{_,qD _ rfl,U,U},λb j=>?_,q}
 have e:b=↑c:=by simpa using j
 subst e;exact d.kJ (qb _) (d.a6.fresh (qb _))
def P'{pins:List (Addr×Obj)}{σ:St}{H:Hp}{s:Shared}{R:It->Hp->Prop}{E:Value->Shared->Prop}{lo hi:Int}{t u v:Tok}{tk:Nat}(I:Inv X pins σ H s)(h1:-(2 ^ 62)≤lo)(h2:lo<2 ^ 62)(h:-(2 ^ 62)≤hi)(f:hi<2 ^ 62)(q:R (Eo lo (hi - lo).toNat) H):wpAny (model X.prog X.w) X.A (pyIter (.ref ↑s)) (Ru X pins σ tg R) E { s with heap:=s.heap.push { cls:=.type "range",data:=.fields #[.int lo t,.int hi u,.int 1 v] },toks:=tk }:=by
 refine wpAny_pyIter_range (IsRange.new ..) (small_one h1 h2 h f) ?_;have a:Inv X pins σ H { s with heap:=s.heap.push { cls:=.type "range",data:=.fields #[.int lo t,.int hi u,.int 1 v] },toks:=tk }:=I.kept λb o e=>qC _ e
 refine{(s.heap.push { cls:=.type "range",data:=.fields #[.int lo t,.int hi u,.int 1 v] }).objs.size,[(s.heap.push { cls:=.type "range",data:=.fields #[.int lo t,.int hi u,.int 1 v] }).objs.size],_,_,H,U,
  a.kept (t':=tk) λb o e=>qC _ e,NL _ lo (hi - lo).toNat,?_,λb d=>?_,q}
 ·have c:lo+((0:Nat):Int) * 1=lo:=by simp
  have g:(((hi - lo).toNat:Nat):Int) - ((0:Nat):Int)=Builtin.Range.rangeSize lo hi 1:=by rw[rangeSize_one];split <;> omega
  show IsRangeIter _ _ (lo+((0:Nat):Int) * 1) ((((hi - lo).toNat:Nat):Int) - ((0:Nat):Int)) 1;rw[c,g];exact qD _ rfl
 ·have e:b=(s.heap.push { cls:=.type "range",data:=.fields #[.int lo t,.int hi u,.int 1 v] }).objs.size:=by simpa using d
  subst e;exact a.kJ (qb _) (a.a6.fresh (qb _))
inductive yS(R:It->Hp->Prop)(vs:List V)(H1:Hp):Prop
 |mk(j:Int)(_:vs=[.int j])(_:-(2 ^ 62)≤j)(_:j<2 ^ 62)(_:R (Eo 0 j.toNat) H1)
def La(ta:TA):TI:=λσ H R=>ta σ H λvs H1=>yS R vs H1
def nK(c:Gl X "range")(k:X.mg "range"=none)(f:PA X [a] ta)(hs:starEach [a] X.env=[(false,eval a X.env)]:=by rfl):PI X tg (.Call (.Name "range" p) [a] [] pos) (La ta):=by
 refine{?_};intro pins s σ H R I h;refine Call_ (i4 I c k boot_range (PyProof.Rows.callWith_type1 (a8 (f pos pins s σ H _ I h) λus m ⟨vs,H1,g,i,b⟩=>?_) hs rfl));obtain⟨j,e,b,d,q⟩:=b;subst e
 cases i with
 |cons r l =>
  cases l;obtain⟨t,rfl⟩:=r;exact call_range_1 (P' g () () b d (by simpa using q))
def FA(c:TI)(g:TG)(tb:TS):TS:=λD σ H=>c σ H λJ H1=>∃W:Nat->Nat->St->Hp->Prop,(∃m,W 0 m σ H1)/\∀i m σ H,W i m σ H →
 (J.stop i H/\D.nx σ H)\/(J.go i H/\∃N:St->Hp->Prop,(∀σ' H',N σ' H'->∃b,b<m/\W (i+1) b σ' H')/\∀x H',J.vl i H x H'->g x σ H' λa H2=>tb { D with nx:=N,ct:=N,bk:=D.nx } a H2)
def ez(a:List Addr)(h:Heap):List (Addr×Obj):=a.filterMap λb=>(h.get? b).map λo=>(b,o)
def Av(c:b∈a)(e:h.get? b=some o):(b,o)∈ez a h:=yt.mpr {b,c,by rw[e];rfl}
def J8(f:p∈ez a h):p.1∈a/\h.get? p.1=some p.2:=by
 obtain⟨b,c,e⟩:=yt.mp f
 cases q:h.get? b with
 |none=>rw[q]at e;cases e
 |some o =>
  rw[q]at e;have d:(b,o)=p:=qE e;subst d;exact{c,q}
def Inv.pinned{pins:List (Addr×Obj)}{σ:St}{H:Hp}{s:Shared}{a:List Addr}(I:Inv X pins σ H s)(hf:∀b∈a,f6 X pins H b)(i:∀b∈a,∃o,s.heap.get? b=some o/\∀v,o.data≠.cell v):Inv X (pins++ez a s.heap) σ H s :=
 I.gF λp g=>(qy.mp g).elim (λz=>I.pin p (zx _ z)) λz=>by
  obtain⟨c,e⟩:=J8 z;obtain⟨h,f1,f2,_⟩:=hf p.1 c;obtain⟨o,f,d⟩:=i p.1 c;rw[e]at f;cases f;exact{e,h,f1,f2,d}
def Inv.fi{pins pl:List (Addr×Obj)}{σ:St}{H:Hp}{s:Shared}(I:Inv X (pins++pl) σ H s):Inv X pins σ H s:=I.gF λp a=>I.pin p (zx _ (va _ a))
def Aa{g:TG}(F:PassesOwn (model X.prog X.w) X.A X.env X.xe)(Z:X.calm=true)(hi:PI X tg l wi)(hg:PG X tg g)(p:kr X y tb)(hs:∀x,foldedSetIterable l X.env x=pure x:=by intro _;rfl):PS X (.For tg l y [] pos) (FA wi g tb):=by
 refine{?_};intro pins s σ H D I h;refine wpAny_For (a8 (hi pins s σ H _ I h) λv s1 h1=>a8 h1 λitv s2 h2=>?_) hs;obtain⟨it,C,Y,J,H2,e,I2,T,S,f2,W,⟨m0,w0⟩,G⟩:=h2;subst e;have c:∀{H':Hp},(∀b∈C,H' b=none)->∀b∈C,f6 X pins H' b:=λhn b p=>{hn b p,(f2 b p).2};refine codeAny_forLoop_any (λn s'=>∃i σ' H',Inv X pins σ' H' s'/\Y i s'.heap/\(∀b∈C,H' b=none)/\W i n σ' H') ?_ m0 {0,σ,H2,I2,S,λb p=>(f2 b p).1,w0};rintro n s3 ⟨i,k,O,I3,E,M,w3⟩;rcases G i n k O w3 with⟨L,qn⟩|⟨go,N,hN,step⟩
 ·refine wpAny_passesOwn F (a8 (T.done X rfl rfl rfl Z i pins s3 k O X.xe I3 (c M) E L) λr s4 ⟨P,I4⟩=>?_)
  subst P;exact wpAny_execs_nil {k,O,I4,qn}
 ·refine wpAny_passesOwn F (a8 (T.item X rfl rfl rfl Z i pins s3 k O X.xe I3 (c M) E go) λr s4 ⟨u,P,h4⟩=>?_)
  subst P;refine wpAny_passesOwn F (a8 h4 λ_ s5 ⟨x,H5,I5,r5,y5,B,U⟩=>?_);have Q:=I5.pinned (c U) (T.obj _ _ B);refine wpAny_passesOwn F (a8 (hg _ s5 k H5 x u _ Q r5 (step x H5 y5)) λ_ s6 ⟨R,H6,I6,q6⟩=>?_);refine wpAny_passesOwn F (a8 (p _ s6 R H6 _ I6 q6) λf V z=>?_)
  have t:∀{a:St} {q:Hp},Inv X (pins++ez C s5.heap) a q V->N a q->∃m,m<n/\∃i σ' H',Inv X pins σ' H' V/\Y i V.heap/\(∀b∈C,H' b=none)/\W i m σ' H':=λ{a q} j K=>by
   obtain⟨m',hm,w7⟩:=hN a q K;refine{m',hm,i+1,a,q,j.fi,T.keep _ _ _ B λb p o e=>(j.pin (b,o) (zx _ (zx _ (Av p e)))).1,λb p=>?_,w7};obtain⟨o,e,d⟩:=T.obj _ _ B b p;exact(j.pin (b,o) (zx _ (zx _ (Av p e)))).2.1
  cases f with
  |next=>obtain⟨a,q,j,K⟩:=z;exact t j K
  |cont=>obtain⟨a,q,j,K⟩:=z;exact t j K
  |brk=>obtain⟨a,q,j,z⟩:=z;exact{a,q,j.fi,z}
  |ret v=>obtain⟨x7,a,q,j,r7,z⟩:=z;exact{x7,a,q,j.fi,r7,z}
end
def mS{a:Addr}{xs:List V}{g:TG}{tb:TS}{D:Ends}{σ:St}{H:Hp}(b:Nat->St->Hp->Prop)(k:b 0 σ H)(j:∀i σ H,i≤xs.length->b i σ H->aw H a xs)(hs:∀i x σ H,xs[i]?=some x->b i σ H->g x σ H λc H2=>tb { D with nx:=b (i+1),ct:=b (i+1),bk:=D.nx } c H2)(hd:∀σ H,b xs.length σ H->D.nx σ H) :
  ∃W:Nat->Nat->St->Hp->Prop,(∃m,W 0 m σ H)/\∀i m σ H,W i m σ H →
   ((rG a).stop i H/\D.nx σ H)\/((rG a).go i H/\∃N:St->Hp->Prop,(∀σ' H',N σ' H'->∃f,f<m/\W (i+1) f σ' H')/\∀x H',(rG a).vl i H x H'->g x σ H' λc H2=>tb { D with nx:=N,ct:=N,bk:=D.nx } c H2):=by
 refine{λi m σ H=>m=xs.length - i/\i≤xs.length/\b i σ H,{xs.length,by simp,Nat.zero_le _,k},?_};rintro i m σ H ⟨rfl,hi,p⟩;have q:=j i σ H hi p
 by_cases d:i<xs.length
 ·refine .inr {{xs,xs[i],q,by simp[d]},b (i+1),λσ' H' h=>{xs.length - (i+1),(),U,d,h},λx H' y=>?_}
  obtain⟨e,y⟩:=y;subst e;exact hs i x σ _ (y xs q) p
 ·have e:i=xs.length:=()
  subst e;exact .inl {{xs,q,qb _},hd σ H p}
def tI{lo:Int}{n:Nat}{g:TG}{tb:TS}{D:Ends}{σ:St}{H:Hp}(a:Nat->St->Hp->Prop)(h:a 0 σ H)(hs:∀i σ H,i<n->a i σ H->g (.int (lo+i)) σ H λc H2=>tb { D with nx:=a (i+1),ct:=a (i+1),bk:=D.nx } c H2)(hd:∀σ H,a n σ H->D.nx σ H) :
  ∃W:Nat->Nat->St->Hp->Prop,(∃m,W 0 m σ H)/\∀i m σ H,W i m σ H →
   ((Eo lo n).stop i H/\D.nx σ H)\/((Eo lo n).go i H/\∃N:St->Hp->Prop,(∀σ' H',N σ' H'->∃d,d<m/\W (i+1) d σ' H')/\∀x H',(Eo lo n).vl i H x H'->g x σ H' λc H2=>tb { D with nx:=N,ct:=N,bk:=D.nx } c H2):=by
 refine{λi m σ H=>m=n - i/\i≤n/\a i σ H,{n,by simp,Nat.zero_le _,h},?_};rintro i m σ H ⟨rfl,hi,p⟩
 by_cases b:i<n
 ·refine .inr {b,a (i+1),λσ' H' f=>{n - (i+1),(),U,b,f},λx H' y=>?_}
  obtain⟨e,y⟩:=y;subst e y;exact hs i σ _ b p
 ·have e:i=n:=()
  subst e;exact .inl {qb _,hd σ H p}
abbrev R2:=V->V->Hp->VK->Prop
def cw(X:Cx)(f:Value->Value->Sem Value)(r:R2):Prop :=
 ∀(pins:List (Addr×Obj)) (s:Shared) (σ:St) (H:Hp) (x y:V) (v u:Value) (Q:VK),Inv X pins σ H s->RelV x v->RelV y u->r x y H Q →
  wpAny (model X.prog X.w) X.A (f v u) (EP X pins σ Q) X.xe s
def QU(X:Cx)(f:Value->Sem Value)(r:V->Hp->VK->Prop):Prop :=
 ∀(pins:List (Addr×Obj)) (s:Shared) (σ:St) (H:Hp) (x:V) (v:Value) (Q:VK),Inv X pins σ H s->RelV x v->r x H Q →
  wpAny (model X.prog X.w) X.A (f v) (EP X pins σ Q) X.xe s
def bj(X:Cx)(f:Value)(r:List V->Hp->VK->Prop):Prop :=
 ∀(pins:List (Addr×Obj)) (s:Shared) (σ:St) (H:Hp) (xs:List V) (us:List Value) (Q:VK),Inv X pins σ H s->aA xs us->r xs H Q →
  wpAny (model X.prog X.w) X.A (call f us) (EP X pins σ Q) X.xe s
def p_(r:R2)(ta tb:TE):TE:=λσ H Q=>ta σ H λx H1=>tb σ H1 λy H2=>r x y H2 Q
def RI(r:V->Hp->VK->Prop)(ta:TE):TE:=λσ H Q=>ta σ H λx H1=>r x H1 Q
inductive rI(C:Int->Int->Prop)(g:Int->Int->V)(x y:V)(H:Hp)(Q:VK):Prop
 |mk(i j:_)(_:x=.int i)(_:y=.int j)(_:C i j)(_:Q (g i j) H)
inductive uE(g:Int->Int->V)(x y:V)(H:Hp)(Q:VK):Prop
 |mk(i j:_)(_:x=.int i)(_:y=.int j)(_:Q (g i j) H)
inductive rU(g:Int->V)(x:V)(H:Hp)(Q:VK):Prop
 |mk(i:_)(_:x=.int i)(_:Q (g i) H)
section
variable {X:Cx}{a b c:Expr}{ta tb tc:TE}{pos:Pos}
def Bo(m:PE X a ta)(i:PE X b tb){pins:List (Addr×Obj)}{s:Shared}{σ:St}{H:Hp}{R:V->V->Hp->Prop}(I:Inv X pins σ H s)(h:ta σ H λx H1=>tb σ H1 λy H2=>R x y H2){Q:Value->Shared->Prop}{f:Value->Value->Sem Value}(hf:∀v u e x y H2,Inv X pins σ H2 e->RelV x v->RelV y u->R x y H2->wpAny (model X.prog X.w) X.A (f v u) Q X.xe e) :
  wpAny (model X.prog X.w) X.A (eval a X.env) (λv d=>wpAny (model X.prog X.w) X.A (eval b X.env) (λu c=>wpAny (model X.prog X.w) X.A (f v u) Q X.xe c) X.xe d) X.xe s:=by
 refine a8 (m pins s σ H _ I h) λv j ⟨x,H1,o,p,g⟩=>?_;refine a8 (i pins j σ H1 _ o g) λu e ⟨y,H2,l,n,k⟩=>?_;exact hf v u e x y H2 l p n k
def ah(j:cw X (binaryOp op) r)(i:PE X a ta)(e:PE X b tb):PE X (.BinOp a op b pos) (p_ r ta tb):=by
 refine{?_};intro pins s σ H Q I h;exact wpAny_BinOp (Bo i e I h λv u d x y H2 g f c q=>j pins d σ H2 x y v u Q g f c q)
def ur(g:QU X (unaryOp op) r)(d:PE X a ta):PE X (.UnaryOp op a pos) (RI r ta):=by
 refine{?_};intro pins s σ H Q I h;exact UnaryOp_ (a8 (d pins s σ H _ I h) λv c ⟨x,H1,e,f,b⟩=>g pins c σ H1 x v Q e f b)
def Ji{g:Int->Int->Int}(a:∀(i j:Int) (t u:Tok) (s:Shared) (Q:Value->Shared->Prop) (E:Value->Shared->Prop),C i j->Q (.int (g i j) s.toks) { s with toks:=s.toks+1 }->wpAny (model X.prog X.w) X.A (f (.int i t) (.int j u)) Q E s) :
  cw X f (rI C λi j=>.int (g i j)):=by
 intro pins s σ H x y v u Q I c d h;obtain⟨i,j,rfl,rfl,b,q⟩:=h;obtain⟨t,rfl⟩:=c;obtain⟨t',rfl⟩:=d;exact a i j t t' s _ _ b {.int (g i j),H,I.tok _,{_,U},q}
def FT{g:Int->Int->Int}(a:∀(i j:Int) (t u:Tok) (s:Shared) (Q:Value->Shared->Prop) (E:Value->Shared->Prop),Q (.int (g i j) s.toks) { s with toks:=s.toks+1 }->wpAny (model X.prog X.w) X.A (f (.int i t) (.int j u)) Q E s) :
  cw X f (uE λi j=>.int (g i j)):=by
 intro pins s σ H x y v u Q I b c h;obtain⟨i,j,rfl,rfl,q⟩:=h;obtain⟨t,rfl⟩:=b;obtain⟨t',rfl⟩:=c;exact a i j t t' s _ _ {.int (g i j),H,I.tok _,{_,U},q}
def r_{g:Int->Int->Bool}(a:∀(i j:Int) (t u:Tok) (s:Shared) (Q:Value->Shared->Prop) (E:Value->Shared->Prop),Q (.bool (g i j)) s->wpAny (model X.prog X.w) X.A (f (.int i t) (.int j u)) Q E s) :
  cw X f (uE λi j=>.bl (g i j)):=by
 intro pins s σ H x y v u Q I b c h;obtain⟨i,j,rfl,rfl,q⟩:=h;obtain⟨t,rfl⟩:=b;obtain⟨t',rfl⟩:=c;exact a i j t t' s _ _ {.bl (g i j),H,I,U,q}
def wK(i j:Int):Prop:=0<j/\j<1073741824
def Q8(i j:Int):Prop:=0≤j/\j≤1000000/\i.natAbs<2 ^ 64
def AD(i j:Int):Prop:=(-(2 ^ 64)<i/\i<2 ^ 64)\/(-(2 ^ 64)<j/\j<2 ^ 64)
def AD.ok(h:AD i j):IntMulOk i j:=by
 rcases h with⟨h1,h2⟩|⟨h1,h2⟩
 ·exact .of_left (intBits_le_64 h1 h2)
 ·exact .of_right (intBits_le_64 h1 h2)
def cP:cw X (binaryOp .Add) (uE λi j=>.int (i+j)):=FT λ_ _ _ _ _ _ _ q=>add_int q
def ng:cw X (binaryOp .Sub) (uE λi j=>.int (i - j)):=FT λ_ _ _ _ _ _ _ q=>sub_int q
def f7:cw X (binaryOp .Mult) (rI AD λi j=>.int (i * j)):=Ji λ_ _ _ _ _ _ _ a q=>mul_int q a.ok
def de:cw X (binaryOp .FloorDiv) (rI wK λi j=>.int (i / j)):=Ji λi j _ _ _ _ _ a q=>by
 have h1:(0:Int)<j:=a.1;have h2:j<1073741824:=a.2;exact floordiv_int () (by rw[Int.fdiv_eq_ediv_of_nonneg i ()];exact q) (.inl (PyProof.noPylong_small ()))
def bJ:cw X (binaryOp .Mod) (rI (λ_ j=>0<j) λi j=>.int (i % j)):=Ji λi j _ _ _ _ _ a q=>by
 have h1:(0:Int)<j:=a;exact mod_int' () (by rw[Int.fmod_eq_emod_of_nonneg i ()];exact q)
def kO:cw X (binaryOp .Pow) (rI Q8 λi j=>.int (i ^ j.toNat)):=Ji λ_ _ _ _ _ _ _ a q=>pow_int_small a.1 a.2.1 a.2.2 q
def Sb{g:Int->Int}(a:∀(i:Int) (t:Tok) (s:Shared) (Q:Value->Shared->Prop) (E:Value->Shared->Prop),Q (.int (g i) s.toks) { s with toks:=s.toks+1 }->wpAny (model X.prog X.w) X.A (f (.int i t)) Q E s) :
  QU X f (rU λi=>.int (g i)):=by
 intro pins s σ H x v Q I b h;obtain⟨i,rfl,q⟩:=h;obtain⟨t,rfl⟩:=b;exact a i t s _ _ {.int (g i),H,I.tok _,{_,U},q}
def Gi:QU X (unaryOp .USub) (rU λi=>.int (-i)):=Sb λ_ _ _ _ _ q=>neg_int q
end
def Iv:V->V->Bool
 |.aT,.aT=>true|.aT,.int _=>true|.int _,.aT=>true|.aT,.bl _=>true|.bl _,.aT=>true|.aT,.str _=>true|.str _,.aT=>true
 |.int _,.int _=>true|.bl _,.bl _=>true|.str _,.str _=>true|.mK _,.mK _=>true
 |.int _,.str _=>true|.str _,.int _=>true|.bl _,.str _=>true|.str _,.bl _=>true
 |_,_=>false
def RP:R2:=λx y H Q=>Iv x y=true/\Q (.bl (decide (x=y))) H
def RG:R2:=λx y H Q=>Iv x y=true/\Q (.bl (!decide (x=y))) H
def Ik:decide (V.int i=V.int j)=(i==j):=by
 rw[wn]
 simp
def Kz:decide (V.bl i=V.bl j)=(i==j):=by
 rw[wn]
 simp
def Iz:decide (V.str i=V.str j)=(i==j):=by
 rw[wn]
 simp
def Gf:decide (V.mK i=V.mK j)=(i.toList==j.toList):=by
 rw[wn];cases i;cases j
 simp
section
variable {X:Cx}{a b c:Expr}{ta tb tc:TE}{pos:Pos}
def bS{pins:List (Addr×Obj)}{σ:St}{H:Hp}{s:Shared}{Q:VK}{k a:Bool}(I:Inv X pins σ H s)(q:Q (.bl k) H)(e:k=a):EP X pins σ Q (.bool a) s:=by
 subst e;exact{.bl k,H,I,U,q}
def aP:cw X (compareOp .Eq) RP:=by
 intro pins s σ H x y v u Q I b a h;obtain⟨hs,q⟩:=h
 cases x with
 |aT =>
  cases b
  cases y with
  |aT=>cases a;exact PySem.EqNone.eq_none_none (bS I q (by simp))
  |bl j=>cases a;exact PySem.EqNone.eq_none_bool (bS I q (by simp))
  |int j=>obtain⟨t',rfl⟩:=a;exact PySem.EqNone.eq_none_int (bS I q (by simp))
  |str j=>obtain⟨t',rfl⟩:=a;exact PySem.EqNone.eq_none_str (bS I q (by simp))
  |_=>exact absurd (show false=true from hs) qp
 |bl i =>
  cases b
  cases y with
  |aT=>cases a;exact PySem.EqNone.eq_bool_none (bS I q (by simp))
  |bl j=>cases a;exact eq_bool (bS I q Kz)
  |str j=>obtain⟨t',rfl⟩:=a;exact PySem.EqMixed.eq_bool_str (bS I q (by simp))
  |_=>exact absurd (show false=true from hs) qp
 |int i =>
  obtain⟨t,rfl⟩:=b
  cases y with
  |aT=>cases a;exact PySem.EqNone.eq_int_none (bS I q (by simp))
  |int j=>obtain⟨t',rfl⟩:=a;exact eq_int (bS I q Ik)
  |str j=>obtain⟨t',rfl⟩:=a;exact PySem.EqMixed.eq_int_str (bS I q (by simp))
  |_=>exact absurd (show false=true from hs) qp
 |str i =>
  obtain⟨t,rfl⟩:=b
  cases y with
  |aT=>cases a;exact PySem.EqNone.eq_str_none (bS I q (by simp))
  |bl j=>cases a;exact PySem.EqMixed.eq_str_bool (bS I q (by simp))
  |int j=>obtain⟨t',rfl⟩:=a;exact PySem.EqMixed.eq_str_int (bS I q (by simp))
  |str j=>obtain⟨t',rfl⟩:=a;exact eq_str (bS I q Iz)
  |_=>exact absurd (show false=true from hs) qp
 |mK i =>
  obtain⟨t,rfl⟩:=b
  cases y with
  |mK j=>obtain⟨t',rfl⟩:=a;exact PySem.W.eq_bytes (bS I q Gf)
  |_=>exact absurd (show false=true from hs) qp
 |_=>cases y <;> exact absurd (show false=true from hs) qp
def fY:cw X (compareOp .NotEq) RG:=by
 intro pins s σ H x y v u Q I b a h;obtain⟨hs,q⟩:=h
 cases x with
 |aT =>
  cases b
  cases y with
  |aT=>cases a;exact PySem.EqNone.ne_none_none (bS I q (by simp))
  |bl j=>cases a;exact PySem.EqNone.ne_none_bool (bS I q (by simp))
  |int j=>obtain⟨t',rfl⟩:=a;exact PySem.EqNone.ne_none_int (bS I q (by simp))
  |str j=>obtain⟨t',rfl⟩:=a;exact PySem.EqNone.ne_none_str (bS I q (by simp))
  |_=>exact absurd (show false=true from hs) qp
 |bl i =>
  cases b
  cases y with
  |aT=>cases a;exact PySem.EqNone.ne_bool_none (bS I q (by simp))
  |bl j=>cases a;exact ne_bool (bS I q (congrArg not Kz))
  |str j=>obtain⟨t',rfl⟩:=a;exact PySem.EqMixed.ne_bool_str (bS I q (by simp))
  |_=>exact absurd (show false=true from hs) qp
 |int i =>
  obtain⟨t,rfl⟩:=b
  cases y with
  |aT=>cases a;exact PySem.EqNone.ne_int_none (bS I q (by simp))
  |int j=>obtain⟨t',rfl⟩:=a;exact ne_int (bS I q (congrArg not Ik))
  |str j=>obtain⟨t',rfl⟩:=a;exact PySem.EqMixed.ne_int_str (bS I q (by simp))
  |_=>exact absurd (show false=true from hs) qp
 |str i =>
  obtain⟨t,rfl⟩:=b
  cases y with
  |aT=>cases a;exact PySem.EqNone.ne_str_none (bS I q (by simp))
  |bl j=>cases a;exact PySem.EqMixed.ne_str_bool (bS I q (by simp))
  |int j=>obtain⟨t',rfl⟩:=a;exact PySem.EqMixed.ne_str_int (bS I q (by simp))
  |str j=>obtain⟨t',rfl⟩:=a;exact ne_str (bS I q (congrArg not Iz))
  |_=>exact absurd (show false=true from hs) qp
 |mK i =>
  obtain⟨t,rfl⟩:=b
  cases y with
  |mK j=>obtain⟨t',rfl⟩:=a;exact PySem.W.ne_bytes (bS I q (congrArg not Gf))
  |_=>exact absurd (show false=true from hs) qp
 |_=>cases y <;> exact absurd (show false=true from hs) qp
def iK:cw X (compareOp .Lt) (uE λi j=>.bl (decide (i<j))):=r_ λ_ _ _ _ _ _ _ q=>lt_int q
def d_:cw X (compareOp .LtE) (uE λi j=>.bl (decide (i≤j))):=r_ λ_ _ _ _ _ _ _ q=>le_int q
def fw:cw X (compareOp .Gt) (uE λi j=>.bl (decide (j<i))):=r_ λ_ _ _ _ _ _ _ q=>gt_int q
def Lz:cw X (compareOp .GtE) (uE λi j=>.bl (decide (j≤i))):=r_ λ_ _ _ _ _ _ _ q=>ge_int q
inductive kI(x y:V)(H:Hp)(Q:VK):Prop
 |mk(i j:_)(_:x=.str i)(_:y=.str j)(_:Q (.bl (!(Builtin.Str.occurrences j i 0 j.length 1).isEmpty)) H)
def Qg:cw X (compareOp .In) kI:=by
 intro pins s σ H x y v u Q I a b h;obtain⟨i,j,rfl,rfl,q⟩:=h;obtain⟨t,rfl⟩:=a;obtain⟨t',rfl⟩:=b;exact in_str (bS I q rfl)
def mv:cw X (compareOp .Is) (λx y H Q=>y=.aT/\Q (.bl (decide (x=.aT))) H):=by
 intro pins s σ H x y v u Q I a b h;obtain⟨rfl,q⟩:=h;cases b;refine is_none_gen (bS I q ?_)
 cases x <;> first
  |(cases a;rfl)
  |(obtain⟨t,rfl⟩:=a;rfl)
def Pm(k:cw X (compareOp op) r)(i:PE X a ta)(e:PE X b tb)(j:behindInMarks op b=false):PE X (.Compare a [op] [b] pos) (p_ r ta tb):=by
 refine{?_};intro pins s σ H Q I h;exact wpAny_Compare1 (Bo i e I h λv u d x y H2 g f c q=>k pins d σ H2 x y v u Q g f c q) j
inductive x9(Q:Bool->Hp->Prop)(x:V)(H':Hp):Prop
 |mk(k:_)(_:x=.bl k)(_:Q k H')
def rf(t:TE):TT:=λσ H Q=>t σ H λx H'=>x9 Q x H'
def O1(t:cw X (compareOp op) r)(n:PE X a ta)(i:PE X b tb)(q:behindInMarks op b=false):PT X (.Compare a [op] [b] pos) (rf (p_ r ta tb)):=by
 refine{?_};intro pins s σ H Q I h
 refine wpAny_isTrue_Compare1 (a8 (n pins s σ H _ I h) λv w ⟨x,H1,A,B,d⟩=>a8 (i pins w σ H1 _ A d) λu f ⟨y,H2,m,o,l⟩ =>
  a8 (t pins f σ H2 x y v u _ m B o l) λc D ⟨z,p,j,C,k,e,g⟩=>?_) q
 subst e;cases C;exact wpAny_truthy_bool {p,j,g}
inductive tN(r':R2)(tc:TE)(σ:St)(Q:VK)(y z:V)(H3:Hp):Prop
 |mk(k:_)(_:z=.bl k)(_:(if k=true then tc σ H3 λw' H4=>r' y w' H4 Q else Q (.bl false) H3))
def nq(r a:R2)(ta tb tc:TE):TE:=λσ H Q=>ta σ H λx H1=>tb σ H1 λy H2=>r x y H2 λz b=>tN a tc σ Q y z b
def Cn(C:cw X (compareOp op) r)(g:cw X (compareOp f) l)(B:PE X a ta)(G:PE X b tb)(o:PE X c tc)(J:lastMarks [op,f] [b,c]=false:=by with_unfolding_all rfl):PE X (.Compare a [op,f] [b,c] pos) (nq r l ta tb tc):=by
 refine{?_};intro pins s σ H Q I h
 refine Compare_chain (a8 (B pins s σ H _ I h) λv O ⟨x,H1,P,R,D⟩=>chain_link (a8 (G pins O σ H1 _ P D) λu N ⟨y,H2,t,m,q⟩ =>
  a8 (C pins N σ H2 x y v u _ t R m q) λd E ⟨z,n,i,S,k,e,j⟩=>?_)) J
 subst e;cases S;refine wpAny_truthy_bool ?_
 cases k with
 |false=>exact ite_ff {.bl false,n,i,U,j}
 |true=>exact ite_tt (chain_last (a8 (o pins E σ n _ i j) λF K ⟨A,L,M,p,w⟩=>g pins K σ L y A u F Q M m p w))
def sN(E:cw X (compareOp op) r)(g:cw X (compareOp f) l)(D:PE X a ta)(K:PE X b tb)(o:PE X c tc)(M:lastMarks [op,f] [b,c]=false:=by with_unfolding_all rfl):PT X (.Compare a [op,f] [b,c] pos) (rf (nq r l ta tb tc)):=by
 refine{?_};intro pins s σ H Q I h
 refine isTrue_chain (a8 (D pins s σ H _ I h) λv U ⟨x,H1,V,W,F⟩=>test_link (a8 (K pins U σ H1 _ V F) λu S ⟨y,H2,t,m,q⟩ =>
  a8 (E pins S σ H2 x y v u _ t W m q) λd G ⟨z,n,i,r3,k,e,j⟩=>?_)) M
 subst e;cases r3;refine wpAny_truthy_bool ?_
 cases k with
 |false =>
  obtain⟨k',w,O⟩:=j;cases w;exact ite_ff {n,i,O}
 |true =>
  refine ite_tt (test_last (a8 (o pins G σ n _ i j) λJ N ⟨B,P,R,p,A⟩=>a8 (g pins N σ P y B u J _ R m p A) λd' s5 ⟨z2,T,Z,L,k2,Y,C⟩=>?_));subst Y;cases L;exact wpAny_truthy_bool {T,Z,C}
def l3:(sizeLine:Nat)<2 ^ 63:=by rw[sizeLine_eq];decide
inductive jB(x y:V)(H:Hp)(Q:VK):Prop
 |mk(i j:_)(_:x=.str i)(_:y=.str j)(_:i.length+j.length≤sizeLine)(_:Q (.str (i++j)) H)
def qO:cw X (binaryOp .Add) jB:=by
 intro pins s σ H x y v u Q I a b h;obtain⟨i,j,rfl,rfl,hz,q⟩:=h;obtain⟨t,rfl⟩:=a;obtain⟨t',rfl⟩:=b;exact add_str (λt' tk=>{.str (i++j),H,I.tok _,{_,U},q}) hz
def vals1(r:aA [x] us):∃u,us=[u]/\RelV x u:=by
 cases r with
 |cons b a=>cases a;exact{_,U,b}
def vals2(r:aA [x,y] us):∃u a,us=[u,a]/\RelV x u/\RelV y a:=by
 cases r with
 |cons d c =>
  cases c with
  |cons e b=>cases b;exact{_,_,U,d,e}
inductive kU(xs:List V)(H:Hp)(Q:VK):Prop
 |mk(i j:_)(_:xs=[.int i,.int j])(_:Q (.int (if j>i then j else i)) H)
def BS(b:X.calm=true):bj X (.builtin "max") kU:=by
 intro pins s σ H xs us Q I r h;obtain⟨i,j,rfl,q⟩:=h;obtain⟨u,c,rfl,⟨t,rfl⟩,⟨t',rfl⟩⟩:=vals2 r;refine max_two_ints (I.ok.hd b) λh' tk k=>{_,H,I.kept k,?_,q}
 by_cases a:j>i
 ·rw[q0 a,q0 a];exact{_,U}
 ·rw[qt a,qt a];exact{_,U}
def n0:bj X (.type "int") (λxs H Q=>(∃i,xs=[.int i]/\Q (.int i) H)\/∃k,xs=[.bl k]/\Q (.int (if k then 1 else 0)) H):=by
 intro pins s σ H xs us Q I r h;rcases h with⟨i,rfl,q⟩|⟨k,rfl,q⟩
 ·obtain⟨u,rfl,t,rfl⟩:=vals1 r
  exact call_int_int {.int i,H,I,{_,U},q}
 ·obtain⟨u,rfl,a⟩:=vals1 r
  cases a;exact call_int_bool {.int (if k then 1 else 0),H,I.tok _,{_,U},q}
end
structure k3(h:Heap)(x dx C:Addr)(mA:Str->Option Value):Prop where
 obj:h.get? x=some (PySem.W.instObj C dx)
 ns:h.Ns1 dx mA
 ne:dx≠x
def OC{h:Heap}{dx:Addr}{mA:Str->Option Value}(n:h.Ns1 dx mA):∃od,h.get? dx=some od/\∀name,PySem.W.lookIn name od=some (mA name):=by
 obtain⟨o,es,ep,g,hd,c,_,f⟩:=n;refine{o,g,λname=>?_};have e:=f name;unfold nsFind findBy at e;rw[←Array.find?_toList]at e;unfold PySem.W.lookIn;rw[hd];dsimp only
 split
 ·rename_i y q
  rw[q]at e;exact congrArg some e
 ·rename_i q
  rw[q]at e
  have a:es.toList.any (·.refKey)=false:=by
   rw[List.any_eq_false];intro y i;obtain⟨z,t,b⟩:=c y (ji.mp i)
   simp[DictEntry.refKey,b]
  have d:¬es.toList.any (·.refKey)=true:=by rw[a];exact qp
  rw[qt d];exact congrArg some e
def k3.look(I:k3 h x dx C mA):∃od,PySem.W.InstAt h x (PySem.W.instObj C dx) C (some od)/\∀name,PySem.W.lookIn name od=some (mA name) :=
 let⟨od,a,b⟩:=OC I.ns
 {od,{I.obj,U,U,a},b}
section
variable {prog:Program}{w:World}{A:Around}{E:Value->Shared->Prop}{s:Shared}{K:PySem.W.Frag}{x dx C f:Addr}{mA:Str->Option Value}{name:Str}{v:Value}
def MT(X:K.In s.heap)(I:k3 s.heap x dx C mA)(c:PySem.W.plainGet K C name=true)(d:PySem.W.hasDictIn K C=true)(e:PySem.W.findIn K (.ref C) name=some none)(f:mA name=some v)(b:PySem.W.handedIn v=true)(h:Q v { s with toks:=s.toks+1 }) :
  wpAny (model prog w) A (getAttr (.ref x) name a) Q E s:=by
 obtain⟨od,J,g⟩:=I.look;exact PySem.W.get_value X J (PySem.W.plainGet_of c).1 (PySem.W.findObj_own d e rfl (by rw[g,f])) b h
def N'(X:K.In s.heap)(I:k3 s.heap x dx C mA)(a:PySem.W.plainGet K C name=true)(hf:PySem.W.findIn K (.ref C) name=some (some (.ref f)))(c:PySem.W.isFn K (.ref f)=true)(b:mA name=none)(h:Q (.ref f,[.ref x]) s) :
  wpAny (model prog w) A (getMethod (.ref x) name pl) Q E s:=by
 obtain⟨od,J,d⟩:=I.look;exact PySem.W.method_fn X J (PySem.W.plainGet_of a).1 (PySem.W.plainGet_of a).2 hf (beq_iff_eq.mp c) (by show(PySem.W.lookIn name od).map (·.isSome)=some false;rw[d,b];rfl) h
def NT(X:K.In s.heap)(I:k3 s.heap x dx C mA)(hs:PySem.W.findIn K (.ref C) "__setattr__"=some (some (.builtin "object.__setattr__")))(q:PySem.W.plainOver K C=true)(o:PySem.W.takerIn K C name=some none)(p:PySem.W.hasDictIn K C=true)(hw:PySem.Within mA j)(hsz:j.length≤sizeLine)(h:∀h',k3 h' x dx C (λy=>if y=name then some v else mA y)->Heap.SameBut dx s.heap h'->Q Unit.unit { s with heap:=h',toks:=s.toks+2 }) :
  wpAny (model prog w) A (setAttr (.ref x) name v) Q E s:=by
 obtain⟨od,J,u⟩:=I.look;refine PySem.W.set_plain X J hs (PySem.W.osa_open (s:={ s with toks:=s.toks+1 }) (r:=none) X J q o λb=>?_);obtain⟨t,l,e⟩:=PySem.W.any_some p;have m:s.heap.get? x=some ⟨.ref C,some dx,.plain,#[]⟩:=I.obj;refine qq (qs (qq (qq (wpAny_loadPart m (qq (PySem.W.Looks.here (s:={ s with toks:=s.toks+1 }) (PySem.W.looks_clsIn X l) ?_))))));rw[e];refine qs (a:=some dx) (qq (qs (qq ?_)));refine wpAny_nsSet1 (s:={ s with toks:=s.toks+1 }) I.ns λh' d c=>?_;obtain⟨z,n,k,g,i,f⟩:=d.count (PySem.Within.cons name v hw);refine qq (wpAny_lookBehind g (by rw[i];exact pastItsLine_dict (qg f (by rw[qr];omega))) ?_);exact qs (h _ {(c.2 _ (Ne.symm I.ne)).trans I.obj,d,I.ne} c)
def N4(X:K.In s.heap)(b:PySem.W.makesIn K C=true)(hi:PySem.W.findIn K (.ref C) "__init__"=some (some (.ref f)))(hf:PySem.W.typeIn K (.ref f)=some (.type "function"))(h:codeAny (model prog w) (A.under (.builtin "type.__call__" {.ref C::vs,a})) (.call (.ref f) {.ref (↑s+1)::vs,a}) (PySem.W.InitBack (↑s+1) R)
   { s with heap:=(s.heap.push PySem.W.emptyDict).push (PySem.W.instObj C ↑s) }) :
  codeAny (model prog w) A (.call (.ref C) {vs,a}) R s:=by
 obtain⟨c,g,d,t,e⟩:=s;exact PySem.W.make_core (PySem.W.makes_of X b) (PySem.W.looks_findIn X hi) (λself=>PySem.W.bind_fn X self hf) (.inl rfl) h
end
def cQ(f:Str)(v:V):List (Str×V)->List (Str×V)
 |[]=>[(f,v)]
 |(g,x)::r=>if g=f then(g,v)::r else(g,x)::cQ f v r
theorem cj(f g:Str)(v:V):∀fs:List (Str×V),(cQ f v fs).lookup g=if g=f then some v else fs.lookup g
 |[]=>by
  show List.lookup g [(f,v)]=_
  by_cases h:g=f
  ·have a:(g==f)=true:=beq_iff_eq.mpr h
   simp only[List.lookup,a,if_pos h]
  ·have a:(g==f)=false:=beq_eq_false_iff_ne.mpr h
   simp only[List.lookup,a,if_neg h]
 |(k,x)::r=>by
  have c:=cj f g v r;rw[show cQ f v ((k,x)::r)=(if k=f then(k,v)::r else(k,x)::cQ f v r) from rfl]
  by_cases b:k=f
  ·rw[q0 b]
   by_cases h:g=k
   ·have a:(g==k)=true:=beq_iff_eq.mpr h
    simp only[List.lookup,a,if_pos (h.trans b)]
   ·have a:(g==k)=false:=beq_eq_false_iff_ne.mpr h
    simp only[List.lookup,a,if_neg (λe:g=f=>h (e.trans b.symm))]
  ·rw[qt b]
   by_cases h:g=k
   ·have a:(g==k)=true:=beq_iff_eq.mpr h
    simp only[List.lookup,a,if_neg (λe:g=f=>b (h.symm.trans e))]
   ·have a:(g==k)=false:=beq_eq_false_iff_ne.mpr h
    simp only[List.lookup,a]
    exact c
theorem BO(f:Str)(v:V):∀fs:List (Str×V),f∈(cQ f v fs).map (·.1)/\∀g,g∈fs.map (·.1)->g∈(cQ f v fs).map (·.1)
 |[]=>{by simp[cQ],λg h=>by simp at h}
 |(k,x)::r=>by
  obtain⟨i1,i2⟩:=BO f v r;rw[show cQ f v ((k,x)::r)=(if k=f then(k,v)::r else(k,x)::cQ f v r) from rfl]
  by_cases a:k=f
  ·rw[q0 a]
   subst a;exact{by simp,λg h=>by simpa using h}
  ·rw[qt a]
   refine{?_,λg h=>?_}
   ·rw[qi]
    exact qo _ i1
   ·rw[qi]at h ⊢
    rcases qv.mp h with e|e
    ·exact qv.mpr (.inl e)
    ·exact qo _ (i2 g e)
theorem F0(f:Str)(v:V):∀fs:List (Str×V),(cQ f v fs).length≤fs.length+1
 |[]=>by simp[cQ]
 |(k,x)::r=>by
  have b:=F0 f v r;rw[show cQ f v ((k,x)::r)=(if k=f then(k,v)::r else(k,x)::cQ f v r) from rfl]
  by_cases a:k=f
  ·rw[q0 a,qr,qr];omega
  ·rw[qt a,qr,qr];omega
def dP.some_of(r:dP (some v) o):∃u,o=some u/\RelV v u:=by
 cases o with
 |none=>exact(show False from r).elim
 |some u=>exact{u,U,r}
def dP.none_of(r:dP none o):o=none:=by
 cases o with
 |none=>rfl
 |some u=>exact(show False from r).elim
def ME(r:RelV v u):PySem.W.handedIn u=true:=by
 cases v with
 |aT=>cases(show u=Value.none from r);rfl
 |bl b=>cases(show u=Value.bool b from r);rfl
 |int i=>obtain⟨t,e⟩:=(show ∃t,u=Value.int i t from r);cases e;rfl
 |str x=>obtain⟨t,e⟩:=(show ∃t,u=Value.str x t from r);cases e;rfl
 |mK b=>obtain⟨t,e⟩:=(show ∃t,u=Value.bytes b t from r);cases e;rfl
 |Ck b=>obtain⟨t,e⟩:=(show ∃t,u=Value.float b t from r);cases e;rfl
 |ref a=>cases(show u=Value.ref a from r);rfl
 |ty n=>cases(show u=Value.type n from r);rfl
section
variable {P:Program}{w:World}{H H':Hp}{h h':Heap}{a C dx:Addr}{fs fs':List (Str×V)}
def pU(b:dm P w H h)(e:H a=some (.ins C dx fs)):∃mA,k3 h a dx C mA/\(∀f,dP (fs.lookup f) (mA f))/\PySem.Within mA (fs.map (·.1))/\fs.length≤1000/\H dx=some (.own a):=by
 obtain⟨d,z,ne,c,mA,n,r,q⟩:=(show aQ P w H h a (.ins C dx fs) from b a _ e);exact{mA,{c,n,ne},r,q,z,d}
end
structure j_(K:PySem.W.Frag)(C:Addr):Prop where
 pg:PySem.W.plainGet K C Str.empty=true
 hd:PySem.W.hasDictIn K C=true
 po:PySem.W.plainOver K C=true
 sa:PySem.W.findIn K (.ref C) "__setattr__"=some (some (.builtin "object.__setattr__"))
def j_.get{K:PySem.W.Frag}{C:Addr}(c:j_ K C)(f:Str):PySem.W.plainGet K C f=true:=c.pg
def cJ(K:PySem.W.Frag)(C:Addr)(f:Str):Prop:=PySem.W.findIn K (.ref C) f=some none
def cJ.Lf{K:PySem.W.Frag}{C:Addr}{f:Str}(n:cJ K C f):PySem.W.takerIn K C f=some none:=by
 unfold PySem.W.takerIn;rw[show PySem.W.findIn K (.ref C) f=some none from n];rfl
structure mF(K:PySem.W.Frag)(C:Addr)(m:Str)(f:Addr):Prop where
 at_:PySem.W.findIn K (.ref C) m=some (some (.ref f))
 fn:PySem.W.isFn K (.ref f)=true
 kp:PySem.W.keepIn K (.ref f)=true
section
variable {X:Cx}{pins:List (Addr×Obj)}{σ:St}{H:Hp}{s:Shared}{a C dx:Addr}{fs:List (Str×V)}{f:Str}{v:V}{A:Around}{E:Value->Shared->Prop}
def PN(I:Inv X pins σ H s)(e:H a=some (.ins C dx fs))(c:j_ X.K C)(n:cJ X.K C f)(l:fs.lookup f=some v)(h:∀u s',Inv X pins σ H s'->RelV v u->Q u s'):wpAny (model X.prog X.w) A (getAttr (.ref a) f b) Q E s:=by
 obtain⟨mA,O,r,_,_,_⟩:=pU I.a6 e;obtain⟨u,g,d⟩:=dP.some_of (v:=v) (o:=mA f) (by rw[←l];exact r f);exact MT I.f5 O (c.get f) c.hd n g (ME d) (h u _ (I.tok _) d)
def Ky{g:Addr}(I:Inv X pins σ H s)(e:H a=some (.ins C dx fs))(c:j_ X.K C)(k:mF X.K C m g)(l:fs.lookup m=none)(h:Q (.ref g,[.ref a]) s):wpAny (model X.prog X.w) A (getMethod (.ref a) m pl) Q E s:=by
 obtain⟨mA,O,r,_,_,_⟩:=pU I.a6 e;have hn:mA m=none:=dP.none_of (by rw[←l];exact r m);exact N' I.f5 O (c.get m) k.at_ k.fn hn h
def Pd(I:Inv X pins σ H s)(e:H a=some (.ins C dx fs))(c:j_ X.K C)(n:cJ X.K C f)(v:fs.length<1000)(l:RelV y u)(h:∀s',Inv X pins σ (upd H a (.ins C dx (cQ f y fs))) s'->Q Unit.unit s'):wpAny (model X.prog X.w) A (setAttr (.ref a) f u) Q E s:=by
 obtain⟨mA,O,r,i,_,j⟩:=pU I.a6 e
 have hz:(fs.map (·.1)).length≤sizeLine:=by rw[qa,sizeLine_eq];omega
 refine NT I.f5 O c.sa c.po n.Lf c.hd i hz λh' d m=>h _ ?_
 have hd:∃o,h'.get? dx=some o:=let⟨o,_,_,t,_⟩:=d.ns;{o,t}
 refine I.write (x:=a) (e:=dx) (by rw[e];exact True.intro) (.inr j) (λb q p z=>(m.2 b p).trans z) hd ?_;refine{by rw[aD O.ne];exact j,?_,O.ne,d.obj,_,d.ns,λg=>?_,λg k=>?_}
 ·have:=F0 f y fs;omega
 ·show dP ((cQ f y fs).lookup g) (if g=f then some u else mA g)
  rw[cj]
  by_cases q:g=f
  ·rw[q0 q,q0 q];exact l
  ·rw[qt q,qt q];exact r g
 ·by_cases q:g=f
  ·rw[q];exact(BO f y fs).1
  ·refine(BO f y fs).2 g (i g λz=>k ?_)
   show(if g=f then some u else mA g)=none;rw[qt q];exact z
def Inv.made(I:Inv X pins σ H s):Inv X pins σ (upd (upd H ↑s (.own (↑s+1))) (↑s+1) (.ins C ↑s []))
  { s with heap:=(s.heap.push PySem.W.emptyDict).push (PySem.W.instObj C ↑s) }:=by
 have c:(s.heap.push PySem.W.emptyDict).get? ↑s=some PySem.W.emptyDict:=qD s.heap rfl
 have g:((s.heap.push PySem.W.emptyDict).push (PySem.W.instObj C ↑s)).get? (↑s+1)=some (PySem.W.instObj C ↑s):=by
  have:=qD (s.heap.push PySem.W.emptyDict) (o:=PySem.W.instObj C ↑s) rfl
  rwa [Heap.size_push]at this
 have h:(s.heap.push PySem.W.emptyDict).Ns ↑s (λ_=>none):={PySem.W.emptyDict,#[],_,c,U,(λe d=>absurd d (by simp)),λ_=>rfl};have f:=I.laid (a:=↑s) (o:=.own (↑s+1)) (h':=s.heap.push PySem.W.emptyDict) (t':=s.toks) (λb u q=>qC _ q) (qb _) {_,c};refine f.laid (a:=↑s+1) (o:=.ins C ↑s []) (t':=s.toks) (λb u q=>qC _ q) (Nat.le_of_eq (Heap.size_push _ _)) ?_;have ne:↑s≠↑s+1:=qd (z7 _);refine{by rw[aD ne,aG],zd _,ne,g,λ_=>none,(Heap.Ns1.of_empty h).at λo q=>qC _ q,λ_=>True.intro,λy i=>absurd rfl i}
def Ka(b:attributeBase e f env (eval e env)=eval e env)(h:wpAny (model prog w) A (eval e env) (λo a=>wpAny (model prog w) A (getAttr o f true) Q E a) E s):wpAny (model prog w) A (eval (.Attribute e f pos) env) Q E s :=
 Attribute_any_ h (by rw[arm_eval_Attribute,b])
end
section
variable {X:Cx}{pins:List (Addr×Obj)}{σ:St}{H:Hp}{s:Shared}{A:Around}{E:Value->Shared->Prop}{Q:Value->Shared->Prop}{c:Value}{b:Bool}
inductive fb(K:PySem.W.Frag)(H:Hp):V->Value->Prop where
 |aT:fb K H .aT (.type "NoneType")
 |bl (x:Bool):fb K H (.bl x) (.type "bool")
 |int (i:Int):fb K H (.int i) (.type "int")
 |str (x:Str):fb K H (.str x) (.type "str")
 |Ck (x:UInt64):fb K H (.Ck x) (.type "float")
 |lst {a:Addr} {xs:List V} (e:H a=some (.lst xs)):fb K H (.ref a) (.type "list")
 |eD {a:Addr} {o:Obj} {xs:List V} (e:H a=some (.eD o (.lst xs))):fb K H (.ref a) (.type "list")
 |tup {a:Addr} {xs:List V} (e:H a=some (.tup xs)):fb K H (.ref a) (.type "tuple")
 |dK {a:Addr} {kvs:List (Key×V)} (e:H a=some (.dK kvs)):fb K H (.ref a) (.type "dict")
 |dT {a:Addr} {kvs:List (List Key×V)} (e:H a=some (.dT kvs)):fb K H (.ref a) (.type "dict")
 |dG {a:Addr} {kvs:List (KD×V×V)} (e:H a=some (.dG kvs)):fb K H (.ref a) (.type "dict")
 |ins {a C dx:Addr} {fs:List (Str×V)} (e:H a=some (.ins C dx fs)) (cl:j_ K C) (ha:PySem.W.findIn K (.ref C) "__class__"=some (some (.builtin "object.__class__")))
   (hn:PySem.W.specialIn K (.builtin "object.__class__") "__get__"=some (some (.builtin "getset_descriptor.__get__"))) (htk:PySem.W.takesIn K (.builtin "object.__class__")=some true)
   (hm:PySem.W.mroIn K C (.type "object")=some true):fb K H (.ref a) (.ref C)
def Og{u t:Value}(I:Inv X pins σ H s)(f:RelV x u)(ty:fb X.K H x t)(e:PySem.W.kitOne X.K t c=some b)(h:∀tk,Q (.bool b) { s with toks:=tk }) :
  wpAny (model X.prog X.w) A (call (.builtin "isinstance") [u,c]) Q E s:=by
 cases ty with
 |aT=>cases(show u=Value.none from f);exact PySem.W.kia_one PySem.W.kitx_none I.f5 True.intro e (λz=>nomatch z) h
 |bl y=>cases(show u=Value.bool y from f);exact PySem.W.kia_one PySem.W.kitx_bool I.f5 True.intro e (λz=>nomatch z) h
 |int i=>obtain⟨t,q⟩:=(show ∃t,u=Value.int i t from f);cases q;exact PySem.W.kia_one PySem.W.kitx_int I.f5 True.intro e (λz=>nomatch z) h
 |str y=>obtain⟨t,q⟩:=(show ∃t,u=Value.str y t from f);cases q;exact PySem.W.kia_one PySem.W.kitx_str I.f5 True.intro e (λz=>nomatch z) h
 |Ck y=>obtain⟨t,q⟩:=(show ∃t,u=Value.float y t from f);cases q;exact PySem.W.kia_one PySem.W.kitx_float I.f5 True.intro e (λz=>nomatch z) h
 |@lst a xs d =>
  cases(show u=Value.ref a from f);obtain⟨_,_,n,_,h1⟩:=(show aQ X.prog X.w H s.heap a (.lst xs) from I.a6 a _ d);exact PySem.W.kia_one PySem.W.kitx_list I.f5 {_,h1,U} e (λz=>nomatch z) h
 |@eD a k xs d =>
  cases(show u=Value.ref a from f);obtain⟨_,_,_,n,_,h1⟩:=(show aQ X.prog X.w H s.heap a (.eD k (.lst xs)) from I.a6 a _ d);exact PySem.W.kia_one PySem.W.kitx_list I.f5 {_,h1,U} e (λz=>nomatch z) h
 |@tup a xs d =>
  cases(show u=Value.ref a from f);obtain⟨_,_,_,p⟩:=(show aQ X.prog X.w H s.heap a (.tup xs) from I.a6 a _ d);obtain⟨o,h1,h2,_⟩:=p;exact PySem.W.kia_one PySem.W.kitx_tuple I.f5 {o,h1,h2} e (λz=>nomatch z) h
 |@dK a kvs d =>
  cases(show u=Value.ref a from f);obtain⟨_,_,vs,_,p⟩:=(show aQ X.prog X.w H s.heap a (.dK kvs) from I.a6 a _ d);obtain⟨o,es,ep,h1,h2,_⟩:=p;exact PySem.W.kia_one PySem.W.kitx_dict I.f5 {o,h1,h2.1} e (λz=>nomatch z) h
 |@dT a kvs d =>
  cases(show u=Value.ref a from f);obtain⟨_,_,xs,_,o,es,ep,h1,h2,_⟩:=(show aQ X.prog X.w H s.heap a (.dT kvs) from I.a6 a _ d);exact PySem.W.kia_one PySem.W.kitx_dict I.f5 {o,h1,h2.1} e (λz=>nomatch z) h
 |@dG a kvs d =>
  cases(show u=Value.ref a from f);obtain⟨_,_,xs,_,o,es,ep,h1,h2,_⟩:=(show aQ X.prog X.w H s.heap a (.dG kvs) from I.a6 a _ d);exact PySem.W.kia_one PySem.W.kitx_dict I.f5 {o,h1,h2.1} e (λz=>nomatch z) h
 |@ins a C dx fs d cl j hn g l =>
  cases(show u=Value.ref a from f);obtain⟨mA,O,_⟩:=pU I.a6 d;obtain⟨od,J,_⟩:=O.look;exact PySem.W.kia_one (PySem.W.kitx_own (cl.get _) cl.hd j hn g l) I.f5 J e (λz=>nomatch z) h
end
structure aZ(k:Nat)(A:Around):Prop where
 hd:A.handled=none
 dp:A.depth+3 * k+5<recursionLimit
 un:A.units+16 * k+200<cLine
 gd:A.guards=some []
def aZ.mono{j k:Nat}(r:aZ k A)(h:j≤k):aZ j A:={r.hd,by have:=r.dp;omega,by have:=r.un;omega,r.gd}
theorem aZ.deeper{k:Nat}(r:aZ (k+1) A)(env:Env):aZ k (A.deeper env) :=
 {r.hd,by have:=r.dp;show A.depth+1+3 * k+5<_;omega,by have:=r.un;show A.units+3+16 * k+200<_;omega,r.gd}
def O7{A:Around}{C:Addr}{us:List Value}{a:List (Str×Value)}:(A.under (.builtin "type.__call__" {.ref C::us,a})).depth=A.depth+1:=by
 first|rfl|simp[Around.under,Code.weight,Code.isCreation,Code.isGuard,Code.isCaller,Code.frames,Code.isFrame,guardIds]
def QC{A:Around}{C:Addr}{us:List Value}{a:List (Str×Value)}:(A.under (.builtin "type.__call__" {.ref C::us,a})).units=A.units+1:=by
 first|rfl|simp[Around.under,Code.cUnits,Code.frames,Code.isFrame]
def aZ.make{k:Nat}(r:aZ (k+1) A)(C:Addr)(us:List Value)(a:List (Str×Value)):aZ k (A.under (.builtin "type.__call__" {.ref C::us,a})) :=
 {r.hd,by have:=r.dp;rw[O7];omega,by have:=r.un;rw[QC];omega,by first|exact r.gd|(have h:=r.gd;simp[Around.under,pushGuards,Code.guards,Code.isGuard,guardIds,h])}
theorem aZ.depth{k:Nat}(r:aZ k A):A.depth<recursionLimit:=by have:=r.dp;omega
theorem aZ.units{k:Nat}(r:aZ k A):A.units+64<cLine:=by have:=r.un;omega
def l_:TA:=λ_ H Q=>Q [] H
def iR(ta:TE)(a:TA):TA:=λσ H Q=>ta σ H λx H1=>a σ H1 λxs H2=>Q (x::xs) H2
section
variable {X:Cx}{e:Expr}{es:List Expr}{te:TE}{t:TA}{pos:Pos}
def kH:PA X [] l_:={λ_ _ _ _ H Q I h=>Calls.spliced_nil {[],H,I,.nil,h}}
def CP(g:PE X e te)(b:PA X es t)(hs:starEach (e::es) X.env=(false,eval e X.env)::starEach es X.env:=by rfl):PA X (e::es) (iR te t):=by
 refine{?_};intro pos pins s σ H Q I h;rw[hs];show wpAny _ _ (spliced ((false,eval e X.env)::backTo pos (starEach es X.env))) _ _ s;refine Calls.spliced_cons (a8 (g pins s σ H _ I h) λu c ⟨x,H1,j,k,a⟩=>?_);exact a8 (b pos pins c σ H1 _ j a) λus l ⟨xs,H2,f,i,d⟩=>{x::xs,H2,f,.cons k i,d}
end
abbrev Sp:=List V->Hp->VK->XK->Prop
abbrev qY:=List Env->Hp->Shared->XK->Value->Shared->Prop
structure ik(P:Program)(w:World)(K:PySem.W.Frag)(mg:Str->Option Value)(base:Heap)(A:Around)(outer:List Env)(s:Shared)(H:Hp):Prop where
 frames:A.frames=some outer
 mod:Mod K mg base
 bs:∀b o,base.get? b=some o->s.heap.get? b=some o/\(H b=none\/∃xs,H b=some (.tup xs))
 ro:base.objs.size≤↑s
 fQ:s.heap.FunFrames base outer
 uv:∀b∈ib outer,H b=none
 a6:dm P w H s.heap
 bare:AllBare s.gens
def CE(outer:List Env)(P:Program)(w:World)(H:Hp)(s:Shared)(Q:VK)(u:Value)(s':Shared):Prop :=
 ∃v H',s'.os=s.os/\AllBare s'.gens/\Un (ib outer) [] H H' s.heap s'.heap/\dm P w H' s'.heap/\RelV v u/\Q v H'
def CR(CX:qY)(outer:List Env)(P:Program)(w:World)(H:Hp)(s:Shared)(Q:VK)(E:XK)(r:Result)(s':Shared):Prop :=
 match r with
 |.ok (.ret u)=>CE outer P w H s Q u s'
 |.ok _=>False
 |.error e=>CX outer H s E e s'
structure cE(P:Program)(w:World)(K:PySem.W.Frag)(mg:Str->Option Value)(base:Heap)(CX:qY)(k:Nat)(f:Addr)(fd:FuncData)(ps:List Str)(sp:Sp):Prop where
 len:∀vs H Q E,sp vs H Q E->vs.length=ps.length
 run:∀(A:Around) (outer:List Env) (s:Shared) (H:Hp) (args:Args) (us:List Value) (vs:List V) (Q:VK) (E:XK),aZ k A->ik P w K mg base A outer s H->BindsTo s fd args (ps.zip us)->aA vs us->sp vs H Q E →
  codeAny (model P w) A (.call (.ref f) args) (CR CX outer P w H s Q E) s
def cE.imp{P:Program}{w:World}{K:PySem.W.Frag}{mg:Str->Option Value}{base:Heap}{CX:qY}{k:Nat}{f:Addr}{fd:FuncData}{ps:List Str}{sp b:Sp}(F:cE P w K mg base CX k f fd ps sp)(h:∀vs H Q E,b vs H Q E->sp vs H Q E):cE P w K mg base CX k f fd ps b :=
 {λvs H Q E q=>F.len vs H Q E (h _ _ _ _ q),λA outer s H a us vs Q E c d e g hs=>F.run A outer s H a us vs Q E c d e g (h _ _ _ _ hs)}
def ik.make{P:Program}{w:World}{K:PySem.W.Frag}{mg:Str->Option Value}{base:Heap}{A:Around}{outer:List Env}{s:Shared}{H:Hp}(e:ik P w K mg base A outer s H)(C:Addr)(us:List Value)(a:List (Str×Value)) :
  ik P w K mg base (A.under (.builtin "type.__call__" {.ref C::us,a})) outer s H:={by first|exact e.frames|(simpa[Around.under,Code.envs,Code.isFrame,pushEnvs] using e.frames),e.mod,e.bs,e.ro,e.fQ,e.uv,e.a6,e.bare}
section
variable {X:Cx}{pins:List (Addr×Obj)}{σ:St}{H:Hp}{s s':Shared}
def Inv.Dq(I:Inv X pins σ H s):ik X.prog X.w X.K X.mg X.base X.A X.stack s H :=
 {I.ok.frames,I.ok.mod,I.bs,qg I.ok.ro I.sz,I.stack,I.lx,I.a6,I.bare}
def Inv.after(I:Inv X pins σ H s)(h:CE X.stack X.prog X.w H s Q u s'):EP X pins σ Q u s':=by
 obtain⟨v,H',i,a,un,e,r,q⟩:=h;obtain⟨f,g,d,t,c⟩:=s';obtain rfl:c=s.os:=i;exact{v,H',I.call (h':=f) (g':=g) (d':=d) (t':=t) (ch:=[]) un e a (λb z=>absurd z (by simp)),r,q}
end
def ug(sp:Sp)(eQ:List V)(E:XK)(t:TA):TE:=λσ H Q=>t σ H λvs H1=>sp (vs++eQ) H1 Q E
inductive xf(C:Addr)(m:Str)(sp:Sp)(eQ:List V)(E:XK)(t:TA)(σ:St)(Q:VK)(x:V)(H1:Hp):Prop
 |mk(a dx fs:_)(_:x=.ref a)(_:H1 a=some (.ins C dx fs))(_:fs.lookup m=none)(_:t σ H1 λvs H2=>sp (x::(vs++eQ)) H2 Q E)
def lW(C:Addr)(m:Str)(sp:Sp)(eQ:List V)(E:XK)(ta:TE)(t:TA):TE:=λσ H Q=>ta σ H λx H1=>xf C m sp eQ E t σ Q x H1
def uu(C:Addr)(sp:Sp)(eQ:List V)(E:XK)(t:TA):TE:=λσ H Q=>t σ H λvs H1=>∀x dx,H1 x=none->H1 dx=none->dx≠x →
 sp (.ref x::(vs++eQ)) (upd (upd H1 dx (.own x)) x (.ins C dx [])) (λv H2=>v=.aT/\Q (.ref x) H2) E
def Binds(K:PySem.W.Frag)(fd:FuncData)(ps:List Str)(ds:List Value):Prop :=
 ∀(s:Shared) (us:List Value),K.In s.heap->(us++ds).length=ps.length->BindsTo s fd {us,[]} (ps.zip (us++ds))
def Binds.all{K:PySem.W.Frag}{fd:FuncData}{ps:List Str}(h:∀us:List Value,us.length=ps.length->bindArgs fd {us,[]}=pure (ps.zip us)):Binds K fd ps []:=λs us _ a=>by
 rw[wo]at a ⊢;exact .of_eq (h us a)
def eZ(CX:qY)(X:Cx)(E:XK):Prop:=∀(pins:List (Addr×Obj)) (σ:St) (H:Hp) (s:Shared) (e:Value) (s':Shared),Inv X pins σ H s->CX X.stack H s E e s'->X.xe e s'
section
variable {X:Cx}{CX:qY}{k:Nat}{f C:Addr}{fd:FuncData}{ps:List Str}{sp:Sp}{eQ:List V}{ds:List Value}{E:XK}{x m:Str}{p pos apos:Pos}{e o:Expr}{es:List Expr}{ta:TE}{t:TA}
def rz{pins:List (Addr×Obj)}{σ:St}{H:Hp}{s:Shared}{Q:VK}{us:List Value}{vs:List V}(F:cE X.prog X.w X.K X.mg X.base CX k f fd ps sp)(d:aZ k X.A)(i:Binds X.K fd ps ds)(hd:aA eQ ds)(g:eZ CX X E)(I:Inv X pins σ H s)(r:aA vs us)(h:sp (vs++eQ) H Q E):wpAny (model X.prog X.w) X.A (call (.ref f) us) (EP X pins σ Q) X.xe s:=by
 have b:aA (vs++eQ) (us++ds):=r.append hd
 have j:(us++ds).length=ps.length:=by rw[←b.length];exact F.len _ _ _ _ h
 refine wpAny_call (codeAny_mono (F.run X.A X.stack s H {us,[]} (us++ds) (vs++eQ) Q E d I.Dq (i s us I.f5 j) b h) λr s' a=>?_)
 cases r with
 |error e=>exact g pins σ H s e s' I a
 |ok c =>
  cases c with
  |ret u=>exact I.after a
  |next=>exact False.elim a
  |brk=>exact False.elim a
  |cont=>exact False.elim a
def Nt(F:cE X.prog X.w X.K X.mg X.base CX k f fd ps sp)(g:aZ k X.A)(d:Gl X x)(o:X.mg x=some (.ref f))(l:PySem.W.keepIn X.K (.ref f)=true)(m:Binds X.K fd ps ds)(hd:aA eQ ds)(i:eZ CX X E)(n:PA X (e::es) t)(a:(x==("__debug__":Str))=false:=by decide)(j:starEach (e::es) X.env=(false,eval e X.env)::starEach es X.env:=by rfl)(b:(backTo pos (starEach es X.env)).any (·.1)=false:=by rfl) :
  PE X (.Call (.Name x p) (e::es) [] pos) (ug sp eQ E t):=by
 refine{?_};intro pins s σ H Q I h;refine wpAny_Call_Name_kw (oQ I d o ?_ a);refine PySem.W.callWith_K (h₀:=X.base) I.ok.mod.uV l (a8 (n pos pins s σ H _ I h) λus u ⟨vs,H1,c,r,q⟩=>{c.f5,?_}) j b;exact rz F g m hd i c r q
def PJ(v:PE X o ta)(c:j_ X.K C)(i:mF X.K C m f)(F:cE X.prog X.w X.K X.mg X.base CX k f fd ps sp)(n:aZ k X.A)(y:Binds X.K fd ps ds)(hd:aA eQ ds)(p:eZ CX X E)(G:PA X (e::es) t)(b:starEach (e::es) X.env=(false,eval e X.env)::starEach es X.env:=by rfl)(d:(backTo pos (starEach es X.env)).any (·.1)=false:=by rfl)(L:eval (.Call (.Attribute o m apos) (e::es) [] pos) X.env=(do
   let ov ←eval o X.env
   standAt apos.atName
   let(f,first) ←holding [ov] (getMethod ov m pl)
   callWith pos f first (backTo pos (starEach (e::es) X.env)) (backToKw pos (keywordEach [] X.env))):=by rfl) :
  PE X (.Call (.Attribute o m apos) (e::es) [] pos) (lW C m sp eQ E ta t):=by
 refine{?_};intro pins s σ H Q I h;refine PySem.W.methodCall_KW (pl:=pl) (a8 (v pins s σ H _ I h) λu z ⟨x,H1,j,D,a,dx,fs,ex,J,l,q⟩=>?_) L;subst ex;obtain rfl:u=Value.ref a:=D;refine Ky j J c i l ?_;refine PySem.W.callWith_K (first:=[.ref a]) (h₀:=X.base) I.ok.mod.uV i.kp (a8 (G pos pins z σ H1 _ j q) λus M ⟨vs,H2,g,r,B⟩=>{g.f5,?_}) b d;exact rz (us:=.ref a::us) (vs:=.ref a::vs) F n y hd p g (.cons rfl r) B
def Nc(i:PE X o ta)(c:j_ X.K C)(d:mF X.K C m f)(F:cE X.prog X.w X.K X.mg X.base CX k f fd ps sp)(e:aZ k X.A)(j:Binds X.K fd ps ds)(hd:aA eQ ds)(g:eZ CX X E)(r:eval (.Call (.Attribute o m apos) [] [] pos) X.env=(do
   let ov ←eval o X.env
   standAt apos.atName
   let(f,first) ←holding [ov] (getMethod ov m pl)
   callWith pos f first (backTo pos (starEach [] X.env)) (backToKw pos (keywordEach [] X.env))):=by rfl) :
  PE X (.Call (.Attribute o m apos) [] [] pos) (lW C m sp eQ E ta l_):=by
 refine{?_};intro pins s σ H Q I h;refine PySem.W.methodCall_KW (pl:=pl) (a8 (i pins s σ H _ I h) λu t ⟨x,H1,b,n,a,dx,fs,ex,p,l,q⟩=>?_) r;subst ex;obtain rfl:u=Value.ref a:=n;refine Ky b p c d l ?_;exact PySem.W.callWith_K0 (first:=[.ref a]) b.f5 d.kp (rz (us:=[.ref a]) (vs:=[.ref a]) F e j hd g b (.cons rfl .nil) q)
structure Mk(K:PySem.W.Frag)(C f:Addr):Prop where
 makes:PySem.W.makesIn K C=true
 init:PySem.W.findIn K (.ref C) "__init__"=some (some (.ref f))
 fn:PySem.W.isFn K (.ref f)=true
 kp:PySem.W.keepIn K (.ref C)=true
def Mw{pins:List (Addr×Obj)}{σ:St}{H:Hp}{s:Shared}{Q:VK}{us:List Value}{vs:List V}(M:Mk X.K C f)(F:cE X.prog X.w X.K X.mg X.base CX k f fd ps sp)(i:aZ (k+1) X.A)(l:Binds X.K fd ps ds)(hd:aA eQ ds)(j:eZ CX X E)(I:Inv X pins σ H s)(r:aA vs us)(h:∀x dx,H x=none->H dx=none->dx≠x->sp (.ref x::(vs++eQ)) (upd (upd H dx (.own x)) x (.ins C dx [])) (λv H2=>v=.aT/\Q (.ref x) H2) E) :
  wpAny (model X.prog X.w) X.A (call (.ref C) us) (EP X pins σ Q) X.xe s:=by
 have c:=h (↑s+1) ↑s (I.a6.fresh (ye _)) (I.a6.fresh (qb _)) (qd (z7 _));have b:=Inv.made (C:=C) I;have d:aA (V.ref (↑s+1)::(vs++eQ)) (Value.ref (↑s+1)::(us++ds)):=.cons rfl (r.append hd)
 have p:(Value.ref (↑s+1)::us++ds).length=ps.length:=by
  have e:=d.length;rw[F.len _ _ _ _ c]at e;exact e.symm
 refine wpAny_call (N4 (f:=f) I.f5 M.makes M.init (beq_iff_eq.mp M.fn) (codeAny_mono (F.run _ X.stack _ _ {Value.ref (↑s+1)::us,[]} (Value.ref (↑s+1)::(us++ds)) _ _ E (i.make C us [])
  (b.Dq.make C us []) (l _ (Value.ref (↑s+1)::us) b.f5 p) d c) λr s' a=>?_))
 cases r with
 |error e=>exact j pins σ _ _ e s' b a
 |ok g =>
  cases g with
  |ret u =>
   obtain⟨v,H',m,n,o,q⟩:=b.after a;subst o;exact{n,{V.ref (↑s+1),H',m,U,q}}
  |next=>exact False.elim a
  |brk=>exact False.elim a
  |cont=>exact False.elim a
def OY(M:Mk X.K C f)(F:cE X.prog X.w X.K X.mg X.base CX k f fd ps sp)(g:aZ (k+1) X.A)(d:Gl X x)(n:X.mg x=some (.ref C))(l:Binds X.K fd ps ds)(hd:aA eQ ds)(i:eZ CX X E)(m:PA X (e::es) t)(a:(x==("__debug__":Str))=false:=by decide)(j:starEach (e::es) X.env=(false,eval e X.env)::starEach es X.env:=by rfl)(b:(backTo pos (starEach es X.env)).any (·.1)=false:=by rfl) :
  PE X (.Call (.Name x p) (e::es) [] pos) (uu C sp eQ E t):=by
 refine{?_};intro pins s σ H Q I h;refine wpAny_Call_Name_kw (oQ I d n ?_ a);refine PySem.W.callWith_K (h₀:=X.base) I.ok.mod.uV M.kp (a8 (m pos pins s σ H _ I h) λus o ⟨vs,H1,c,r,q⟩=>{c.f5,?_}) j b;exact Mw M F g l hd i c r q
end
structure af(N P:List Str)(sc:Scope):Prop where
 kind:sc.kind=.function
 co:sc.isCoroutine=false
 gen:sc.isGenerator=false
 nd:N.Nodup
 pre:N.take P.length=P
 par:∀x∈P,sc.names.lookup x=some .local\/sc.names.lookup x=some .cell
 BE:∀y∈sc.names,y.2≠.free
theorem JR:∀{binds:List (Str×Value)} {m:Str->Option Value},(∀v,(x,v)∉binds)->bindL a binds m x=m x
 |[],_,_=>rfl
 |(n,v)::r,m,h=>by
  unfold bindL;rw[JR λw hw=>h w (qo _ hw)]
  split
  ·have:x≠n:=by rintro rfl;exact h v ql
   simp[this]
  ·rfl
theorem GI:∀{binds:List (Str×Value)} {m:Str->Option Value},(∀v,(x,v)∉binds)->bindC a binds m x=m x
 |[],_,_=>rfl
 |(n,v)::r,m,h=>by
  unfold bindC;rw[GI λw hw=>h w (qo _ hw)]
  split
  ·rfl
  ·have:x≠n:=by rintro rfl;exact h v ql
   simp[this]
theorem K9:∀{P:List Str} {vs:List Value} {i:Nat} {m:Str->Option Value},P.Nodup->P[i]?=some x->vs[i]?=some v->a x=some .local →
  bindL a (P.zip vs) m x=some v
 |[],_,_,_,_,h,_,_=>by simp at h
 |_::_,[],_,_,_,_,h,_=>by simp at h
 |p::P,w::vs,0,m,nd,h1,h2,hk=>by
  simp at h1 h2;subst h1;subst h2
  show bindL a ((p,w)::P.zip vs) m p=_;unfold bindL;rw[JR λv b=>(zk.mp nd).1 (jj b).1,q0 hk]
  simp
 |p::P,w::vs,i+1,m,nd,h1,h2,hk=>by
  show bindL a ((p,w)::P.zip vs) m x=_;unfold bindL;exact K9 (i:=i) (List.nodup_cons.mp nd).2 (by simpa using h1) (by simpa using h2) hk
theorem IE:∀{P:List Str} {vs:List Value} {i:Nat} {m:Str->Option Value},P.Nodup->P[i]?=some x->vs[i]?=some v->a x≠some .local →
  bindC a (P.zip vs) m x=some v
 |[],_,_,_,_,h,_,_=>by simp at h
 |_::_,[],_,_,_,_,h,_=>by simp at h
 |p::P,w::vs,0,m,nd,h1,h2,hk=>by
  simp at h1 h2;subst h1;subst h2
  show bindC a ((p,w)::P.zip vs) m p=_;unfold bindC;rw[GI λv b=>(zk.mp nd).1 (jj b).1,qt hk]
  simp
 |p::P,w::vs,i+1,m,nd,h1,h2,hk=>by
  show bindC a ((p,w)::P.zip vs) m x=_;unfold bindC;exact IE (i:=i) (List.nodup_cons.mp nd).2 (by simpa using h1) (by simpa using h2) hk
def start(N:List Str)(vs:List V):St:=vs.map some++List.replicate (N.length - vs.length) none
def jF(CX:qY)(P:Program)(w:World)(K:PySem.W.Frag)(mg:Str->Option Value)(base:Heap)(N:List Str)(b:Str)(a:Scope)(f:Addr)(d:Value)(A:Around)(outer:List Env)(s:Shared)(H:Hp)(E:XK):Cx where
 prog:=P
 w:=w
 K:=K
 mg:=mg
 base:=base
 A:=A.deeper (envOfC b a ↑s f d)
 N:=N
 s₀:=s
 H₀:=H
 env:=envOfC b a ↑s f d
 outer:=outer
 stack:=envOfC b a ↑s f d::outer
 ex:=[]
 calm:=true
 fn:=λ_=>true
 pn:=[]
 xe:=λe s'=>wpAny (model P w) (A.deeper (envOfC b a ↑s f d)) (leaving (envOfC b a ↑s f d) e) (λ_ c=>CX outer H s E e c) (λg c=>CX outer H s E g c) s'
def l8{a:Scope}{n:Nat}{x:Str}(h:a.names.lookup x=some .cell):∃c,(cellsFrom n a.names []).lookup x=some c:=by
 have q:=PySem.W.cellsFrom_some a.names n [] (.inl h);exact jk.mp q
def Nh{CX:qY}{P:Program}{w:World}{K:PySem.W.Frag}{mg:Str->Option Value}{base:Heap}{N ps:List Str}{g:Str}{d:Scope}{f:Addr}{B:Value}{A:Around}{outer:List Env}{s F:Shared}{H:Hp}{E:XK}{us:List Value}{vs:List V}(S:af N ps d)(hd:A.handled=none)(j:ik P w K mg base A outer s H)(L:vs.length=ps.length)(r:aA vs us)(x:InCallC s ↑s (bindL (envOfC g d ↑s f B).kindOf (ps.zip us) λ_=>none) (cellsFrom (↑s+1) d.names []) (bindC (envOfC g d ↑s f B).kindOf (ps.zip us) λ_=>none) F) :
  Inv (jF CX P w K mg base N g d f B A outer s H E) [] (start N vs) H F:=by
 have J:ps.length≤N.length:=by have:=congrArg List.length S.pre;rw[zq]at this;omega
 obtain⟨h1,tk,rfl,D⟩:=x.done
 have l:∀b:Addr,b∉(jF CX P w K mg base N g d f B A outer s H E).ex:=λb z=>absurd (show b∈([]:List Addr) from z) (by simp)
 refine{{j.mod,S.kind,U,U,qb _,λy z c h1 h2=>?_,λy m=>?_,λy c _ h=>?_,λ_=>hd,Around.frames_deeper j.frames,.inr {U,U},λb z=>absurd z (l b),j.bs,j.ro,λb _ _=>l b,λb z=>absurd z (l b),j.fQ,j.uv},
  rfl,j.bare,Un.kept D,{_,x.toInCall.ns,λi y v h1 h2 M=>?_},λy c h=>{_,x.cell y c h},j.a6.fresh (Nat.le_refl _),λy c h=>?_,λp t=>absurd (show p∈([]:List (Addr×Obj)) from t) (by simp),j.a6.kept D,?_}
 ·exact name_of_addr x.apart (PySem.mem_of_lookup h1) (PySem.mem_of_lookup h2)
 ·have m:d.names.lookup y=some .cell\/d.names.lookup y=some .free:=m
  rcases m with m|m
  ·exact l8 m
  ·exact absurd rfl (S.BE _ (PySem.mem_of_lookup m))
 ·exact qj (x.above y c (PySem.mem_of_lookup h))
 ·have hi:i<vs.length:=by
   unfold start at h2
   by_cases hi:i<vs.length
   ·exact hi
   ·rw[List.getElem?_append_right (by simpa using hi)]at h2
    rw[yf]at h2
    split at h2 <;> cases h2
  have I:vs[i]?=some v:=by
   unfold start at h2;rw[List.getElem?_append_left (by simpa using hi),List.getElem?_map]at h2
   cases e:vs[i]? with
   |none=>rw[e]at h2;cases h2
   |some a=>rw[e]at h2;cases h2;rfl
  obtain⟨u,C,G⟩:=r.get I
  have t:ps[i]?=some y:=by
   rw[←S.pre,List.getElem?_take_of_lt ()];exact h1
  have o:ps.Nodup:=by rw[←S.pre];exact S.nd.sublist (List.take_sublist _ _)
  refine{u,G,?_};rcases S.par y (qk t) with k|k
  ·exact .inl ⟨k,K9 o t C k⟩
  ·obtain⟨c,e⟩:=l8 (n:=↑s+1) k
   refine .inr {.inl k,c,e,?_};have q:=x.cell y c e;rw[IE o t C (by show d.names.lookup y≠_;rw[k];decide)]at q;exact q
 ·exact j.a6.fresh (qj (x.above y c (PySem.mem_of_lookup h)))
 ·unfold start
  show _=N.length;rw[qm,qa,j7];omega
def Kl{CX:qY}{P:Program}{w:World}{K:PySem.W.Frag}{mg:Str->Option Value}{base:Heap}{k:Nat}{f:Addr}{name c:Str}{g:Arguments}{h:List Stmt}{a:Scope}{M kV m U d O oc:Value}{L od:Option Addr}{F:Array (Option Value)}{N ps:List Str}{sp:Sp}(lk:K.lookup f=some {oc,od,.func (PySem.W.fnOf name c g h a M kV m U L d O),F})(C:PySem.W.codeIn K d c=true)(S:af N ps a)(len:∀vs H Q E,sp vs H Q E->vs.length=ps.length)(j:∀(A:Around) (outer:List Env) (s:Shared) (H:Hp) (vs:List V) (Q:VK) (E:XK),aZ k (A.deeper (envOfC c a ↑s f d))->sp vs H Q E →
   ∃t,kr (jF CX P w K mg base N c a f d A outer s H E) h t/\t { nx:=λ_ H'=>Q .aT H',rt:=Q } (start N vs) H) :
  cE P w K mg base CX (k+1) f (PySem.W.fnOf name c g h a M kV m U L d O) ps sp:=by
 refine{len,λA outer s H R us vs Q E B l hb r p=>?_};have hl:=len _ _ _ _ p;have X:K.In s.heap:=l.mod.uV.keeps λb o e=>(l.bs b o e).1;have D:s.heap.NoLimit:=l.mod.nolimit.keeps λb o e=>(l.bs b o e).1
 have i:∀y∈ps.zip us,a.names.lookup y.1=some .local\/(a.names.lookup y.1=some .cell/\((cellsFrom (↑s+1) a.names []).lookup y.1).isSome=true):=λ⟨n,v⟩ hy=>by
  rcases S.par n (jj hy).1 with q|q
  ·exact .inl q
  ·exact .inr ⟨q,PySem.W.cellsFrom_some _ _ _ (.inl q)⟩
 refine codeAny_call_function B.depth (X _ _ lk) rfl S.co S.gen rfl (PySem.W.codeRec_of X C) (hb _ _ _ _ ?_);refine wpAny_newFunctionEnv_cells S.kind i λenv he T x=>?_;subst he;refine{D.keeps x.toInCall.keep,codeAny_func ?_};obtain⟨t,Z,Y⟩:=j A outer s H vs Q E (B.deeper _) p;have I:Inv (jF CX P w K mg base N c a f d A outer s H E) [] (start N vs) H T:=Nh S B.hd l hl r x;refine qH (Z [] T (start N vs) H _ I Y) (λfl s' hs=>?_) λe s' hs=>hs
 have z:∀{σ':St} {H':Hp} {v:V} {u:Value},Inv (jF CX P w K mg base N c a f d A outer s H E) [] σ' H' s'->RelV v u->Q v H'->CE outer P w H s Q u s' :=
  λ{σ' H' v u} J G q=>{v,H',J.os,J.bare,J.base,J.a6,G,q}
 cases fl with
 |ret u =>
  obtain⟨v,σ',H',J,G,q⟩:=hs;exact z J G q
 |next =>
  obtain⟨σ',H',J,q⟩:=hs;exact z (v:=V.aT) (u:=Value.none) J rfl q
 |brk =>
  obtain⟨_,_,_,q⟩:=hs;exact False.elim q
 |cont =>
  obtain⟨_,_,_,q⟩:=hs;exact False.elim q
section
variable {X:Cx}{x:Str}{p pos:Pos}{e:Expr}{es:List Expr}{t:TA}{id T:String}{r:List V->Hp->VK->Prop}
def Io(r:List V->Hp->VK->Prop)(t:TA):TE:=λσ H Q=>t σ H λvs H1=>r vs H1 Q
def Na(f:bj X (.builtin id) r)(c:Gl X x)(n:X.mg x=none)(m:bootBuiltins x=some (.builtin id))(j:PA X (e::es) t)(hn:x≠"__name__":=by decide)(a:(x==("__debug__":Str))=false:=by decide)(g:starEach (e::es) X.env=(false,eval e X.env)::starEach es X.env:=by rfl)(b:(backTo pos (starEach es X.env)).any (·.1)=false:=by rfl):PE X (.Call (.Name x p) (e::es) [] pos) (Io r t):=by
 refine{?_};intro pins s σ H Q I h;refine wpAny_Call_Name_kw (i4 I c n m ?_ hn a);exact PyProof.Rows.callWith_builtin1 (a8 (j pos pins s σ H _ I h) λus i ⟨vs,H1,k,l,d⟩=>f pins i σ H1 vs us Q k l d) g b
def Oj(f:bj X (.type T) r)(c:Gl X x)(n:X.mg x=none)(m:bootBuiltins x=some (.type T))(j:PA X (e::es) t)(hn:x≠"__name__":=by decide)(a:(x==("__debug__":Str))=false:=by decide)(g:starEach (e::es) X.env=(false,eval e X.env)::starEach es X.env:=by rfl)(b:(backTo pos (starEach es X.env)).any (·.1)=false:=by rfl):PE X (.Call (.Name x p) (e::es) [] pos) (Io r t):=by
 refine{?_};intro pins s σ H Q I h;refine wpAny_Call_Name_kw (i4 I c n m ?_ hn a);exact PyProof.Rows.callWith_type1 (a8 (j pos pins s σ H _ I h) λus i ⟨vs,H1,k,l,d⟩=>f pins i σ H1 vs us Q k l d) g b
end
end L2
namespace HT
open PySem PyProof.Rows
section
variable {prog:Program}{w:World}{A:Around}{E:Value->Shared->Prop}{s:Shared}
def rW{t b:Addr}(q:IsTup s.heap t vs.toArray)(p:IsTup s.heap b ws.toArray)(m:vs≠[])(h1:ws=[]->Q (.ref t) s)(h2:ws≠[]->Q (.ref ↑s) { s with heap:=s.heap.push { cls:=.type "tuple",data:=.seq (vs++ws).toArray } })(hsz:vs.length+ws.length≤sizeLine):wpAny (model prog w) A (binaryOp .Add (.ref t) (.ref b)) Q E s:=by
 obtain⟨⟨cls,l,data,j⟩,h,k,n,hd⟩:=id q;obtain⟨⟨o,d,i,f⟩,a,c,n2,g⟩:=id p
 simp only at k hd c g
 subst k hd c g
 have e:vs.toArray++ws.toArray=(vs++ws).toArray:=by simp
 by_cases hw:ws=[]
 ·exact concat_meets {_,h,U} {_,a,U} noFill_tuple_add seq_tuple_add PySem.F.slot_tuple_add PySem.F.entry_tuple_add (PySem.F.args_tuple_add_2 _ _)
   (tuple_addW1 t b vs.toArray ws.toArray n n2 l d j f (by simpa using m) (by simp[hw])) {h,a,h1 hw}
 ·refine concat_meets {_,h,U} {_,a,U} noFill_tuple_add seq_tuple_add PySem.F.slot_tuple_add PySem.F.entry_tuple_add (PySem.F.args_tuple_add_2 _ _)
   (tuple_addW2 t b vs.toArray ws.toArray n n2 l d j f (by simpa using m) (by simpa using hw) (by rw[List.size_toArray,List.size_toArray];exact hsz)) {h,a,?_}
  rw[e];exact h2 hw
def bE(n d:Nat):Option Int->Nat
 |none=>d
 |some v=>if v<0 then(v+(n:Int)).toNat else min v.toNat n
def dA(n d:Nat):bE n d none=d:=rfl
def eE(n d k:Nat):bE n d (some (k:Int))=min k n:=by
 show(if(k:Int)<0 then((k:Int)+(n:Int)).toNat else min (k:Int).toNat n)=min k n;rw[qt (),Int.toNat_natCast]
def yO(n d:Nat)(hd:d≤n)(o:Option Int):bE n d o≤n:=by
 cases o with
 |none=>exact hd
 |some v =>
  show(if v<0 then(v+(n:Int)).toNat else min v.toNat n)≤n
  by_cases a:v<0
  ·rw[q0 a];omega
  ·rw[qt a];exact Nat.min_le_right _ _
def Iu(v:Int)(n d:Nat):(if v<0 then max (v+(n:Int)) 0 else min v (n:Int))=((bE n d (some v):Nat):Int):=by
 show(if v<0 then max (v+(n:Int)) 0 else min v (n:Int))=(((if v<0 then(v+(n:Int)).toNat else min v.toNat n):Nat):Int)
 by_cases a:v<0
 ·simp only[if_pos a];omega
 ·simp only[if_neg a];omega
def Oz(lo hi:Option Int)(n:Nat):Builtin.Slice.sliceAdjust lo hi 1 (n:Int)=(((bE n 0 lo:Nat):Int),((bE n n hi:Nat):Int)):=by
 have h1:¬((1:Int)<0):=()
 unfold Builtin.Slice.sliceAdjust
 simp only[h1,if_false]
 refine Prod.ext ?_ ?_
 ·cases lo with
  |none=>rfl
  |some v=>exact Iu v n 0
 ·cases hi with
  |none=>rfl
  |some v=>exact Iu v n n
def Qz(i j:Nat):Builtin.Slice.slicePlaces (i:Int) (j:Int) 1=j - i:=by
 unfold Builtin.Slice.slicePlaces
 have h1:(1:Int)>0:=()
 simp only[h1,if_true,Int.ediv_one]
 split <;> omega
def Jj(p:IsPart v o)(h:Q o s):wpAny (model prog w) A (Builtin.Slice.slicePartIndex v) Q E s:=by
 cases p with
 |none=>exact slicePart_none h
 |int i t=>exact slicePart_int h
def MW{e:Addr}{d c:Value}{lo hi:Option Int}{n:Nat}{Q:Int×Int×Nat->Shared->Prop}(hs:s.heap.IsSliceOf e d c .none)(pl:IsPart d lo)(f:IsPart c hi)(h:Q (((bE n 0 lo:Nat):Int),1,bE n n hi - bE n 0 lo) s):wpAny (model prog w) A (Builtin.Slice.sliceApplied (.ref e) (pure (n:Int))) Q E s:=by
 obtain⟨i,b,g,a⟩:=id hs;unfold Builtin.Slice.sliceApplied Builtin.Slice.sliceFields;refine qq (qq (wpAny_field b a (x:=d) rfl (qq (wpAny_field b a (x:=c) rfl (qq (wpAny_field b a (x:=.none) rfl (qs ?_)))))));refine qq (slicePart_none ?_);show wpAny _ _ (if((1:Int)==0)=true then _ else _) _ _ s;rw[qt ⋯];refine qq (Jj pl (qq (Jj f (qq (qs ?_)))));show wpAny _ _ (match Builtin.Slice.sliceAdjust lo hi 1 (n:Int) with|(lo,hi)=>pure (lo,(1:Int),Builtin.Slice.slicePlaces lo hi 1)) _ _ s;rw[Oz lo hi n];show wpAny _ _ (pure (((bE n 0 lo:Nat):Int),(1:Int),Builtin.Slice.slicePlaces ((bE n 0 lo:Nat):Int) ((bE n n hi:Nat):Int) 1)) _ _ s;rw[Qz];exact qs h
def N9(xs:Array Value)(i k:Nat):((List.range k).filterMap λ(m:Nat)=>xs[((i:Int)+(m:Int) * 1).toNat]?).toArray=((xs.toList.drop i).take k).toArray:=by
 have e:(λ(m:Nat)=>xs[((i:Int)+(m:Int) * 1).toNat]?)=λm=>xs[i+m]?:=by
  funext m
  have:((i:Int)+(m:Int) * 1).toNat=i+m:=()
  rw[this]
 rw[e];have:=pick_run xs i k;rw[jm]at this;have a:((λx=>xs[x]?)∘λx=>i+x)=λm=>xs[i+m]?:=rfl;rw[a]at this;rw[this]
def ff{t c:Addr}{items:Array Value}{j i:Value}{lo hi:Option Int}{Q:Value->Shared->Prop}(b:IsTup s.heap t items)(hs:s.heap.IsSliceOf c j i .none)(pl:IsPart j lo)(l:IsPart i hi)(hw:¬(bE items.size 0 lo=0/\bE items.size items.size hi=items.size))(h:Q (.ref ↑s) { s with heap:=s.heap.push { cls:=.type "tuple",data:=.seq ((items.toList.drop (bE items.size 0 lo)).take (bE items.size items.size hi - bE items.size 0 lo)).toArray } })(hsz:items.size≤sizeLine):wpAny (model prog w) A (getItem (.ref t) (.ref c)) Q E s:=by
 have a:sizeOk (.seq ((items.toList.drop (bE items.size 0 lo)).take (bE items.size items.size hi - bE items.size 0 lo)).toArray):=by
  show((items.toList.drop (bE items.size 0 lo)).take (bE items.size items.size hi - bE items.size 0 lo)).toArray.size≤sizeLine;rw[qx,zq,wa,zh];omega
 have r:bE items.size items.size hi≤items.size:=yO _ _ (qb _) hi;obtain⟨n,g,e,k⟩:=id hs;have d:s.TypeIs (.ref c) "slice":={n,g,e};unfold getItem
 try with_reducible refine qG ?_
 first|refine qq (qs ?_)|skip
 refine qq (wpAny_sequenceKey b.typeIs ⋯ ?_)
 refine qq (wpAny_callSpecial?_slot (name:=Str.ofString "__getitem__") b.typeIs PyProof.Rows.slot_tuple_getitem
  (qI PyProof.Rows.slot_tuple_getitem b.typeIs entry_tuple_getitem ?_ (args_tuple_getitem _ _)))
 show wpAny _ _ (Builtin.Tuple.tupleItemsOf (.ref t) >>= _) _ _ s;refine qq (tupleItemsOf_ b ?_);refine qq (wpAny_typeOf d ?_);rw[q0 ⋯];refine qq (MW hs pl l ?_)
 have f:¬((((bE items.size 0 lo:Nat):Int)==0&&(1:Int)==1&&(bE items.size items.size hi - bE items.size 0 lo)==items.size)=true):=by
  intro q;rw[ze,ze]at q;have o:((bE items.size 0 lo:Nat):Int)=0:=eq_of_beq q.1.1;have p:bE items.size items.size hi - bE items.size 0 lo=items.size:=eq_of_beq q.2;exact hw {(),()}
 show wpAny _ _ (if(((bE items.size 0 lo:Nat):Int)==0&&(1:Int)==1&&(bE items.size items.size hi - bE items.size 0 lo)==items.size)=true then _ else _) _ _ s;rw[qt f,N9]
 first
  |exact qq (m:=Builtin.Tuple.tupleExact _) (wpAny_newObj_type (qs ⟨_,U,qs h⟩) a)
  |exact qq (m:=Builtin.Tuple.tupleExact _) (wpAny_newObj_type (qq (qs (qs ⟨_,U,qs h⟩))) a)
  |exact qq (qq (m:=Builtin.Tuple.tupleExact _) (wpAny_newObj_type (qs (qs ⟨_,U,qs h⟩)) a))
  |exact qq (qq (m:=Builtin.Tuple.tupleExact _) (wpAny_newObj_type (qs ⟨_,U,qs h⟩) a))
end
end HT
namespace L2
open PySem PySem.Spec PyProof.Rows
abbrev TO:=St->Hp->(Option Int->Hp->Prop)->Prop
def RF(X:Cx)(e:Option Expr)(t:TO):Prop :=
 ∀(pins:List (Addr×Obj)) (s:Shared) (σ:St) (H:Hp) (Q:Option Int->Hp->Prop),Inv X pins σ H s->t σ H Q →
  wpAny (model X.prog X.w) X.A (evalPart e X.env) (λu s'=>∃o H',Inv X pins σ H' s'/\IsPart u o/\Q o H') X.xe s
structure PO(X:Cx)(e:Option Expr)(t:TO):Prop where run:RF X e t
instance RS{X:Cx}{e:Option Expr}{t:TO}:CoeFun (PO X e t) λ_=>RF X e t:={PO.run}
def si:TO:=λ_ H Q=>Q none H
inductive zV(Q:Option Int->Hp->Prop)(x:V)(H1:Hp):Prop
 |mk(i:_)(_:x=.int i)(_:Q (some i) H1)
def Lg(t:TE):TO:=λσ H Q=>t σ H λx H1=>zV Q x H1
section
variable {X:Cx}{e:Expr}{te:TE}{lo hi:Option Expr}{tl th:TO}{pos p2:Pos}
def dO:PO X none si:=by
 refine{?_};intro pins s σ H Q I h;rw[evalPart_none];exact qs {none,H,I,.none,h}
def dg(h:PE X e te):PO X (some e) (Lg te):=by
 refine{?_};intro pins s σ H Q I hw;rw[evalPart_some];refine a8 (h pins s σ H _ I hw) λu d ⟨x,H1,b,c,a⟩=>?_;obtain⟨i,rfl,q⟩:=a;obtain⟨t,rfl⟩:=c;exact{some i,H1,b,.int i t,q}
def ud(X:Cx)(r:V->Option Int->Option Int->Hp->VK->Prop):Prop :=
 ∀(pins:List (Addr×Obj)) (s:Shared) (σ:St) (H:Hp) (x:V) (v c a:Value) (lo hi:Option Int) (b:Addr) (Q:VK),Inv X pins σ H s->RelV x v->s.heap.IsSliceOf b c a .none->IsPart c lo->IsPart a hi->r x lo hi H Q →
  ∃T id,typeLookup (.type T) "__getitem__"=pure (some (.builtin id))/\s.TypeIs v T/\wpAny (model X.prog X.w) X.A (getItem v (.ref b)) (EP X pins σ Q) X.xe s
def RN(r:V->Option Int->Option Int->Hp->VK->Prop)(te:TE)(tl th:TO):TE:=λσ H Q=>te σ H λx H1=>tl σ H1 λl H2=>th σ H2 λu a=>r x l u a Q
def du(g:ud X r)(C:PE X e te)(n:PO X lo tl)(y:PO X hi th):PE X (.Subscript e (.Slice lo hi none p2) pos) (RN r te tl th):=by
 refine{?_};intro pins s σ H Q I h;refine Subscript_ (a8 (C pins s σ H _ I h) λv F ⟨x,H1,G,J,B⟩=>?_);refine wpAny_Slice (a8 (n pins F σ H1 _ G B) λd E ⟨l,H2,k,pl,j⟩=>a8 (y pins E σ H2 _ k j) λc a ⟨u,f,i,z,p⟩=>?_);rw[evalPart_none];refine qs ?_;have D:Inv X pins σ f { a with heap:=a.heap.push { cls:=.type "slice",data:=.fields #[d,c,.none] } }:=i.kept (t':=a.toks) λb K q=>qC _ q;obtain⟨T,id,o,m,t⟩:=g pins { a with heap:=a.heap.push { cls:=.type "slice",data:=.fields #[d,c,.none] } } σ f x v d c l u ↑a Q D J (Heap.IsSliceOf.new ..) pl z p;show wpAny (model X.prog X.w) X.A (subscriptTail e (.Slice lo hi none p2) v (.ref ↑a)) (EP X pins σ Q) X.xe { a with heap:=a.heap.push { cls:=.type "slice",data:=.fields #[d,c,.none] } };exact tail_any (ops:=[.ref ↑a,v]) m o t (by with_unfolding_all rfl)
def bQ(xs:List V)(lo hi:Option Int):List V:=(xs.drop (HT.bE xs.length 0 lo)).take (HT.bE xs.length xs.length hi - HT.bE xs.length 0 lo)
def AN(xs:List V)(lo hi:Option Int):(bQ xs lo hi).length≤xs.length:=by
 unfold bQ;rw[zq,wa];omega
inductive M7(x:V)(lo:Option Int)(hi:Option Int)(H:Hp)(Q:VK):Prop
 |mk(a xs:_)(_:x=.ref a)(_:aH H a xs)(_:¬(HT.bE xs.length 0 lo=0/\HT.bE xs.length xs.length hi=xs.length))(_:∀p,H p=none->Q (.ref p) (upd H p (.tup (bQ xs lo hi))))
def sJ:ud X (M7):=by
 intro pins s σ H x v k l lo hi j Q I i hs pl g h;obtain⟨a,xs,rfl,f,hw,q⟩:=h;cases i;obtain⟨d,r,e,hz⟩:=I.tuple f
 have c:d.toArray.size=xs.length:=by rw[qx];exact r.length.symm
 refine{"tuple",_,PyProof.Rows.slot_tuple_getitem.lookup,e.typeIs,?_};refine HT.ff e hs pl g (by rw[c];exact hw) ?_ (by rw[c];exact hz);rw[c];refine{.ref ↑s,_,I.laid (t':=s.toks) (o:=.tup (bQ xs lo hi)) (λb m q=>qC _ q) (qb _) ?_,U,q _ (I.a6.fresh (qb _))};exact{qg (AN xs lo hi) hz,_,(r.drop (HT.bE xs.length 0 lo)).take (HT.bE xs.length xs.length hi - HT.bE xs.length 0 lo),IsTup.new _ _}
inductive GH(x y:V)(H:Hp)(Q:VK):Prop
 |mk(a b xs ys:_)(_:x=.ref a)(_:y=.ref b)(_:aH H a xs)(_:aH H b ys)(_:xs≠[])(_:xs.length+ys.length≤sizeLine)(_:(ys=[]->Q (.ref a) H))(_:(ys≠[]->∀p,H p=none->Q (.ref p) (upd H p (.tup (xs++ys)))))
def aA.gG(r:aA xs us):us=[]↔xs=[]:=by
 cases r with
 |nil=>simp
 |cons _ _=>simp
def Kx:cw X (binaryOp .Add) (GH):=by
 intro pins s σ H x y v u Q I m j h;obtain⟨a,b,xs,ys,rfl,rfl,n,k,i,hz,f,l⟩:=h;cases m;cases j;obtain⟨g,d,p,_⟩:=I.tuple n;obtain⟨e,c,p2,_⟩:=I.tuple k;refine HT.rW p p2 (λz=>i (d.gG.mp z)) (λz=>{.ref a,H,I,U,f (c.gG.mp z)}) (λz=>?_) (by rw[←d.length,←c.length];exact hz);refine{.ref ↑s,_,I.laid (t':=s.toks) (o:=.tup (xs++ys)) (λb r q=>qC _ q) (qb _) ?_,U,l (λw=>z (c.gG.mpr w)) _ (I.a6.fresh (qb _))};exact{by rw[qm];exact hz,_,d.append c,IsTup.new _ _}
end
def mX(n:Nat)(i:Int):Option Nat:=if 0≤i then(if i<n then some i.toNat else none) else if -(n:Int)≤i then some (i+n).toNat else none
def iH{α:Type}(xs:List α)(i:Int):Option α:=(mX xs.length i).bind λj=>xs[j]?
def Hx(h:mX n i=some j):seqIndex? i n=some j/\j<n/\-(n:Int)≤i/\i<n:=by
 unfold mX at h
 by_cases a:0≤i
 ·rw[q0 a]at h
  by_cases h1:i<n
  ·rw[q0 h1]at h
   have e:i.toNat=j:=qE h;exact{by rw[seqIndex_of a h1,e],(),(),h1}
  ·rw[qt h1]at h;cases h
 ·rw[qt a]at h
  by_cases h1:-(n:Int)≤i
  ·rw[q0 h1]at h
   have e:(i+n).toNat=j:=qE h;exact{by rw[seqIndex_neg () h1,e],(),h1,()}
  ·rw[qt h1]at h;cases h
def yI{α:Type}{xs:List α}{i:Int}{v:α}(h:iH xs i=some v):∃j,seqIndex? i xs.length=some j/\xs[j]?=some v/\j<xs.length/\-(xs.length:Int)≤i/\i<xs.length:=by
 unfold iH at h
 cases e:mX xs.length i with
 |none=>rw[e]at h;cases h
 |some j =>
  rw[e]at h;obtain⟨h1,h2,b,a⟩:=Hx e;exact{j,h1,h,h2,b,a}
def bH{α:Type}{xs:List α}{j:Nat}{v:α}(h:xs[j]?=some v):iH xs (j:Int)=some v:=by
 have a:j<xs.length:=(qw.mp h).1
 have e:mX xs.length (j:Int)=some j:=by
  unfold mX;rw[q0 (),q0 ()];simp
 unfold iH;rw[e];exact h
def gC(b:Expr):Prop:=∀o i,subscripted b false o i=operate [o,i] (getItem o i)
def HE(X:Cx)(r:R2):Prop :=
 ∀(value a:Expr) (pins:List (Addr×Obj)) (s:Shared) (σ:St) (H:Hp) (x y:V) (v u:Value) (Q:VK),Inv X pins σ H s->RelV x v->RelV y u->r x y H Q →
  subscripted a false v u=operate [v,u] (getItem v u)->wpAny (model X.prog X.w) X.A (subscriptTail value a v u) (EP X pins σ Q) X.xe s
def B4(X:Cx)(id:String)(r:V->List V->Hp->VK->Prop):Prop :=
 ∀(pins:List (Addr×Obj)) (s:Shared) (σ:St) (H:Hp) (x:V) (xs:List V) (v:Value) (us:List Value) (Q:VK),Inv X pins σ H s->RelV x v->aA xs us->r x xs H Q →
  wpAny (model X.prog X.w) X.A (call (.builtin id) (v::us)) (EP X pins σ Q) X.xe s
section
variable {X:Cx}{a b:Expr}{ta tb:TE}{pos:Pos}
def fX(c:HE X r)(j:PE X a ta)(f:PE X b tb)(hs:gC b):PE X (.Subscript a b pos) (p_ r ta tb):=by
 refine{?_};intro pins s σ H Q I h;exact Subscript_ (Bo j f I h λv u e x y H2 i g d q=>c a b pins e σ H2 x y v u Q i g d q (hs _ _))
inductive xr(x y:V)(H:Hp)(Q:VK):Prop
 |mk(p xs i v:_)(_:x=.ref p)(_:y=.int i)(_:aw H p xs)(_:iH xs i=some v)(_:Q v H)
inductive D_(x y:V)(H:Hp)(Q:VK):Prop
 |mk(p xs i v:_)(_:x=.ref p)(_:y=.int i)(_:aH H p xs)(_:iH xs i=some v)(_:Q v H)
inductive Pr(x y:V)(H:Hp)(Q:VK):Prop
 |mk(z i c:_)(_:x=.str z)(_:y=.int i)(_:z.length≤sizeLine)(_:iH z.cps.toList i=some c)(_:Q (.str ⟨#[c]⟩) H)
def Cy:HE X (xr):=by
 intro value b pins s σ H x y v u Q I o k h hs;obtain⟨p,xs,i,z,rfl,rfl,l,m,q⟩:=h;cases o;obtain⟨t,rfl⟩:=k;obtain⟨c,r,pl,hz⟩:=I.list l;obtain⟨j,h1,h2,C,n,B⟩:=yI m;obtain⟨w,f,d⟩:=r.get h2;have A:=r.length;have hn:=l3;have a:EP X pins σ Q w s:={z,H,I,d,q}
 by_cases g:0≤i
 ·have e:i.toNat=j:=by
   rw[seqIndex_of g B]at h1;exact qE h1
  exact item_listR pl.isList g () (by rw[e];simpa using f) a hs
 ·have e:(i+(c.toArray.size:Int)).toNat=j:=by
   rw[seqIndex_neg () n]at h1;rw[qx,←A];exact qE h1
  exact subscriptTail_builtinR (x:=w) pl.isList.typeIs slot_list_getitem.lookup
   (wpAny_getItem_list_neg (Q:=λr s'=>r=w/\EP X pins σ Q r s') pl.isList () (by rw[List.size_toArray] <;> omega) () (by rw[e];simpa using f) {U,a}) hs
def Jh:HE X (D_):=by
 intro value a pins s σ H x y v u Q I k e h hs;obtain⟨p,xs,i,z,rfl,rfl,f,g,q⟩:=h;cases k;obtain⟨t,rfl⟩:=e;obtain⟨d,r,pl,hz⟩:=I.tuple f;obtain⟨j,h1,h2,o,n,A⟩:=yI g;obtain⟨w,l,b⟩:=r.get h2;have m:=r.length;have hn:=l3;have c:EP X pins σ Q w s:={z,H,I,b,q}
 exact subscriptTail_builtinR (x:=w) pl.typeIs slot_tuple_getitem.lookup
  (getItem_tuple (j:=j) (Q:=λr s'=>r=w/\EP X pins σ Q r s') pl () () (by rw[List.size_toArray,←m];exact h1) (by simpa using l) {U,c}) hs
def DQ:HE X Pr:=by
 intro value a pins s σ H x y v u Q I g b h hs;obtain⟨z,i,c,rfl,rfl,hz,d,q⟩:=h;obtain⟨t,rfl⟩:=g;obtain⟨t',rfl⟩:=b;obtain⟨j,h1,h2,n,f,m⟩:=yI d
 have l:z.cps.toList.length=z.length:=by simp[Str.length]
 rw[l]at h1 f m;have hn:=l3
 exact tail_any (typeIs_str s z t) slot_str_getitem.lookup (getItem_str (c:=c) (by
  have e:decide (i < -(2 ^ 63:Int))=false:=decide_eq_false ();have k:decide (i≥2 ^ 63)=false:=decide_eq_false ()
  rw[e,k,Bool.or_false]) (by rw[h1];simpa using h2) {.str {#[c]},H,I.tok _,{_,U},q}) hs
def Qi(a:List Value)(n j:Nat)(u:Value):Obj.mapSeq (·.setIfInBounds j u) { cls:=.type "list",data:=.seq a.toArray n }={ cls:=.type "list",data:=.seq (a.set j u).toArray n }:=by
 simp[Obj.mapSeq]
theorem Inv.lst{pins:List (Addr×Obj)}{σ:St}{H:Hp}{s:Shared}{p:Addr}{xs:List V}(I:Inv X pins σ H s)(h:H p=some (.lst xs)) :
  ∃(a:List Value) (n:Nat),aA xs a/\s.heap.get? p=some { cls:=.type "list",data:=.seq a.toArray n }/\xs.length≤sizeLine:=by
 obtain⟨z,a,n,r,e⟩:=I.a6 p _ h;exact{a,n,r,e,z}
def Inv.Du{pins:List (Addr×Obj)}{σ:St}{H:Hp}{s:Shared}{p:Addr}{xs ys:List V}{a its':List Value}{n c:Nat}{f:Obj->Obj}(I:Inv X pins σ H s)(h:H p=some (.lst xs))(d:s.heap.get? p=some { cls:=.type "list",data:=.seq a.toArray n })(hf:f { cls:=.type "list",data:=.seq a.toArray n }={ cls:=.type "list",data:=.seq its'.toArray c })(r:aA ys its')(hz:ys.length≤sizeLine)(t:Nat) :
  Inv X pins σ (upd H p (.lst ys)) { s with heap:=s.heap.update p f,toks:=t }:=by
 have e:(s.heap.update p f).get? p=some { cls:=.type "list",data:=.seq its'.toArray c }:=by
  rw[Heap.get?_update_self f d (by rw[hf] <;> rfl),hf]
 refine I.write (x:=p) (e:=p) (by rw[h];trivial) (.inl rfl) (λb u g q=>(Heap.get?_update_other _ _ (Ne.symm g)).trans q) {_,e} ?_;exact{hz,its',c,r,e}
inductive JK(o i v:V)(H:Hp)(Q:(Hp->Prop)):Prop
 |mk(p xs k j:_)(_:o=.ref p)(_:i=.int k)(_:H p=some (.lst xs))(_:mX xs.length k=some j)(_:Q (upd H p (.lst (xs.set j v))))
def Ey:LU X JK:=by
 intro pins s σ H o i v A B u Q I y w x h;obtain⟨p,xs,k,j,rfl,rfl,f,z,q⟩:=h;cases y;obtain⟨t,rfl⟩:=w;obtain⟨a,n,r,c,hz⟩:=I.lst f;obtain⟨h1,h2,m,g⟩:=Hx z;have d:=r.length;have hn:=l3
 have e:Inv X pins σ (upd H p (.lst (xs.set j v))) { s with heap:=s.heap.update p (Obj.mapSeq (·.setIfInBounds j u)) } :=
  I.Du f c (Qi a n j u) (r.set x j) (by rw[wq];exact hz) s.toks
 by_cases l:0≤k
 ·have b:k.toNat=j:=by
   rw[seqIndex_of l g]at h1;exact qE h1
  exact PySem.W.ki_setAt c l () (by rw[qx,←d];exact g) (by rw[b];exact{_,e,q})
 ·have b:(k+(a.toArray.size:Int)).toNat=j:=by
   rw[seqIndex_neg () m]at h1;rw[qx,←d];exact qE h1
  exact PySem.W.ki_setBack c () (by rw[qx,←d];exact m) () (by rw[b];exact{_,e,q})
def M1(lo hi:Option Int)(n:Nat):(sliceBounds lo hi none n).1=((HT.bE n 0 lo:Nat):Int)/\(sliceBounds lo hi none n).2.1=((HT.bE n n hi:Nat):Int)/\(sliceBounds lo hi none n).2.2=1:=by
 refine{?_,?_,U}
 ·cases lo with
  |none=>simp[sliceBounds,HT.bE]
  |some i =>
   simp only[sliceBounds,HT.bE,Option.getD_none,show(1:Int)>0 from ⋯,if_true]
   by_cases h:i<0
   ·simp only[h,if_true] <;> omega
   ·simp only[h,if_false] <;> omega
 ·cases hi with
  |none=>simp[sliceBounds,HT.bE]
  |some i =>
   simp only[sliceBounds,HT.bE,Option.getD_none,show(1:Int)>0 from ⋯,if_true]
   by_cases h:i<0
   ·simp only[h,if_true] <;> omega
   ·simp only[h,if_false] <;> omega
def PF(a:List Value)(lo hi:Option Int):slicePick a.toArray lo hi none=((a.drop (HT.bE a.length 0 lo)).take (HT.bE a.length a.length hi - HT.bE a.length 0 lo)).toArray:=by
 obtain⟨h1,h2,b⟩:=M1 lo hi a.toArray.size;unfold slicePick;rw[h1,h2,b]
 simp only[sliceRange_one,pick_run,List.size_toArray] <;> rfl
inductive O4(x:V)(lo:Option Int)(hi:Option Int)(H:Hp)(Q:VK):Prop
 |mk(a xs:_)(_:x=.ref a)(_:aw H a xs)(_:∀p,H p=none->Q (.ref p) (upd H p (.lst (bQ xs lo hi))))
def Ni:ud X (O4):=by
 intro pins s σ H x v k l lo hi j Q I i hs pl g h;obtain⟨a,xs,rfl,f,q⟩:=h;cases i;obtain⟨e,r,d,hz⟩:=I.list f;have c:=r.length;refine{"list",_,slot_list_getitem.lookup,d.isList.typeIs,?_};refine wpAny_getItem_list_slice d.isList hs pl g .none (by simp) ?_ (by rw[List.size_toArray] <;> omega);rw[PF,←c];refine{.ref ↑s,_,I.laid (t':=s.toks) (o:=.lst (bQ xs lo hi)) (λb m q=>qC _ q) (qb _) ?_,U,q _ (I.a6.fresh (qb _))};exact{qg (AN xs lo hi) hz,_,0,(r.drop (HT.bE xs.length 0 lo)).take (HT.bE xs.length xs.length hi - HT.bE xs.length 0 lo),qD _ rfl}
def fx:V->Bool
 |.aT=>true
 |.bl _=>true
 |.int _=>true
 |.str _=>true
 |_=>false
def t5:V->V->Bool
 |.aT,.aT=>true
 |.bl a,.bl b=>a==b
 |.bl a,.int b=>(if a then 1 else 0)==b
 |.int a,.bl b=>a==(if b then 1 else 0)
 |.int a,.int b=>a==b
 |.str a,.str b=>a==b
 |_,_=>false
def xD(e:RelV y u)(c:RelV x v)(f:fx y=true)(d:fx x=true):SeqAt.EqAt A s u v (t5 y x):=by
 cases y with
 |aT =>
  cases e
  cases x with
  |aT=>cases c;exact SeqAt.EqAt.same _
  |bl b=>cases c;exact SeqAt.EqAt.none_bool b
  |int b=>obtain⟨t,rfl⟩:=c;exact SeqAt.EqAt.none_int b t
  |str b=>obtain⟨t,rfl⟩:=c;exact SeqAt.EqAt.none_str b t
  |_=>exact absurd (show false=true from d) qp
 |bl a =>
  cases e
  cases x with
  |aT=>cases c;exact SeqAt.EqAt.bool_none a
  |bl b=>cases c;exact SeqAt.EqAt.bool_bool a b
  |int b=>obtain⟨t,rfl⟩:=c;exact SeqAt.EqAt.bool_int a b t
  |str b=>obtain⟨t,rfl⟩:=c;exact SeqAt.EqAt.bool_str a b t
  |_=>exact absurd (show false=true from d) qp
 |int a =>
  obtain⟨t',rfl⟩:=e
  cases x with
  |aT=>cases c;exact SeqAt.EqAt.int_none a t'
  |bl b=>cases c;exact SeqAt.EqAt.int_bool a t' b
  |int b=>obtain⟨t,rfl⟩:=c;exact SeqAt.EqAt.int_int a t' b t
  |str b=>obtain⟨t,rfl⟩:=c;exact SeqAt.EqAt.int_str a t' b t
  |_=>exact absurd (show false=true from d) qp
 |str a =>
  obtain⟨t',rfl⟩:=e
  cases x with
  |aT=>cases c;exact SeqAt.EqAt.str_none a t'
  |bl b=>cases c;exact SeqAt.EqAt.str_bool a t' b
  |int b=>obtain⟨t,rfl⟩:=c;exact SeqAt.EqAt.str_int a t' b t
  |str b=>obtain⟨t,rfl⟩:=c;exact SeqAt.EqAt.str_str a t' b t
  |_=>exact absurd (show false=true from d) qp
 |_=>exact absurd (show false=true from f) qp
def kK(x:V)(u:Value):Bool:=match u with
 |.none=>t5 .aT x
 |.bool b=>t5 (.bl b) x
 |.int i _=>t5 (.int i) x
 |.str z _=>t5 (.str z) x
 |_=>false
def GU(r:RelV y u)(f:fx y=true):kK x u=t5 y x:=by
 cases y with
 |aT=>cases r;rfl
 |bl b=>cases r;rfl
 |int i=>obtain⟨t,rfl⟩:=r;rfl
 |str z=>obtain⟨t,rfl⟩:=r;rfl
 |_=>exact absurd (show false=true from f) qp
theorem n5:∀{xs:List V} {us:List Value},aA xs us->xs.all fx=true->us.any (kK x)=xs.any λy=>t5 y x
 |_,_,.nil,_=>rfl
 |y::xs,u::us,.cons r t,f=>by
  rw[List.all_cons,ze]at f;rw[vk,vk,GU r f.1,n5 t f.2]
theorem oN(c:RelV x v)(b:fx x=true):∀{xs:List V} {us:List Value},aA xs us->xs.all fx=true->∀u∈us,SeqAt.EqAt A s u v (kK x u)
 |_,_,.nil,_=>λu a=>by cases a
 |y::xs,u::us,.cons r t,f=>λd a=>by
  rw[List.all_cons,ze]at f;rcases qv.mp a with rfl|a
  ·rw[GU r f.1];exact xD r c f.1 b
  ·exact oN c b t f.2 d a
def su(x:V)(xs:List V):Bool:=xs.any λy=>t5 y x
inductive L7(neg:Bool)(x y:V)(H:Hp)(Q:VK):Prop
 |mk(p xs:_)(_:y=.ref p)(_:(aw H p xs\/aH H p xs))(_:fx x=true)(_:xs.all fx=true)(_:Q (.bl (if neg then !su x xs else su x xs)) H)
def N2:cw X (compareOp .In) (L7 false):=by
 intro pins s σ H x y v u Q I d e h;obtain⟨p,xs,rfl,b,c,fs,q⟩:=h;cases e;rcases b with b|b
 ·obtain⟨a,r,pl,hz⟩:=I.list b
  refine SeqAt.in_listAt (kK x) pl.isList (λw hw=>oN d c r fs w (by simpa using hw)) {.bl _,H,I,U,?_};rw[show a.toArray.any (kK x)=a.any (kK x) by simp,n5 r fs];exact q
 ·obtain⟨a,r,pl,hz⟩:=I.tuple b
  refine SeqAt.in_tupleAt (kK x) pl (λw hw=>oN d c r fs w (by simpa using hw)) {.bl _,H,I,U,?_};rw[show a.toArray.any (kK x)=a.any (kK x) by simp,n5 r fs];exact q
def QA:cw X (compareOp .NotIn) (L7 true):=by
 intro pins s σ H x y v u Q I d e h;obtain⟨p,xs,rfl,b,c,fs,q⟩:=h;cases e;rcases b with b|b
 ·obtain⟨a,r,pl,hz⟩:=I.list b
  refine SeqAt.notIn_listAt (kK x) pl.isList (λw hw=>oN d c r fs w (by simpa using hw)) {.bl _,H,I,U,?_};rw[show a.toArray.any (kK x)=a.any (kK x) by simp,n5 r fs];exact q
 ·obtain⟨a,r,pl,hz⟩:=I.tuple b
  refine SeqAt.notIn_tupleAt (kK x) pl (λw hw=>oN d c r fs w (by simpa using hw)) {.bl _,H,I,U,?_};rw[show a.toArray.any (kK x)=a.any (kK x) by simp,n5 r fs];exact q
inductive ic(xs:List V)(H:Hp)(Q:VK):Prop
 |mk(p ys:_)(_:xs=[.ref p])(_:(aw H p ys\/aH H p ys))(_:Q (.int ys.length) H)
def cZ:bj X (.builtin "len") (ic):=by
 intro pins s σ H xs us Q I r h;obtain⟨p,ys,rfl,b,q⟩:=h;obtain⟨u,rfl,e⟩:=vals1 r;cases e;have hn:=l3;rcases b with b|b
 ·obtain⟨c,d,pl,hz⟩:=I.list b
  have a:=d.length;exact Calls.call_len_list pl.isList (by simp only[List.size_toArray] <;> omega) {.int ys.length,H,I.tok _,{s.toks+1,by rw[List.size_toArray,a]},q}
 ·obtain⟨c,d,pl,hz⟩:=I.tuple b
  have a:=d.length;exact len_tuple pl (by simp only[List.size_toArray] <;> omega) {.int ys.length,H,I.tok _,{s.toks+1,by rw[List.size_toArray,a]},q}
inductive iA(xs:List V)(H:Hp)(Q:VK):Prop
 |mk(z:_)(_:xs=[.str z])(_:z.length≤sizeLine)(_:Q (.int z.length) H)
def C3:bj X (.builtin "len") iA:=by
 intro pins s σ H xs us Q I r h;obtain⟨z,rfl,hz,q⟩:=h;obtain⟨u,rfl,t,rfl⟩:=vals1 r;have hn:=l3;exact len_str () {.int z.length,H,I.tok _,{_,U},q}
inductive ij(xs:List V)(H:Hp)(Q:VK):Prop
 |mk(p ys:_)(_:xs=[.ref p])(_:(aw H p ys\/aH H p ys))(_:∀l,H l=none->Q (.ref l) (upd H l (.lst ys)))
def OW:bj X (.type "list") (ij):=by
 intro pins s σ H xs us Q I r h;obtain⟨p,ys,rfl,f,q⟩:=h;obtain⟨u,rfl,l⟩:=vals1 r;cases l
 have g:∀(a:List Value),aA ys a->ys.length≤sizeLine->∀(h':Heap) (d:Nat),(∀b o',s.heap.get? b=some o'->h'.get? b=some o') →
   h'.get? ↑s=some { cls:=.type "list",dict:=none,data:=.seq a.toArray d,slots:=#[] }->EP X pins σ Q (.ref ↑s) { s with heap:=h' }:=λa c hz h' d kp e =>
  {.ref ↑s,_,I.laid (t':=s.toks) kp (qb _) (show aQ X.prog X.w _ h' _ (.lst ys) from{hz,a,d,c,e}),U,q _ (I.a6.fresh (qb _))}
 rcases f with f|f
 ·obtain⟨a,c,pl,hz⟩:=I.list f
  have i:=c.length;obtain⟨o,k,j,n,hd⟩:=pl.isList;exact call_list_seq p (.inl rfl) k j hd (λh' d kp e=>g a c hz h' d kp e) (by simp only[List.size_toArray] <;> omega)
 ·obtain⟨a,c,pl,hz⟩:=I.tuple f
  have i:=c.length;obtain⟨o,k,j,n,hd⟩:=pl;exact call_list_seq p (.inr rfl) k j hd (λh' d kp e=>g a c hz h' d kp e) (by simp only[List.size_toArray] <;> omega)
inductive hV(xs:List V)(H:Hp)(Q:VK):Prop
 |mk(p ys:_)(_:xs=[.ref p])(_:((aw H p ys/\∀l,H l=none->Q (.ref l) (upd H l (.tup ys)))\/(aH H p ys/\Q (.ref p) H)))
def QE:bj X (.type "tuple") (hV):=by
 intro pins s σ H xs us Q I r h;obtain⟨p,ys,rfl,h⟩:=h;obtain⟨u,rfl,i⟩:=vals1 r;cases i;rcases h with⟨c,q⟩|⟨c,q⟩
 ·obtain⟨a,d,pl,hz⟩:=I.list c
  have f:=d.length;refine call_tuple_list pl.isList (λh' kp=>?_) (by simp only[List.size_toArray] <;> omega);have g:Inv X pins σ H { s with heap:=h' }:=I.kept (t':=s.toks) kp
  have j:Inv X pins σ (upd H h'.objs.size (.tup ys)) { s with heap:=h'.push { cls:=.type "tuple",data:=.seq a.toArray } } :=
   g.laid (t':=s.toks) (λb o e=>qC _ e) (qb _) (show aQ X.prog X.w _ _ _ (.tup ys) from{hz,a,d,IsTup.new _ _})
  exact{.ref h'.objs.size,_,j,U,q _ (g.a6.fresh (qb _))}
 ·obtain⟨a,d,pl,hz⟩:=I.tuple c
  exact call_tuple_same pl {.ref p,H,I,U,q}
def Ry(T:String)(x:V)(H:Hp):Prop:=match x with
 |.str _=>T = "str"
 |.int _=>T = "int"
 |.ref p=>(T = "list" /\ ∃xs,aw H p xs)\/(T = "tuple" /\ False) ∨
   (T = "dict" /\ ((∃kvs,H p=some (.dK kvs))\/(∃kvs,H p=some (.dT kvs))\/∃kvs,H p=some (.dG kvs)))\/(T = "set" /\ ∃S n,H p=some (.set S n))
 |_=>False
def AZ{pins:List (Addr×Obj)}{σ:St}{H:Hp}{s:Shared}{T:String}{x:V}{v:Value}(I:Inv X pins σ H s)(r:RelV x v)(ty:Ry T x H) :
  s.TypeIs v T/\∀a,v=.ref a->∃f,s.heap.get? a=some f/\f.dict=none:=by
 cases x with
 |str z =>
  obtain⟨t,rfl⟩:=r;cases(show T = "str" from ty);exact{typeIs_str s z t,λ_ e=>nomatch e}
 |int i =>
  obtain⟨t,rfl⟩:=r;cases(show T = "int" from ty);exact{typeIs_int s i t,λ_ e=>nomatch e}
 |ref p =>
  cases r;rcases ty with⟨rfl,xs,h⟩|⟨rfl,hf⟩|⟨rfl,b⟩|⟨rfl,S,n,b⟩
  ·obtain⟨g,_,pl,_⟩:=I.list h
   refine{pl.isList.typeIs,λa e=>?_};cases e;obtain⟨o,n,e,c,hd,_⟩:=pl;exact{o,e,hd}
  ·exact hf.elim
  ·have z:∃o,s.heap.get? p=some o/\o.ExactDict:=by
    rcases b with⟨kvs,b⟩|⟨kvs,b⟩|⟨kvs,b⟩
    ·obtain⟨_,_,_,_,o,_,_,e,ex,_⟩:=I.a6 p _ b
     exact{o,e,ex}
    ·obtain⟨_,_,_,_,o,_,_,e,ex,_⟩:=I.a6 p _ b
     exact{o,e,ex}
    ·obtain⟨_,_,_,_,o,_,_,e,ex,_⟩:=I.a6 p _ b
     exact{o,e,ex}
   obtain⟨o,e,ex⟩:=z;refine{{o,e,ex.1},λa d=>?_};cases d;exact{o,e,ex.2.1}
  ·obtain⟨o,_,_,_,e,ex,_⟩:=I.a6 p _ b
   refine{{o,e,ex.1},λa d=>?_};cases d;exact{o,e,ex.2.1}
 |_=>exact False.elim ty
def Mv(T:String)(r:V->List V->Hp->VK->Prop)(to:TE)(t:TA):TE:=λσ H Q=>to σ H λx H1=>Ry T x H1/\t σ H1 λxs H2=>r x xs H2 Q
variable {o e:Expr}{es:List Expr}{to:TE}{t:TA}{name:Str}{apos cpos:Pos}{T id:String}{r:V->List V->Hp->VK->Prop}
def Je(m:PlainAttrs T)(slot:Slot T name id)(f:typeOf (.builtin id)=pure (.type "method_descriptor"))(y:B4 X id r)(z:PE X o to)(u:PA X (e::es) t)(b:attributeBase o name X.env (eval o X.env)=eval o X.env:=by rfl)(d:((backTo cpos (starEach (e::es) X.env)).all (λx=>!x.1)&&(backToKw cpos (keywordEach [] X.env)).all (λx=>x.1.isSome)
   && decide ((e::es).length+([]:List Keyword).length+(if([]:List Keyword).isEmpty then 0 else 1)<30))=true:=by rfl)(c:(apos.endLine==cpos.line)=true:=by rfl)(hs:starEach (e::es) X.env=(false,eval e X.env)::starEach es X.env:=by rfl)(a:(backTo cpos (starEach es X.env)).any (·.1)=false:=by rfl) :
  PE X (.Call (.Attribute o name apos) (e::es) [] cpos) (Mv T r to t):=by
 refine{?_};intro pins s σ H Q I h;refine wpAny_Call_method_late b d c rfl (a8 (z pins s σ H _ I h) λv n ⟨x,H1,i,j,ty,k⟩=>?_);obtain⟨h1,h2⟩:=AZ i j ty;refine{T,id,m,slot,f,h1,h2,?_};have g:=u cpos pins n σ H1 _ i k;rw[hs]at g ⊢;refine Calls.callWith_builtin (by show(false||(backTo cpos (starEach es X.env)).any (·.1))=false;rw[a] <;> rfl) (Calls.evalArgs_plain ?_);exact a8 g λus l ⟨vs,H2,q,w,p⟩=>y pins l σ H2 x vs v us Q q j w p
end
def Fh(X:Cx)(id:String)(r:V->List V->Hp->VK->Prop):Prop :=
 ∀(pins:List (Addr×Obj)) (s:Shared) (σ:St) (H:Hp) (x:V) (xs:List V) (v:Value) (us:List Value) (Q:VK),Inv X pins σ H s->RelV x v->aA xs us->r x xs H Q →
  wpAny (model X.prog X.w) X.A (call (.builtin id) (v::us)) (EP X pins σ Q) X.xe s
def aA.tl(h:aA (x::xs) us):∃u vs,us=u::vs/\RelV x u/\aA xs vs:=by
 cases h with
 |cons r t=>exact{_,_,U,r,t}
def aA.one:∀{x:V} {us:List Value},aA [x] us->∃u,us=[u]/\RelV x u:=by
 intro x us h
 cases h with
 |cons r t=>cases t;exact{_,U,r}
def aA.two:∀{x y:V} {us:List Value},aA [x,y] us->∃u v,us=[u,v]/\RelV x u/\RelV y v:=by
 intro x y us h;obtain⟨u,vs,rfl,r,t⟩:=aA.tl h;obtain⟨v,rfl,q⟩:=aA.one t;exact{u,v,U,r,q}
theorem aA.rep(h:aA xs us):∀k:Nat,aA (List.replicate k xs).flatten (List.replicate k us).flatten
 | 0=>.nil
 |k+1=>by
  rw[wu,wu,yg,yg];exact aA.append h (aA.rep h k)
theorem JB(a:List Value):∀(k:Nat) (b:List Value),
  List.foldl (λf c=>f++c) b.toArray (List.replicate k a.toArray)=(b++(List.replicate k a).flatten).toArray
 | 0,b=>by simp
 |k+1,b=>by
  have e:b.toArray++a.toArray=(b++a).toArray:=by simp
  have d:(b++a)++(List.replicate k a).flatten=b++(List.replicate (k+1) a).flatten:=by
   rw[wu,yg,jn]
  rw[←d,←JB a k (b++a),←e,wu,jo]
section
variable {X:Cx}{pins:List (Addr×Obj)}{σ:St}{H:Hp}{s:Shared}{l b:Addr}{xs ys zs:List V}
def Inv.Iy{a its':List Value}{n:Nat}{f:Array Value->Array Value}{t':Nat}(I:Inv X pins σ H s)(b:H l=some (.lst xs))(e:s.heap.get? l=some { cls:=.type "list",data:=.seq a.toArray n })(hf:f a.toArray=its'.toArray)(g:aA ys its')(hz:ys.length≤sizeLine) :
  Inv X pins σ (upd H l (.lst ys)) { s with heap:=s.heap.update l (Obj.mapSeq f),toks:=t' }:=by
 have q:=PySem.IsL.update e f;rw[hf]at q;refine I.write (x:=l) (e:=l) (by rw[b];exact trivial) (.inl rfl) (λh u d c=>(Heap.get?_update_other s.heap (Obj.mapSeq f) (Ne.symm d)).trans c) {_,q} ?_;exact{hz,its',_,g,q}
def Inv.xn(I:Inv X pins σ H s)(b:aA ys a)(hz:ys.length≤sizeLine) :
  Inv X pins σ (upd H ↑s (.lst ys)) { s with heap:=s.heap.push { cls:=.type "list",data:=.seq a.toArray },toks:=t' } :=
 I.laid (λ_ _ q=>qC _ q) (qb _) {hz,a,0,b,qD _ rfl}
theorem Inv.fresh(I:Inv X pins σ H s):H ↑s=none:=I.a6.fresh (qb _)
def Inv.mB(I:Inv X pins σ H s)(b:H l=some (.lst xs)):xs.length≤sizeLine/\∃(a:List Value) (n:Nat),aA xs a/\xs.length=a.length/\s.heap.get? l=some { cls:=.type "list",data:=.seq a.toArray n }:=by
 obtain⟨z,a,n,r,e⟩:=I.a6 l _ b;exact{z,a,n,r,r.length,e}
def Mq(h:n≤sizeLine):Builtin.List.listTooLong n=false:=by
 unfold Builtin.List.listTooLong;exact decide_eq_false ()
end
section
variable {X:Cx}
inductive lX(x:V)(vs:List V)(H:Hp)(Q:VK):Prop
 |mk(l xs y:_)(_:x=.ref l)(_:vs=[y])(_:H l=some (.lst xs))(_:xs.length<sizeLine)(_:Q .aT (upd H l (.lst (xs++[y]))))
def PB:Fh X "list.append" lX:=by
 intro pins s σ H x vs v us Q I d c h;obtain⟨l,xs,y,rfl,rfl,b,hz,q⟩:=h;cases d;obtain⟨u,rfl,f⟩:=c.one;obtain⟨z,a,n,r,g,e⟩:=I.mB b;refine call_meets F.slot_list_append {_,e,U} F.entry_list_append (F.args_list_append_2 _ _) (PySem.list_append l a.toArray n u (by rw[qx];omega)) {e,?_};refine{.aT,_,I.Iy (its':=a++[u]) b e (by simp) (r.append (.cons f .nil)) ?_,U,q};rw[qm,zi];omega
inductive PH(x y:V)(H:Hp)(Q:VK):Prop
 |mk(l b xs zs:_)(_:x=.ref l)(_:y=.ref b)(_:H l=some (.lst xs))(_:H b=some (.lst zs))(_:xs.length+zs.length≤sizeLine)(_:∀p,H p=none->Q (.ref p) (upd H p (.lst (xs++zs))))
def DK:cw X (binaryOp .Add) PH:=by
 intro pins s σ H x y v u Q I j g h;obtain⟨l,b,xs,zs,rfl,rfl,f,i,hz,q⟩:=h;cases j;cases g;obtain⟨z,c,n,r,t,e⟩:=I.mB f;obtain⟨p,a,n2,k,d,m⟩:=I.mB i;refine PySem.P.add_list e m ?_ (by rw[qx,qx];omega)
 have o:c.toArray++a.toArray=(c++a).toArray:=by simp
 rw[o];exact{.ref _,_,I.xn (t':=s.toks) (r.append k) (by rw[qm];omega),U,q _ I.fresh}
inductive Ou(x y:V)(H:Hp)(Q:VK):Prop
 |mk(l k xs:_)(_:x=.ref l)(_:y=.int k)(_:H l=some (.lst xs))(_:-(2 ^ 63)≤k)(_:k<2 ^ 63)(_:xs.length * k.toNat≤sizeLine)(_:∀p,H p=none->Q (.ref p) (upd H p (.lst (List.replicate k.toNat xs).flatten)))
def NX{α:Type}(xs:List α)(k:Nat):(List.replicate k xs).flatten.length=k * xs.length:=by
 induction k with
 |zero=>simp
 |succ k a=>rw[wu,yg,qm,a,Nat.succ_mul,yu]
def xc:cw X (binaryOp .Mult) Ou:=by
 intro pins s σ H x y v u Q I A w h;obtain⟨l,k,xs,rfl,rfl,p,h1,h2,hz,q⟩:=h;cases A;obtain⟨t,rfl⟩:=w;obtain⟨z,b,n,r,C,e⟩:=I.mB p
 have f:b.toArray.size * k.toNat≤sizeLine:=by rw[qx,←C];exact hz
 have g:¬b.toArray.size * k.toNat>(2 ^ 63 - 1) / 8:=by
  have:(sizeLine:Nat)≤(2 ^ 63 - 1) / 8:=⋯
  omega
 have d:¬(!Builtin.List.listFitsIndex k)=true:=by
  rw[fitsIndex_both h1 h2];exact qp
 have c:¬Builtin.List.listTooLong (b.toArray.size * k.toNat)=true:=by
  rw[Mq f];exact qp
 have i:List.foldl (λo j=>o++j) #[] (List.replicate (if b.toArray.isEmpty=true then 0 else k.toNat) b.toArray)=(List.replicate k.toNat b).flatten.toArray:=by
  have B:∀m:Nat,List.foldl (λo j=>o++j) #[] (List.replicate m b.toArray)=(List.replicate m b).flatten.toArray:=λm=>by
   have:=JB b m [];rw[List.nil_append]at this;exact this
  rw[B]
  cases b with
  |nil=>simp
  |cons a D=>rw[qt (by simp)]
 refine wpAny_binaryOp_repeat_ref (T:="list") (U:="int") ⋯ {_,e,rfl} (λs'=>typeIs_int s' k t) noFill_list_mul F.fills_int_mul F.slot_int_rmul repeat_list F.slot_int_index.lookup
  (call_meets F.slot_int_rmul (typeIs_int s k t) F.entry_int_rmul (F.args_int_rmul_2 _ _) (int___rmul___int_list k t l b.toArray n)
   {e,rfl,{_,e,rfl},call_meets F.slot_list_mul {_,e,rfl} F.entry_list_mul (F.args_list_mul_2 _ _) (AutoListH.list___mul___list_int_3 l b.toArray n k t d g c) {e,?_}})
 rw[i];exact{.ref _,_,I.xn (t':=s.toks) (r.rep k.toNat) (by rw[NX,Nat.mul_comm];exact hz),rfl,q _ I.fresh}
end
section
variable {κ:Type}[DecidableEq κ]
def cN(kvs:List (κ×V))(k:κ):Option V:=(kvs.find? λa=>decide (a.1=k)).map (·.2)
def putK(kvs:List (κ×V))(k:κ)(v:V):List (κ×V) :=
 if(kvs.any λa=>decide (a.1=k))=true then kvs.map (λa=>if a.1=k then(a.1,v) else a) else kvs++[(k,v)]
def gZ{k:κ}(e:p.1=k):cN (p::r) k=some p.2:=by simp[cN,List.find?_cons,e]
def gX{k:κ}(e:¬p.1=k):cN (p::r) k=cN r k:=by simp[cN,List.find?_cons,e]
theorem rK(k:κ):∀kvs:List (κ×V),(kvs.any λa=>decide (a.1=k))=(cN kvs k).isSome
 |[]=>rfl
 |p::r=>by
  rw[vk]
  by_cases e:p.1=k
  ·simp only[gZ e,decide_eq_true e,Bool.true_or,Option.isSome_some]
  ·rw[gX e,decide_eq_false e,Bool.false_or];exact rK k r
theorem Jw(k j:κ)(y:V):∀kvs:List (κ×V),cN (kvs.map λa=>if a.1=k then(a.1,y) else a) j=(cN kvs j).map λx=>if j=k then y else x
 |[]=>rfl
 |p::r=>by
  have b:=Jw k j y r;rw[qi]
  by_cases h:p.1=k
  ·rw[q0 h]
   by_cases e:p.1=j
   ·rw[gZ (p:=(p.1,y)) e,gZ e,yv,q0 (e.symm.trans h)]
   ·rw[gX (p:=(p.1,y)) e,gX e,b]
  ·rw[qt h]
   by_cases e:p.1=j
   ·rw[gZ (p:=p) e,gZ e,yv,qt (λz=>h (e.trans z))]
   ·rw[gX (p:=p) e,gX e,b]
theorem JQ(k j:κ)(y:V):∀kvs:List (κ×V),cN kvs k=none->cN (kvs++[(k,y)]) j=if j=k then some y else cN kvs j
 |[],_=>by
  by_cases e:k=j
  ·rw[q0 e.symm];exact gZ (p:=(k,y)) e
  ·rw[qt (λz=>e z.symm)];exact gX (p:=(k,y)) e
 |p::r,hn=>by
  rw[List.cons_append]
  have a:¬p.1=k:=λz=>by rw[gZ z]at hn;cases hn
  rw[gX a]at hn;have b:=JQ k j y r hn
  by_cases e:p.1=j
  ·rw[gZ e,gZ e,qt (λz=>a (e.trans z))]
  ·rw[gX e,gX e,b]
def Ig(kvs:List (κ×V))(k j:κ)(y:V):cN (putK kvs k y) j=if j=k then some y else cN kvs j:=by
 unfold putK
 by_cases a:(kvs.any λc=>decide (c.1=k))=true
 ·rw[q0 a,Jw]
  rw[rK]at a
  by_cases e:j=k
  ·obtain⟨x,b⟩:=jk.mp a
   rw[q0 e,e,b,yv,q0 rfl]
  ·rw[qt e]
   cases cN kvs j with
   |none=>rfl
   |some x=>rw[yv,qt e]
 ·rw[qt a]
  refine JQ k j y kvs ?_;rw[rK]at a
  cases q:cN kvs k with
  |none=>rfl
  |some x=>rw[q]at a;exact(a rfl).elim
def sZ(kvs:List (κ×V))(k:κ)(v:V):(putK kvs k v).length≤kvs.length+1:=by
 unfold putK
 split
 ·rw[qa];omega
 ·rw[qm,qr,vd];omega
def dP.fR(r:dP o u):o.isSome=u.isSome:=by
 cases o with
 |none=>cases u with
  |none=>rfl
  |some _=>exact(show False from r).elim
 |some _=>cases u with
  |none=>exact(show False from r).elim
  |some _=>rfl
def KV.val(r:KV kvs vs)(k:κ):dP (cN kvs k) (valueAt vs k):=by
 unfold KV at r
 induction r with
 |nil=>exact True.intro
 |@cons p q ps a h t d =>
  obtain⟨h1,h2⟩:=h
  by_cases e:p.1=k
  ·have c:q.1=k:=h1.symm.trans e
   have b:valueAt (q::a) k=some q.2:=by simp[valueAt,List.find?_cons,c]
   rw[gZ e,b];exact h2
  ·have c:¬q.1=k:=λz=>e (h1.trans z)
   have b:valueAt (q::a) k=valueAt a k:=by simp[valueAt,List.find?_cons,c]
   rw[gX e,b];exact d
theorem KV.any(r:KV kvs vs)(k:κ):(kvs.any λa=>decide (a.1=k))=vs.any λa=>decide (a.1=k):=by
 unfold KV at r
 induction r with
 |nil=>rfl
 |cons h t b=>rw[vk,vk,b,h.1]
def KV.wY(r:KV kvs vs)(k:κ)(c:RelV y u) :
  KV (kvs.map λa=>if a.1=k then(a.1,y) else a) (vs.map λa=>if a.1=k then(a.1,u) else a):=by
 unfold KV at r ⊢
 induction r with
 |nil=>exact .nil
 |@cons p q ps d h t b =>
  rw[qi,qi];refine .cons ?_ b;obtain⟨h1,h2⟩:=h
  by_cases e:p.1=k
  ·rw[q0 e,q0 (h1.symm.trans e)];exact{h1,c}
  ·rw[qt e,qt (λz=>e (h1.trans z))];exact{h1,h2}
def KV.put(r:KV kvs vs)(k:κ)(a:RelV y u):KV (putK kvs k y) (stored vs k u):=by
 unfold putK stored;rw[r.any k]
 by_cases e:(vs.any λb=>decide (b.1=k))=true
 ·rw[q0 e,q0 e];exact r.wY k a
 ·rw[qt e,qt e];exact Paired.snoc r {U,a}
theorem KV.length{kvs:List (κ×V)}{vs:List (κ×Value)}(r:KV kvs vs):kvs.length=vs.length:=Paired.length r
end
def iN{k:Key}(r:RelV (kV k) u):(ag P w).is k u=true:=by
 cases k with
 |inl i=>obtain⟨t,e⟩:=(show ∃t,u=Value.int i t from r);subst e;exact NB P w i t
 |inr x=>obtain⟨t,e⟩:=(show ∃t,u=Value.str x t from r);subst e;exact OK P w x t
theorem Jm:∀{ks:List Key} {us:List Value},aA (ks.map kV) us->ItemsAre (ag P w) ks us
 |[],_,r=>by rw[List.map_nil]at r;cases r;exact .nil
 |k::ks,_,r=>by
  rw[qi]at r
  cases r with
  |cons h t=>exact .cons (iN h) (Jm t)
abbrev KT(H:Hp):List (List Key×V)->List (List Key×Addr×Value)->Prop:=Paired λp q=>p.1=q.1/\H q.2.1=some (.tup (p.1.map kV))/\RelV p.2 q.2.2
def KT.val(r:KT H kvs xs)(k:List Key):dP (cN kvs k) ((atKey xs k).map (·.2)):=by
 induction r with
 |nil=>exact True.intro
 |@cons p q ps a h t d =>
  obtain⟨h1,_,h2⟩:=h
  by_cases e:p.1=k
  ·have c:q.1=k:=h1.symm.trans e
   have b:atKey (q::a) k=some q.2:=by simp[atKey,List.find?_cons,c]
   rw[gZ e,b];exact h2
  ·have c:¬q.1=k:=λz=>e (h1.trans z)
   have b:atKey (q::a) k=atKey a k:=by simp[atKey,List.find?_cons,c]
   rw[gX e,b];exact d
def KT.wY(r:KT H kvs xs)(k:List Key)(c:RelV y u) :
  KT H (kvs.map λa=>if a.1=k then(a.1,y) else a) (xs.map (putAt k u)):=by
 induction r with
 |nil=>exact .nil
 |@cons p q ps f h t b =>
  rw[qi,qi];refine .cons ?_ b;obtain⟨h1,h2,d⟩:=h;unfold putAt
  by_cases e:p.1=k
  ·rw[q0 e,q0 (h1.symm.trans e)];exact{h1,h2,c}
  ·rw[qt e,qt (λz=>e (h1.trans z))];exact{h1,h2,d}
def KT.put(r:KT H kvs xs)(k:List Key)(c:H b=some (.tup (k.map kV)))(a:RelV y u) :
  KT H (putK kvs k y) (storedH xs k b u):=by
 have e:(kvs.any λd=>decide (d.1=k))=(atKey xs k).isSome:=by
  rw[rK,(r.val k).fR,j8]
 unfold putK storedH;rw[e]
 by_cases q:(atKey xs k).isSome=true
 ·rw[q0 q,q0 q];exact r.wY k a
 ·rw[qt q,qt q];exact Paired.snoc r {U,c,a}
def KT.keeps(r:KT H kvs xs)(a:∀b ys,H b=some (.tup ys)->H' b=some (.tup ys)):KT H' kvs xs :=
 Paired.p9 r λ_ _ z=>{z.1,a _ _ z.2.1,z.2.2}
section
variable {P:Program}{w:World}{H:Hp}{h:Heap}{a:Addr}
def uG(ok:dm P w H h)(e:Rd H a u):aQ P w H h a u:=e.ok ok
def q_(ok:dm P w H h)(e:Rd H a (.dK kvs)):kvs.length≤sizeLine/\(a==sysModules)=false/\∃vs,KV kvs vs/\h.DictOf (ag P w) a vs :=
 show aQ P w H h a (.dK kvs) from uG ok e
def IK(ok:dm P w H h)(e:H a=some (.dK kvs)):kvs.length≤sizeLine/\(a==sysModules)=false/\∃vs,KV kvs vs/\h.DictOf (ag P w) a vs:=q_ ok (.inl e)
def l5(ok:dm P w H h)(e:H a=some (.tup (ks.map kV))):(tupleKind (ag P w)).is h ks a:=by
 obtain⟨_,b,r,o,h1,h2,n,c⟩:=(show aQ P w H h a (.tup (ks.map kV)) from ok a _ e);exact{o,b.toArray,n,h1,h2,c,by simpa using Jm r}
def ni(ok:dm P w H h)(e:Rd H a (.dT kvs)):kvs.length≤sizeLine/\(a==sysModules)=false ∧
  ∃xs,KT H kvs xs/\h.DictOfH (tupleKind (ag P w)) a xs:=by
 obtain⟨z,y,xs,r,o,es,ep,h1,h2,g,f,i⟩:=(show aQ P w H h a (.dT kvs) from uG ok e);refine{z,y,xs,r,o,es,ep,h1,h2,g,f,λx b=>?_,i}
 have all:∀{l:List (List Key×V)} {m:List (List Key×Addr×Value)},KT H l m->∀x∈m,(tupleKind (ag P w)).is h x.1 x.2.1:=by
  intro l m q
  induction q with
  |nil=>intro x b;exact nomatch b
  |@cons p q ps j c t d =>
   intro x b;rcases qv.mp b with e|b
   ·subst e
    exact l5 ok (by rw[←c.1];exact c.2.1)
   ·exact d x b
 exact all r x b
def KJ(ok:dm P w H h)(e:H a=some (.dT kvs)):kvs.length≤sizeLine/\(a==sysModules)=false ∧
  ∃xs,KT H kvs xs/\h.DictOfH (tupleKind (ag P w)) a xs:=ni ok (.inl e)
end
def ig(H:Hp)(a:Addr)(y:V)(r:Option V):Prop :=
 (∃kvs k,Rd H a (.dK kvs)/\y=kV k/\r=cN kvs k)\/∃kvs k b,Rd H a (.dT kvs)/\y=.ref b/\H b=some (.tup (k.map kV))/\r=cN kvs k
def qZ(H:Hp)(a:Addr)(y v:V)(H':Hp):Prop :=
 (∃kvs k,H a=some (.dK kvs)/\y=kV k/\kvs.length<sizeLine/\H'=upd H a (.dK (putK kvs k v))) ∨
 ∃kvs k b,H a=some (.dT kvs)/\y=.ref b/\H b=some (.tup (k.map kV))/\kvs.length<sizeLine/\H'=upd H a (.dT (putK kvs k v))
theorem ig.k{k:Key}(e:H a=some (.dK kvs)):ig H a (kV k) (cN kvs k):=.inl {kvs,k,.inl e,U,U}
def ig.t{k:List Key}(e:H a=some (.dT kvs))(c:H b=some (.tup (k.map kV))):ig H a (.ref b) (cN kvs k):=.inr {kvs,k,b,.inl e,U,c,U}
def qZ.t{k:List Key}(e:H a=some (.dT kvs))(c:H b=some (.tup (k.map kV)))(d:kvs.length<sizeLine) :
  qZ H a (.ref b) v (upd H a (.dT (putK kvs k v))):=.inr {kvs,k,b,e,U,c,d,U}
section
variable {X:Cx}{pins:List (Addr×Obj)}{σ:St}{H:Hp}{s:Shared}{a:Addr}{y v:V}{u r:Value}{o:Option V}{A:Around}{E:Value->Shared->Prop}
def Inv.iZ(I:Inv X pins σ H s):sysModules<↑s:=by
 have h:mainGlobals<↑s:=(I.mod.glob.keeps I.bk).lt;exact yh ⋯ h
def QS(q:A.units+1<cLine)(I:Inv X pins σ H s)(g:ig H a y (some v))(n:RelV y u)(h:∀f s',Inv X pins σ H s'->RelV v f->Q f s') :
  wpAny (model X.prog X.w) A (getItem (.ref a) u) Q E s:=by
 rcases g with⟨kvs,k,e,j,l⟩|⟨kvs,k,b,e,j,t,l⟩
 ·subst j
  obtain⟨z,hd,vs,d,m⟩:=q_ I.a6 e;obtain⟨f,hw,c⟩:=dP.some_of (v:=v) (o:=valueAt vs k) (by rw[l];exact d.val k);exact wpAny_getItem_of (iN n) m.mapOf hw (h f _ (I.tok _) c)
 ·subst j
  cases(show u=Value.ref b from n);obtain⟨z,hd,xs,d,m⟩:=ni I.a6 e;obtain⟨f,hw,c⟩:=dP.some_of (v:=v) (o:=(atKey xs k).map (·.2)) (by rw[l];exact d.val k);obtain⟨p,r,i⟩:=vf.mp hw;refine wpAny_getItem_heap (tupleKind_room_in1 q) (l5 I.a6 t) m r ?_;rw[i];exact h f _ (I.tok _) c
def xH(I:Inv X pins σ H s)(d:K' (H a))(hs:Heap.SameBut a s.heap h')(g:∃q,h'.get? a=some q)(new:aQ X.prog X.w (upd H a c) h' a c) :
  Inv X pins σ (upd H a c) { s with heap:=h',toks:=t' } :=
 I.write (x:=a) (e:=a) d (.inl rfl) (λb q f z=>(hs.2 b f).trans z) g new
def wQ(z:kvs.length≤sizeLine)(hd:(a==sysModules)=false)(b:KV kvs vs)(c:h'.DictOf (ag P w) a vs) :
  aQ P w H' h' a (.dK kvs):={z,hd,vs,b,c}
def OF(C:A.units+1<cLine)(I:Inv X pins σ H s)(g:qZ H a y v H')(t:RelV y u)(B:RelV v r)(h:∀s',Inv X pins σ H' s'->Q Unit.unit s') :
  wpAny (model X.prog X.w) A (setItem (.ref a) u r) Q E s:=by
 rcases g with⟨kvs,k,e,j,l,n⟩|⟨kvs,k,b,e,j,x,l,n⟩
 ·subst j n
  obtain⟨z,hd,vs,d,m⟩:=IK I.a6 e
  have hz:vs.length≤sizeLine:=by rw[←d.length];exact z
  have o:(putK kvs k v).length≤sizeLine:=by have:=sZ kvs k v;omega
  refine wpAny_setItem_pairs (hsz:=hz) (iN t) m λh' f hs=>h _ ?_
  have D:∃q,h'.get? a=some q:=let⟨q,_,_,i,_⟩:=f;{q,i}
  exact xH I (by rw[e];exact True.intro) hs D (wQ o hd (d.put k B) f)
 ·subst j n
  cases(show u=Value.ref b from t);obtain⟨z,hd,xs,d,m⟩:=KJ I.a6 e
  have hz:xs.length≤sizeLine:=by rw[←Paired.length d];exact z
  have o:(putK kvs k v).length≤sizeLine:=by have:=sZ kvs k v;omega
  refine wpAny_setItem_heap (hsz:=hz) (tupleKind_room_in1 C) (l5 I.a6 x) m λh' f hs=>h _ ?_;obtain⟨q,es,ep,i,h2,G,F,_,J⟩:=f;refine xH I (by rw[e];exact True.intro) hs {q,i} {o,hd,_,(d.put k x B).keeps λc ys p=>?_,q,es,ep,i,h2,G,F,J};rw[aD (u6 p e (λz=>nomatch z))];exact p
end
def ti(i:Expr):Prop:=∀b a,subscripted i false b a=operate [b,a] (getItem b a)
def EY{prog:Program}{w:World}{A:Around}{E:Value->Shared->Prop}{s:Shared}{env:Env}{value a:Expr}{pos:Pos}{T id:String}{Q:Value->Shared->Prop}(l:typeLookup (.type T) "__getitem__"=pure (some (.builtin id)))(hs:ti a)(h:wpAny (model prog w) A (eval value env) (λo d=>wpAny (model prog w) A (eval a env) (λi b=>b.TypeIs o T/\wpAny (model prog w) A (getItem o i) Q E b) E d) E s) :
  wpAny (model prog w) A (eval (.Subscript value a pos) env) Q E s:=by
 refine Subscript_ (qH h (λo d j=>qH j (λi b c=>?_) λ_ _ x=>x) λ_ _ x=>x);obtain⟨k,c⟩:=c;unfold subscriptTail;refine qq ?_;rw[getitemInPython_of_ne k.not_modules];refine qq (wpAny_specialOf k l ?_)
 have f:wpAny (model prog w) A (subscripted a false o i) (λr e=>wpAny (model prog w) A (letTemporaryGo value o r >>= λ_=>pure r) Q E e) E b:=by
  rw[hs o i];exact wpAny_operating (qH c (λr e g=>qq (wpAny_letTemporaryGo (qs g))) λ_ _ x=>x)
 first
  |exact qs (qq f)
  |exact qq (qs (qq f))
  |exact qq f
def PD{X:Cx}{pins:List (Addr×Obj)}{σ:St}{H:Hp}{s:Shared}{a:Addr}{y:V}{o:Option V}(I:Inv X pins σ H s)(g:ig H a y o):s.TypeIs (.ref a) "dict":=by
 rcases g with⟨kvs,k,e,_,_⟩|⟨kvs,k,b,e,_,_,_⟩
 ·obtain⟨_,_,vs,_,c⟩:=q_ I.a6 e
  exact c.typeIs
 ·obtain⟨_,_,xs,_,c⟩:=ni I.a6 e
  exact c.typeIs
inductive Bn(Q:VK)(x y:V)(H2:Hp):Prop
 |mk(a v:_)(_:x=.ref a)(_:ig H2 a y (some v))(_:Q v H2)
def LS(td ty:TE):TE:=λσ H Q=>td σ H λx H1=>ty σ H1 λy H2=>Bn Q x y H2
inductive zP(D:Ends)(σ:St)(v x y:V)(H3:Hp):Prop
 |mk(a H4:_)(_:x=.ref a)(_:qZ H3 a y v H4)(_:D.nx σ H4)
def HX(td ty tv:TE):TS:=λD σ H=>tv σ H λv H1=>td σ H1 λx H2=>ty σ H2 λy a=>zP D σ v x y a
section
variable {X:Cx}{o i e value:Expr}{pos pos' tpos:Pos}{td ty tv:TE}
def Eb(f:X.A.units+1<cLine)(p:PE X o td)(hi:PE X i ty)(hs:ti i):PE X (.Subscript o i pos) (LS td ty):=by
 refine{?_};intro pins s σ H Q I h;refine EY PySem.F.slot_dict_getitem.lookup hs (a8 (p pins s σ H _ I h) λu j ⟨x,H1,n,m,d⟩=>a8 (hi pins j σ H1 _ n d) λt w ⟨y,H2,c,e,a,v,ex,g,l⟩=>?_);subst ex;obtain rfl:u=Value.ref a:=m;exact{PD c g,QS f c g e λr q k b=>{v,H2,k,b,l}}
def Mx(j:X.A.units+1<cLine)(l:PE X o td)(hi:PE X i ty)(n:PE X value tv)(hs:swapsWith value (some (.Subscript o i pos')) pos.line X.env=pure false) :
  PS X (.Assign [.Subscript o i pos'] value pos) (HX td ty tv):=by
 refine{?_};intro pins s σ H D I h;refine wpAny_Assign_Subscript (a8 (n pins s σ H _ I h) λr w ⟨v,H1,B,z,m⟩=>a8 (l pins w σ H1 _ B m) λu t ⟨x,H2,d,k,c⟩=>a8 (hi pins t σ H2 _ d c) λG C ⟨y,E,b,f,a,p,ex,g,e⟩=>?_) hs;subst ex;obtain rfl:u=Value.ref a:=k;exact OF j b g f z λF q=>{σ,p,q,e}
end
def OJ(h:Heap)(a:sysModules<h.objs.size):aQ P w H (h.push { cls:=.type "dict",data:=.dict #[] }) h.objs.size (.dT []) :=
 {zd _,beq_eq_false_iff_ne.mpr (Ne.symm (qd a)),[],.nil,_,#[],0,qD _ rfl,{U,U,U},U,U,wj}
def By:TE:=λ_ H Q=>∀p,H p=none->Q (.ref p) (upd H p (.dT []))
section
variable {X:Cx}{pos:Pos}
def Qv:PE X (.Dict [] [] pos) By:={λpins s σ H Q I h =>
 wpAny_Dict_empty {.ref ↑s,_,I.laid (a:=↑s) (o:=.dT []) (t':=s.toks) (λ_ _ q=>qC _ q) (qb _) (OJ s.heap I.iZ),U,h _ (I.a6.fresh (qb _))}}
end
end L2
namespace Att
open PySem PySem.W PySem.Calls PyProof.Rows
def P6:∀(c:List Int) (vs:List Value),WellAll P h vs (c.map WData.int)->IntsAre vs c:=by
 intro c
 induction c with
 |nil =>
  intro vs w;rw[List.map_nil]at w;cases w;exact .nil
 |cons n c d =>
  intro vs w;rw[qi]at w
  cases w with
  |cons a b =>
   cases a;exact .cons _ _ (d _ b)
def QH{l:OpenLaw}{n:Nat}(hn:l.most=some n){P:Params}{h:Heap}{args:List WData}{c:List Value}(e:l.row.toRowW.claim.pre args=true)(k:WellAll P h c args) :
  ∃a vs b,c=[Value.ref a]/\args=[WData.list (b.map WData.int)]/\h.get? a=some { cls:=.type "list",data:=.seq vs.toArray }/\IntsAre vs b/\b.length≤n:=by
 have m:WShape.hasAll [] args [.list .int]=true:=(pre_splitW e).1;have o:l.pre.holds [] { args:=args }=true:=(pre_splitW e).2;obtain⟨d,r,rfl,h1,h2⟩:=hasAllW_cons m;obtain rfl:=hasAllW_nil h2;obtain⟨xs,rfl,u⟩:=hasW_list h1;obtain⟨b,rfl⟩:=items_int u
 have f:b.length≤n:=by
  unfold OpenLaw.pre at o
  have i:(WTm.not (.lt (.lit (.int (n:Int))) (.len (.arg 0)))).holds [] { args:=[.list (b.map .int)] }=true:=by
   have i:=(holds_andW o).1;rw[hn]at i;exact i
  have j:=condW_of i (w_not (w_lt w_lit (w_len_list (w_arg rfl))));rw[qa]at j;refine Nat.le_of_not_lt λq=>?_
  have t:(n:Int)<((b.length:Nat):Int):=()
  first
   |(rw[qA t]at j;exact absurd j ⋯)
   |(simp at j;omega)
 cases k with
 |cons s p =>
  cases p
  cases s with
  |list v g=>exact{_,_,b,U,U,v,P6 b _ g,f}
def QW(l:OpenLaw)(args:List WData):l.row.toRowW.claim.post args (.bool true) args=true :=
 postW_of (r:=l.row.toRowW) (X:=(true==true))
  (show WShape.has [] (.bool true) .bool=true by first|rfl|decide|simp[WShape.has,WShape.arms,WShape.armsAll])
  (show(WTm.eq .res (.lit (.bool true))).value [] { args:=args,res:=some (.bool true),after:=args }=some (.bool (true==true)) from w_eq_bool (w_res rfl) w_lit) rfl
def jE{l:OpenLaw}{n:Nat}{q:Program}{c:List Str}{B:(Str->Option Value)->Heap->Prop}{A:World->Heap->Prop}{d:DefRec}(hn:l.most=some n)(p:d.params.defaults=[])(call:∀(w:World) (s₀ b:Shared) (mg t:Str->Option Value) (fa:Addr) (o:Obj) (x m g:Value) (a:Addr) (vs:List Value) (k:List Int),
   Ground q c [] B w s₀ mg t b.heap->A w b.heap →
   b.heap.get? fa=some o->o.data=.func (docDef d.name d.params d.body d.scope x m g)->b.heap.CodeRec m d.name->mg d.name=some (.ref fa) →
   b.heap.get? a=some { cls:=.type "list",data:=.seq vs.toArray }->IntsAre vs k->k.length≤n->b.gens=#[] →
   codeAny (model l.prog w) callerA (.call (.ref fa) {[.ref a],[]}) (λr s'=>r=.ok (.ret (.bool true))/\OldK b.heap s'.heap/\s'.os=b.os/\AllBare s'.gens) b) :
  WalkO q c B A l.row.toRowW d [] (λf vs=>PySem.call f vs):=by
 intro w s₀ b mg t G Y fa o x m g K kV J hd s y v I D z O j C L u F;obtain rfl:K=.none:=Dflts.none y p;obtain rfl:kV=.none:=Dflts.noKw y;obtain⟨a,vs,k,rfl,rfl,h,e,i⟩:=QH hn j u;refine enter_call (codeAny_mono (call w s₀ b mg t fa o x m g a vs k G Y J (fd_plain hd) s v h e i I) λr s' E=>?_);obtain⟨rfl,h2,N,H⟩:=E;exact{.inl {.bool true,.bool true,[],U,λ_=>rfl,.bool true,QW l _,λ_=>{List.Pairwise.nil,λ_ M=>(nomatch M)}},h2,N,H}
end Att
namespace L2
open PySem PySem.Spec PyProof.Rows
theorem Ir:∀{vs:List Value} {a:List Int},IntsAre vs a->aA (a.map V.int) vs
 |_,_,.nil=>.nil
 |_,_,.cons n t h=>.cons {t,U} (Ir h)
def cV(s:Stmt):Arguments:=match s with
 |.FunctionDef _ a _ _ _ _ _ _ _ _=>a
 |_=>{ posonlyargs:=[],args:=[],vararg:=none,kwonlyargs:=[],kw_defaults:=[],kwarg:=none,defaults:=[] }
def bW(s:Stmt):List Stmt:=match s with
 |.FunctionDef _ _ b _ _ _ _ _ _ _=>b
 |_=>[]
def aa(s:Stmt):Scope:=match s with
 |.FunctionDef _ _ _ _ _ _ sc _ _ _=>sc
 |_=>{ kind:=.function,names:=[],isGenerator:=false,isCoroutine:=false }
abbrev ia:qY:=λ_ _ _ _ _ _=>False
abbrev E0:XK:=λ_ _ _=>False
def jK:eZ ia X E0:=λ_ _ _ _ _ _ _ h=>h.elim
structure t8(K:PySem.W.Frag)(x qual:Str)(st:Stmt)(f:Addr)(fd:FuncData):Prop where
 ex:∃(oc:Value) (od:Option Addr) (kV doc pm:Value) (an:Option Addr) (cdv ct:Value) (osl:Array (Option Value)),
  fd=PySem.W.fnOf x qual (cV st) (bW st) (aa st) .none kV doc pm an cdv ct/\K.lookup f=some {oc,od,.func fd,osl}/\PySem.W.codeIn K cdv qual=true
 kp:PySem.W.keepIn K (.ref f)=true
section
variable {P:Program}{w:World}{K:PySem.W.Frag}{mg:Str->Option Value}{base:Heap}
def t8.ok{x a:Str}{st:Stmt}{f:Addr}{fd:FuncData}{N ps:List Str}{k:Nat}{sp:Sp}(F:t8 K x a st f fd)(S:af N ps (aa st))(len:∀vs H Q E,sp vs H Q E->vs.length=ps.length)(c:∀(b:Value) (A:Around) (outer:List Env) (s:Shared) (H:Hp) (vs:List V) (Q:VK) (E:XK),aZ k (A.deeper (envOfC a (aa st) ↑s f b))->sp vs H Q E →
   ∃t,kr (jF ia P w K mg base N a (aa st) f b A outer s H E).E_ (bW st) t/\t { nx:=λ_ H'=>Q .aT H',rt:=Q } (start N vs) H):cE P w K mg base ia (k+1) f fd ps sp:=by
 obtain⟨p,od,kV,j,o,n,b,m,l,rfl,i,e⟩:=F.ex;refine Kl i e S len λA outer s H vs Q E g d=>?_;obtain⟨t,h,q⟩:=c b A outer s H vs Q E g d;exact{t,h.E_,q}
def t8.binds{x a:Str}{st:Stmt}{f:Addr}{fd:FuncData}{ps:List Str}(F:t8 K x a st f fd)(h:∀{kV b g:Value}{e:Option Addr}{c d:Value}(us:List Value),us.length=ps.length->bindArgs (PySem.W.fnOf x a (cV st) (bW st) (aa st) .none kV b g e c d) {us,[]}=pure (ps.zip us)):Binds K fd ps []:=by
 obtain⟨l,od,kV,b,g,e,c,d,j,rfl,k,i⟩:=F.ex;exact .all h
def Ez{x a:Str}{st:Stmt}{f:Addr}{j:Value}{od h:Option Addr}{e:Array (Option Value)}{kV d i b g:Value}(l:K.lookup f=some {j,od,.func (PySem.W.fnOf x a (cV st) (bW st) (aa st) .none kV d i h b g),e})(c:PySem.W.codeIn K b a=true)(k:PySem.W.keepIn K (.ref f)=true):t8 K x a st f (PySem.W.fnOf x a (cV st) (bW st) (aa st) .none kV d i h b g):={{j,od,kV,d,i,h,b,g,e,U,l,c},k}
end
def p7{k:Nat}(a:aZ k A):A.units+1<cLine:=wb (Nat.add_le_add_left (by decide:1≤64) _) a.units
def aV(h:n≤1000):n<sizeLine:=wb h ⋯
section
variable {X:Cx}
def pv(i:Nat)(b:X.N[i]?=some x:=by rfl)(c:Mi X.env.scope x:=by first|exact Or.inl rfl|exact Or.inr (Or.inl rfl)|exact Or.inr (Or.inr rfl))(hd:(x==("__debug__":Str))=false:=by decide)(a:(x==("__classdict__":Str))=false:=by decide):PE X (.Name x pos) (pI i):=Dv b c hd a
end
def aM{A B:Prop}(h:B):if false=true then A else B:=by
 rw[qt qp];exact h
def aL{A B:Prop}(h:A):if true=true then A else B:=by
 rw[q0 rfl];exact h
def bC{c A B:Prop}[Decidable c](h1:c->A)(h2:¬c->B):if c then A else B:=by
 by_cases h:c
 ·rw[q0 h]
  exact h1 h
 ·rw[qt h]
  exact h2 h
def ab(H H':Hp):Prop:=∀b o,H b=some o->H' b=some o
def ab.refl(H:Hp):ab H H:=λ_ _ h=>h
def ab.trans(a:ab H H1)(b:ab H1 H2):ab H H2:=λc o h=>b c o (a c o h)
def ab.free(e:ab H H')(h:H' l=Option.none):H l=Option.none:=by
 cases q:H l with
 |none=>rfl
 |some o =>
  rw[e l o q]at h;cases h
def ab.seq(e:ab H H')(h:aw H a xs):aw H' a xs:=by
 rcases h with h|⟨o,h⟩
 ·exact .inl (e _ _ h)
 ·exact .inr ⟨o,e _ _ h⟩
section
variable {κ:Type}[DecidableEq κ]
theorem B1:∀{l:List κ} {k:κ},l.Nodup->¬k∈l->(l++[k]).Nodup
 |[],k,_,_=>by simp
 |a::r,k,h,hk=>by
  obtain⟨h1,h2⟩:=zk.mp h;show(a::(r++[k])).Nodup;refine zk.mpr {λm=>?_,B1 h2 λm=>hk (qv.mpr (Or.inr m))};rcases qy.mp m with q|q
  ·exact h1 q
  ·exact hk (qv.mpr (Or.inl (zb.mp q).symm))
end
section
variable {prog:Program}{w:World}{A:Around}{R:Result->Shared->Prop}{s:Shared}
def QQ{t:Scope}{ce:Env}(J:Nat->Shared->Prop)(g:∀n s,J n s->wpAny (model prog w) A (pyNext it) (λr i=>match r with
   |none=>R (.ok .next) i
   |some v=>wpAny (model prog w) A (letOwnedTupleGo tg it v) (λ_ o=>wpAny (model prog w) A (assign tg ce v) (λ_ l =>
     wpAny (model prog w) A (forIn e true λc r=>if r=true then do let ok ←isTrue c ce (eval c ce);pure (ForInStep.yield ok) else pure (ForInStep.yield r)) (λok j =>
      if ok=true then
       wpAny (model prog w) A (eval d ce) (λx p=>wpAny (model prog w) A (call (.builtin "list.append") [b,x]) (λ_ k=>∃m,m<n/\J m k) (λ_ _=>False) p) (λ_ _=>False) j
      else ∃m,m<n/\J m j) (λ_ _=>False) l) (λ_ _=>False) o) (λ_ _=>False) i) (λ_ _=>False) s)(n:Nat)(h:J n s):codeAny (model prog w) A (.compLoop (.ListComp d [{tg,a,e,0}] t pos) 0 it b ce) R s:=by
 refine codeAny_loop rfl J (λn s u=>?_) n h;show wpAny _ A ((compTurn (.ListComp d [{tg,a,e,0}] t pos) 0 it b ce).onRaise (λx=>do noteFrame x ce;theTreesLotGoes x)) _ _ s;refine wpAny_noted ?_;rw[compTurn_list];refine qq (wpAny_standAt (qq (qH (g n s u) (λr i h1=>?_) λ_ _ f=>f.elim)))
 cases r with
 |none=>exact qs h1
 |some v =>
  refine qq (qH h1 (λ_ o h2=>?_) λ_ _ f=>f.elim);refine qq (qH h2 (λ_ l z=>?_) λ_ _ f=>f.elim);refine qq (qH z (λok j q=>?_) λ_ _ f=>f.elim)
  cases ok with
  |false=>exact qs {U,q}
  |true =>
   refine qq (qq (qH q (λx p y=>?_) λ_ _ f=>f.elim));exact qq (qH y (λ_ k B=>qs (qs {U,B})) λ_ _ f=>f.elim)
end
def aU(X:Cx)(N:List Str)(b:Scope)(cl:List (Str×Addr))(s:Shared)(H:Hp)(a:List Addr):Cx where
 prog:=X.prog
 w:=X.w
 K:=X.K
 mg:=X.mg
 base:=X.base
 A:=X.A
 N:=N
 s₀:=s
 H₀:=H
 env:=compEnvC b cl (↑s+1) X.env
 outer:=X.stack
 stack:=X.stack
 ex:=a
 fn:=λ_=>false
 calm:=X.calm
 pn:=[]
 xe:=λ_ _=>False
def bc(own:List Str)(fr:List (Str×Nat))(σ:St):St:=own.map (λ_=>none)++fr.map λp=>(σ[p.2]?).join
def iO(σ σ':St):Prop:=σ.length=σ'.length/\∀(i:Nat) v,σ[i]?=some (some v)->σ'[i]?=some (some v)
def kq(g:TG)(σ:St):Prop:=∀x H (Q:St->Hp->Prop),g x σ H Q->g x σ H λσ' H'=>iO σ σ'/\Q σ' H'
theorem iO.set(h:σ[i]?=some none)(v:V):iO σ (σ.set i (some v)):=by
 refine{by simp,λj u e=>?_}
 by_cases a:i=j
 ·subst a;rw[h]at e;cases e
 ·rw[vj a];exact e
def kX(h:σ[i]?=some none):kq (cB i) σ:=λx H Q q=>{iO.set h x,q}
def ow(hi:σ[i]?=some none)(o:σ[j]?=some none)(b:i≠j):kq (AU n (pj (cB i) (pj (cB j) Kf))) σ:=by
 intro x H Q q;obtain⟨a,xs,d,l,m,v,r,c,w,h,g,f,q⟩:=q;refine{a,xs,d,l,m,v,r,c,w,h,g,f,?_,q};have h1:=iO.set hi v;have h2:=iO.set (σ:=σ.set i (some v)) (i:=j) (by rw[vj b];exact o) w;exact{h1.1.trans h2.1,λk u e=>h2.2 k u (h1.2 k u e)}
def Lk(X:Cx)(a:List Expr)(t:TT):Prop :=
 ∀(pins:List (Addr×Obj)) (s:Shared) (σ:St) (H:Hp) (Q:Bool->Hp->Prop),Inv X pins σ H s->t σ H Q →
  wpAny (model X.prog X.w) X.A (forIn a true λc r=>if r=true then do let ok ←isTrue c X.env (eval c X.env);pure (ForInStep.yield ok) else pure (ForInStep.yield r)) (TP X pins σ Q) X.xe s
structure tx(X:Cx)(ifs:List Expr)(t:TT):Prop where run:Lk X ifs t
instance Rl{X:Cx}{a:List Expr}{t:TT}:CoeFun (tx X a t) λ_=>Lk X a t:={tx.run}
def b_:tx X [] (λ_ H Q=>Q true H):={λ_ _ _ H _ I h=>wpAny_tests_nil {H,I,h}}
def H_{t:TT}(h:PT X c t):tx X [c] t:={λpins s σ H Q I q=>wpAny_tests_one (h pins s σ H Q I q)}
def l6(own:List Str)(fr:List (Str×Nat))(g:TG)(e:TT)(te:TE)(σ:St)(Q:VK)(J:It)(H1:Hp):Prop:=∃W:Nat->Nat->List V->Hp->Prop,(∃m,W 0 m [] H1)/\∀i m ys H,W i m ys H →
 (J.stop i H/\∀p,H p=none->Q (.ref p) (upd H p (.lst ys)))\/(J.go i H/\ys.length<sizeLine/\∀x H',J.vl i H x H'->g x (bc own fr σ) H' λc H2=>e c H2 λb d =>
  if b=true then te c d λy f=>∃a,a<m/\W (i+1) a (ys++[y]) f else ∃a,a<m/\W (i+1) a ys d)
def Ml(own:List Str)(fr:List (Str×Nat))(a:TI)(g:TG)(b:TT)(te:TE):TE:=λσ H Q=>a σ H λJ H1=>l6 own fr g b te σ Q J H1
abbrev bB(us:List Value):Obj:={ cls:=.type "list",data:=.seq us.toArray us.length }
def O0(us:List Value)(u:Value):({ cls:=.type "list",data:=.seq (us.toArray.push u) (us.length+1) }:Obj)=bB (us++[u]):=by
 unfold bB;rw[qm,zi,List.push_toArray]
structure jO(X:Cx)(sc:Scope)(cl:List (Str×Addr))(fr:List (Str×Nat)):Prop where
 sY:closureFor sc X.env=pure cl
 sub:∀x c,cl.lookup x=some c->X.env.cells.lookup x=some c
 has:∀x,((relabel sc X.env).names.lookup x=some .cell\/(relabel sc X.env).names.lookup x=some .free)->∃c,cl.lookup x=some c
 Ms:∀p∈fr,X.N[p.2]?=some p.1/\X.env.kindOf p.1≠some .local/\Mi X.env.scope p.1/\((relabel sc X.env).names.lookup p.1=some .cell\/(relabel sc X.env).names.lookup p.1=some .free)
structure fO(sc:Scope):Prop where
 kind:sc.kind=.function
 cell:∀y∈sc.names,y.2≠.cell
 Rp:∀y∈sc.names,y.2=.local->sc.names.lookup y.1=some .local
section
variable {X:Cx}
def Inv.kY{pins:List (Addr×Obj)}{σ:St}{H:Hp}{s:Shared}(I:Inv X pins σ H s){b:Addr}(h1:b≠X.env.locals)(h2:b∉X.fs):b∉ib X.stack:=λz=>by
 rcases qv.mp (I.gJ b z) with e|e
 ·exact h1 e
 ·exact h2 e
def PX{own:List Str}{fr:List (Str×Nat)}{σ:St}{N:List Str}(c:N=own++fr.map (·.1)){i:Nat}{x:Str}{v:V}(h1:N[i]?=some x)(h2:(bc own fr σ)[i]?=some (some v)) :
  ∃p∈fr,p.1=x/\σ[p.2]?=some (some v):=by
 unfold bc at h2;subst c
 by_cases hi:i<own.length
 ·rw[List.getElem?_append_left (by simpa using hi),List.getElem?_map]at h2
  rw[qc hi]at h2;cases h2
 ·rw[List.getElem?_append_right (by simpa using hi),List.length_map,List.getElem?_map]at h2
  rw[List.getElem?_append_right (by simpa using hi),List.getElem?_map]at h1
  cases e:fr[i - own.length]? with
  |none=>rw[e]at h1;cases h1
  |some p =>
   rw[e]at h1 h2;refine{p,qk e,qE h1,?_};have a:(σ[p.2]?).join=some v:=qE h2
   cases b:σ[p.2]? with
   |none=>rw[b]at a;cases a
   |some o=>rw[b]at a;rw[show o=some v from a]
def Inv.block{pins:List (Addr×Obj)}{σ:St}{H:Hp}{s:Shared}{own:List Str}{fr:List (Str×Nat)}{E:Scope}{cl:List (Str×Addr)}{j:List Addr}{h1:Heap}{m:Str->Option Value}{tk:Nat}(I:Inv X pins σ H s)(hf:∀b∈j,f6 X pins H b)(B:∀b∈j,b<↑s)(S:fO E)(C:jO X E cl fr)(d:∀b o,s.heap.get? b=some o->h1.get? b=some o)(hn:h1.Ns (↑s+1) m)(L:h1.get? ↑s=some (bB [])) :
  Inv (aU X (own++fr.map (·.1)) E cl s H j) [(↑s,bB [])] (bc own fr σ) H { s with heap:=h1,toks:=tk }:=by
 have h:∀x c,cl.lookup x=some c->c<↑s:=λx c e=>by
  obtain⟨v,z⟩:=I.cell x c (C.sub x c e);exact z.lt
 have a:↑s≤↑s+1:=ye _
 refine{{I.ok.mod,S.kind,I.ok.glob,I.ok.blt,a,λx y c w D=>I.ok.inj x y c (C.sub x c w) (C.sub y c D),λx K=>C.has x K,λ_ _ z=>(by cases z),I.ok.hd,I.ok.frames,.inl rfl,λb f=>{?_,λx c e z=>?_},
  I.bs,qg I.ok.ro I.sz,λb o e f=>?_,λb f z=>?_,I.stack,I.lx},U,I.bare,Un.kept d,{m,hn,λi x v w D T=>?_},λx c e=>?_,I.a6.fresh a,λx c e=>I.dR x c (C.sub x c e),λp q=>?_,I.a6.kept d,?_}
 ·exact qd (zr (B b f))
 ·exact(hf b f).2.2.2.2.1 x c (C.sub x c e) z
 ·rcases(hf b f).2.2.2.1 with z|z
  ·exact I.ok.nM b o e z
  ·exact absurd (zc (qB e) (qg I.ok.ro z)) (zt _)
 ·exact I.kY (hf b f).2.1 (hf b f).2.2.1 z
 ·obtain⟨p,q,rfl,M⟩:=PX rfl w D
  obtain⟨c1,c2,P,G⟩:=C.Ms p q;obtain⟨R,N,O⟩:=I.loc;obtain⟨u,r,l⟩:=O p.2 p.1 v c1 M P;refine{u,r,.inr {G,?_}};rcases l with⟨k,_⟩|⟨_,c,J,t,F,n⟩
  ·exact absurd k c2
  ·obtain⟨Q,g⟩:=C.has p.1 G
   have:=C.sub p.1 Q g;rw[J]at this;cases this;exact{c,g,t,d _ _ F,n}
 ·obtain⟨v,o,t,hd⟩:=I.cell x c (C.sub x c e)
  exact{v,o,d _ _ t,hd}
 ·have A:p=(↑s,bB []):=by simpa[aU] using q
  subst A;refine{L,I.a6.fresh (qb _),?_,?_,λv z=>by cases z}
  ·exact qd (z7 _)
  ·exact I.kY (zg I.lt) (I.rA (qb _))
 ·show(bc own fr σ).length=(own++fr.map (·.1)).length
  unfold bc;rw[qm,qm,qa,qa,qa]
def dm.kl(x:dm P w H h)(hn:H a=none)(new:aQ P w (upd H a o) h a o):dm P w (upd H a o) h:=λb u e=>by
 by_cases d:b=a
 ·subst d;rw[aG]at e;cases e;exact new
 ·rw[aD d]at e
  exact(x b u e).cR (λc v _ q=>q) (λc q=>by rw[aD (cg q hn)];exact q) λc xs q=>by rw[aD (cg q hn)];exact q
def Inv.lF{pins:List (Addr×Obj)}{σ:St}{H k:Hp}{s f:Shared}{N:List Str}{t:St}{D:Scope}{cl:List (Str×Addr)}{r:List Addr}{h':Heap}{ys:List V}{us:List Value}(I:Inv X pins σ H s)(hf:∀b∈r,f6 X pins H b)(l:Inv (aU X N D cl s H r) [(↑s,bB us)] t k f)(C:aA ys us)(hz:ys.length≤sizeLine)(hs:Heap.SameBut (↑s+1) f.heap h'):Inv X pins σ (upd k ↑s (.lst ys)) { f with heap:=h' }:=by
 obtain⟨x,h,Au,_,_⟩:=l.pin (↑s,bB us) (List.mem_append_right _ (by simp));have x:f.heap.get? ↑s=some (bB us):=x;have h:k ↑s=none:=h;have d:Un (ib X.stack) r H k s.heap f.heap:=l.base;have y:k (↑s+1)=none:=l.free;have a:∀b o,s.heap.get? b=some o->b≠↑s+1:=λb o e=>qd (zr (qB e));have m:∀b o,s.heap.get? b=some o->b≠↑s:=λb o e=>qd (qB e);have i:∀b o,b≠↑s+1->f.heap.get? b=some o->h'.get? b=some o:=λb o j e=>hs.extBut b o j e
 refine I.lR (s':={ f with heap:=h' }) (ch:=r) l.os {λb o e n h1 h2=>i b o (a b o e) (d.keep b o e n h1 h2),λb o e n h1 h2=>?_,λb o e n h2=>?_,λb o e h2=>?_,
  λb xs e=>?_,λb o u e=>?_,λb ps e=>?_,λb o xs e n=>i b o (a b o e) (d.dI b o xs e n)} ?_ l.bare λb j=>{(hf b j).2.2.2.1,(hf b j).2.1,(hf b j).2.2.2.2.1,(hf b j).2.2.2.2.2}
 ·obtain⟨B,q⟩:=d.slot b o e n h1 h2
  exact{B,i b _ (a b o e) q}
 ·rw[aD (m b o e)];exact d.free b o e n h2
 ·obtain⟨o',q⟩:=d.there b o e h2
  exact{o',i b _ (a b o e) q}
 ·have q:=d.bK b xs e
  rw[aD (cg q h)];exact q
 ·have q:=d.dX b o u e
  rw[aD (cg q h)];exact q
 ·obtain⟨p,q⟩:=d.dY b ps e
  exact{p,by rw[aD (cg q h)];exact q}
 ·have A:dm X.prog X.w k h':=λb u e=>(l.a6 b u e).cR (λc v g q=>i c v (λz=>by
   subst z;rcases g with g|g
   ·subst g;rw[y]at e;cases e
   ·rw[y]at g;cases g) q) (λ_ q=>q) λ_ _ q=>q
  refine A.kl h {hz,us,us.length,C,i _ _ (qd (z7 _)) x}
def F'{Y tg M:Expr}{R:List Expr}{k:Scope}{pos:Pos}{own:List Str}{fr:List (Str×Nat)}{cl:List (Str×Addr)}{g:TG}{tt:TT}{te:TE}{RR:Value->Addr->Result->Shared->Prop}{E:Value->Shared->Prop}{pins:List (Addr×Obj)}{σ:St}{H2:Hp}{a:Shared}{Q:VK}{it:Addr}{d:List Addr}{tn:Nat->Heap->Prop}{J:It}(hc:X.calm=true)(S:fO k)(C:jO X k cl fr)(hg:∀s H d,PG (aU X (own++fr.map (·.1)) k cl s H d) tg g)(hfr:∀σ,kq g (bc own fr σ))(ht:∀s H d,tx (aU X (own++fr.map (·.1)) k cl s H d) R tt)(he:∀s H d,PE (aU X (own++fr.map (·.1)) k cl s H d) Y te)(I2:Inv X pins σ H2 a)(T:Turn X.prog X.w X.K tg J d it tn)(U:tn 0 a.heap)(f2:∀b∈d,f6 X pins H2 b)(hW:l6 own fr g tt te σ Q J H2)(hRR:∀s5 L ys us,Inv (aU X (own++fr.map (·.1)) k cl a H2 d) [(↑a,bB us)] (bc own fr σ) L s5->aA ys us->ys.length≤sizeLine->(∀p,L p=none->Q (.ref p) (upd L p (.lst ys))) →
   RR (.ref ↑a) (↑a+1) (.ok .next) s5) :
  wpAny (model X.prog X.w) X.A (newList []) (λacc s3=>wpAny (model X.prog X.w) X.A (newFunctionEnv k X.env.globals cl [] X.env.qual none .none (some X.env)) (λce s4 =>
   codeAny (model X.prog X.w) X.A (.compStart (.ListComp Y [{tg,M,R,0}] k pos) 0 (.ref it) acc { ce with scope:=relabel k X.env }) (RR acc ce.locals) s4) E s3) E a:=by
 obtain⟨W,⟨m0,w0⟩,turn⟩:=hW
 have I:∀b∈d,b<↑a:=λb j=>by
  obtain⟨o,e,_⟩:=T.obj _ _ U b j;exact qB e
 refine wpAny_newObj_type (wpAny_newFunctionEnv S.cell (by intro y hy;simp at hy) (λl h f=>?_) S.kind);dsimp only at h f ⊢;generalize V:a.heap.push { cls:=.type "list",dict:=none,data:=.seq ([]:List Value).toArray }=G at h f ⊢
 have hC:G.objs.size=↑a+1:=by rw[←V,Heap.size_push]
 rw[hC]at h f ⊢
 have P:∀b o,a.heap.get? b=some o->l.get? b=some o:=λb o e=>by
  exact f.extBut b o (qd (zr (qB e))) (qC _ (V▸qC _ e))
 have hacc:l.get? ↑a=some (bB []):=f.extBut _ _ (qd (z7 _)) (qC _ (V▸qD _ rfl));have I3:=I2.block (own:=own) (tk:=a.toks+([]:List (Str×Value)).length) f2 I S C P h hacc
 have t:∀{H':Hp} {us:List Value},(∀b∈d,H' b=none)->∀b∈d,f6 (aU X (own++fr.map (·.1)) k cl a H2 d) [(↑a,bB us)] H' b:=λ{H' us} hn b j=>by
  obtain⟨_,g1,g2,g3,g4,g5⟩:=f2 b j;have hbl:=I b j;refine{hn b j,?_,I2.kY g1 g2,.inl j,λx c e=>g4 x c (C.sub x c e),λp O=>?_}
  ·exact qd (zr hbl)
  ·have m:p=(↑a,bB us):=by simpa[aU] using O
   subst m;exact zg hbl
 have N:∀s3:Shared,s3={ a with heap:=l,toks:=a.toks+([]:List (Str×Value)).length } →
   codeAny (model X.prog X.w) X.A (.compLoop (.ListComp Y [{tg,M,R,0}] k pos) 0 (.ref it) (.ref ↑a) (compEnvC k cl (↑a+1) X.env))
    (RR (.ref ↑a) (↑a+1)) s3:=by
  rintro s3 rfl
  refine QQ (λn s'=>∃i ys us H',aA ys us/\Inv (aU X (own++fr.map (·.1)) k cl a H2 d) [(↑a,bB us)] (bc own fr σ) H' s'/\tn i s'.heap/\(∀b∈d,H' b=none)/\ys.length≤sizeLine/\W i n ys H') ?_ m0
   {0,[],[],H2,.nil,I3,T.keep _ _ _ U λb _ o e=>P b o e,λb j=>(f2 b j).1,zd _,w0}
  rintro n s4 ⟨i,ys,us,L,hv,I4,st4,fr4,hz,w4⟩;rcases turn i n ys L w4 with⟨stop,fin⟩|⟨go,hlt,step⟩
  ·refine a8 (T.done (aU X (own++fr.map (·.1)) k cl a H2 d) rfl rfl rfl hc i _ s4 _ L _ I4 (t fr4) st4 stop) λr s5 ⟨hr,I5⟩=>?_
   subst hr;exact hRR s5 L ys us I5 hv hz fin
  ·refine a8 (T.item (aU X (own++fr.map (·.1)) k cl a H2 d) rfl rfl rfl hc i _ s4 _ L _ I4 (t fr4) st4 go) λr s5 ⟨u,hr,h5⟩=>?_
   subst hr;refine a8 h5 λ_ s6 ⟨x,H6,I6,r6,y6,F,fr6⟩=>?_;have I6':=I6.pinned (t fr6) (T.obj _ _ F);refine a8 (hg a H2 d _ s6 _ H6 x u _ I6' r6 (hfr σ x H6 _ (step x H6 y6))) λ_ s7 ⟨B,H7,I7,k7,q7⟩=>?_;refine a8 (ht a H2 d _ s7 B H7 _ I7 q7) λok s8 ⟨H8,I8,q8⟩=>?_
   have D:∀{pins':List (Addr×Obj)} {σ':St} {H':Hp} {s':Shared},Inv (aU X (own++fr.map (·.1)) k cl a H2 d) ([(↑a,bB us)]++ez d s6.heap) σ' H' s'->∀b∈d,(∀o,s6.heap.get? b=some o->s'.heap.get? b=some o)/\H' b=none:=λ{pins' σ' H' s'} I' b j=>by
    obtain⟨o,e,_⟩:=T.obj _ _ F b j;have z:=I'.pin (b,o) (zx _ (zx _ (Av j e)));exact{λo' e'=>by rw[e]at e';cases e';exact z.1,z.2.1}
   cases ok with
   |false =>
    rw[qt qp]at q8;obtain⟨m',hm,w8⟩:=q8;rw[qt qp];exact{m',hm,i+1,ys,us,H8,hv,(I8.fi).weak k7.1 k7.2,T.keep _ _ _ F λb j o e=>(D (pins':=[]) I8 b j).1 o e,λb j=>(D (pins':=[]) I8 b j).2,hz,w8}
   |true =>
    rw[q0 rfl]at q8;rw[q0 rfl];refine a8 (he a H2 d _ s8 B H8 _ I8 q8) λy Z ⟨v,H9,I9,r9,m',hm,w9⟩=>?_;have pD:=I9.pin (↑a,bB us) (List.mem_append_right _ (List.mem_append_left _ (by simp)));have zD:Z.heap.get? ↑a=some (bB us):=pD.1;have nD:H9 ↑a=none:=pD.2.1;refine append_at (hsz:=by show us.toArray.size≤sizeLine;rw[qx,←hv.length];exact hz) zD λh5 hs5 hD5=>?_;have Ia:Inv (aU X (own++fr.map (·.1)) k cl a H2 d) (ez d s6.heap) B H9 Z:=I9.gF λp O=>I9.pin p (zx _ (zx _ O));have Au:↑a≠↑a+1:=qd (z7 _)
    have Ib:Inv (aU X (own++fr.map (·.1)) k cl a H2 d) (ez d s6.heap) B H9 { Z with heap:=h5,toks:=Z.toks }:=Ia.turned (it:=↑a) (λb o j e=>hs5.extBut b o j e) nD Au (.inr (qb _)) (λx c e z=>by
      obtain⟨v',q⟩:=I2.cell x c (C.sub x c e);have q':=q.lt;rw[z]at q'
      exact zt _ q') λp O z=>by
      have m:p∈ez d s6.heap:=by simpa[aU] using O
      have q':=I p.1 (J8 m).1;rw[z]at q';exact zt _ q'
    have Ic:Inv (aU X (own++fr.map (·.1)) k cl a H2 d) [(↑a,bB (us++[y]))] B H9 { Z with heap:=h5,toks:=Z.toks }:=Ib.gF λp O=>by
     have m:p=(↑a,bB (us++[y])):=by simpa using O
     subst m;exact{hD5.trans (congrArg some (O0 us y)),nD,Au,pD.2.2.2.1,λv z=>by cases z}
    refine{m',hm,i+1,ys++[v],us++[y],H9,hv.append (.cons r9 .nil),Ic.weak k7.1 k7.2,T.keep _ _ _ F λb j o e=>?_,λb j=>(D (pins':=[]) I9 b j).2,?_,w9}
    ·exact hs5.extBut b o (qd (I b j)) ((D (pins':=[]) I9 b j).1 o e)
    ·rw[qm];exact hlt
 exact codeAny_compStart_list (N _ rfl) (T.self _ 0 _ _ _ (T.keep _ _ _ U λb _ o e=>P b o e) (N _ rfl))
def l4{fr:List (Str×Nat)}{cl:List (Str×Addr)}{t:TI}{g:TG}(v:X.calm=true)(hi:PI X tg a t)(S:fO c)(C:jO X c cl fr)(B:∀s H b,PG (aU X (own++fr.map (·.1)) c cl s H b) tg g)(l:∀σ,kq g (bc own fr σ))(z:∀s H b,tx (aU X (own++fr.map (·.1)) c cl s H b) f q)(F:∀s H b,PE (aU X (own++fr.map (·.1)) c cl s H b) d te)(hs:∀x,foldedSetIterable a X.env x=pure x:=by intro _;rfl) :
  PE X (.ListComp d [{tg,a,f,0}] c pos) (Ml own fr t g q te):=by
 refine{?_};intro pins s σ H Q I h;rw[eval_ListComp];refine wpAny_comprehension_free (use:=none) rfl hs C.sY S.kind S.Rp (a8 (hi pins s σ H _ I h) λN O h1=>a8 h1 λy i h2=>?_);obtain⟨it,b,L,J,H2,e,r,T,m,f2,K⟩:=h2;subst e;refine F' (RR:=λj A=>compPost (model X.prog X.w) X.A X.xe none (EP X pins σ Q) j A) v S C B l z F r T m f2 K λM u ys us p G hz n=>?_;obtain⟨E,o,_⟩:=id p.loc;have D:u ↑i=none:=(p.pin (↑i,bB us) (List.mem_append_right _ (by simp))).2.1;exact{E,o,λh' k=>{.ref ↑i,upd u ↑i (.lst ys),r.lF f2 p G hz k,U,n _ D}}
def l'{fr:List (Str×Nat)}{cl:List (Str×Addr)}{g:TG}(hN:X.N.Nodup)(hy:X.N[i]?=some y)(hx:Loc X.env.scope y)(hc:X.calm=true)(hi:PI X tg d wi)(S:fO m)(C:jO X m cl fr)(hg:∀s H t,PG (aU X (own++fr.map (·.1)) m cl s H t) tg g)(L:∀σ,kq g (bc own fr σ))(ht:∀s H t,tx (aU X (own++fr.map (·.1)) m cl s H t) n Z)(he:∀s H t,PE (aU X (own++fr.map (·.1)) m cl s H t) l te)(hs:∀x,foldedSetIterable d X.env x=pure x:=by intro _;rfl)(M:swapsWith (.ListComp l [{tg,d,n,0}] m pos) (some (.Name y B)) r.line X.env=pure true:=by rfl)(hf:X.fn y=true\/X.env.scope.names.lookup y=some .local:=by first|exact .inl rfl|exact .inr rfl|assumption) :
  PS X (.Assign [.Name y B] (.ListComp l [{tg,d,n,0}] m pos) r) (m9 (Ml own fr wi g Z te) (cB i)):=by
 refine{?_};intro pins s σ H D I h;rw[exec_Assign_Name_used _ _ _ _ M];refine qq (wpAny_standAt (qq ?_));show wpAny _ X.A (do let _ ←comprehension (.ListComp l [⟨tg,d,n,0⟩] m pos) m X.env _ (newList []) false (eval d X.env) (some (assign (.Name y B) X.env))) _ _ s
 refine qq (a8 (wpAny_comprehension_free (use:=some (assign (.Name y B) X.env)) (Q:=λ_ s'=>SP X pins D .next s') rfl hs C.sY S.kind S.Rp
  (a8 (hi pins s σ H _ I h) λxv s1 h1=>a8 h1 λitv j h2=>?_)) λ_ s' hq=>qs (qs hq))
 obtain⟨it,t,tn,J,H2,e,u,T,P,f2,hW⟩:=h2;subst e;refine F' (RR:=λG A=>compPost (model X.prog X.w) X.A X.xe (some (assign (.Name y B) X.env)) (λ_ s'=>SP X pins D .next s') G A) hc S C hg L ht he u T P f2 hW λs5 W ys us F hv hz U=>?_;obtain⟨m5,Y,_⟩:=id F.loc;have nD:W ↑j=none:=(F.pin (↑j,bB us) (List.mem_append_right _ (by simp))).2.1;have nC:W (↑j+1)=none:=F.free;have I6:Inv X pins σ (upd W ↑j (.lst ys)) s5:=u.lF f2 F hv hz (Heap.SameBut.refl _ _);show wpAny _ X.A (assign (.Name y B) X.env (.ref ↑j)) _ _ s5;refine wpAny_assign_Name (FR (v:=.ref ↑j) I6 hN hy hx rfl (λs7 I7 ⟨a,R,O⟩=>?_) hf);have k:↑j<↑j+1:=z7 _;have E:↑j+1≠X.env.locals:=zg (yh u.lt k)
 have f:∀x c,X.env.cells.lookup x=some c->c≠↑j+1:=λx c e=>by
  obtain⟨v',q⟩:=u.cell x c e;exact qd (yh q.lt k)
 have V:↑j+1≠a:=by
  rcases O with rfl|O
  ·exact E
  ·exact Ne.symm (f _ _ O)
 refine⟨m5,Y.sameBut R V,λh' K=>⟨_,_,?_,U _ nD⟩⟩
 exact I7.turned (it:=↑j+1) (t':=s7.toks) (λb o hb e=>K.extBut b o hb e) (by rw[aD (zg k)];exact nC) E (.inr (qg u.sz (qj k))) f λp hp z=>by
  have q:=qB (u.pin p hp).1;rw[z]at q;exact absurd (yh k q) (zt _)
end
def AF(z:Str):It:={λi _=>i<z.cps.size,λi H x H'=>H'=H/\∃c,z.cps[i]?=some c/\x=.str {#[c]},λi _=>z.cps.size≤i}
def G1{h:Heap}{it:Addr}{ty:String}{z:Str}{t:Tok}{i:Nat}(st:h.IsStrIter it ty z t i):∀b∈[it],∃o,h.get? b=some o/\∀v,o.data≠.cell v:=λb a=>by
 have e:b=it:=by simpa using a
 subst e;obtain⟨o,e,c,d⟩:=st;exact{o,e,λv z=>by rw[d]at z;cases z}
def QX{P:Program}{w:World}{K:PySem.W.Frag}{tg:Expr}(z:Str)(t:Tok)(it:Addr):Turn P w K tg (AF z) [it] it (λi h=>h.IsStrIter it "str_ascii_iterator" z t i) where
 mem:=by simp
 obj:=λi h st=>G1 st
 keep:=λi h h' st k=>let⟨o,A,r⟩:=st;{o,k it (by simp) o A,r}
 item:=by
  intro X p hw q u i pins s σ H E I hf st a;subst p hw q;obtain⟨n,f1,f2,l,m,j⟩:=hf it (by simp);have a:i<z.cps.size:=a;refine wpAny_pyNext_ascii_item st (c:=z.cps[i]) (by simp[a]) λh' f v=>?_;have y:Inv X pins σ H { s with heap:=h',toks:=s.toks+1 }:=I.turned (λb o g e=>(v.2 b g).trans e) n f1 l m j;obtain⟨o,e,c,d⟩:=id f;exact{_,U,iM (s:={ s with heap:=h',toks:=s.toks+1 }) e c d ⋯ {.str {#[z.cps[i]]},H,y,{_,U},{U,_,by simp[a],U},f,λb g=>(hf b g).1}}
 done:=by
  intro X p hw q u i pins s σ H E I hf st a;subst p hw q;obtain⟨n,f1,f2,l,m,j⟩:=hf it (by simp);have a:z.cps.size≤i:=a;exact wpAny_pyNext_ascii_end (I.ok.hd u) st (by simp[a]) λh' x=>{U,I.turned (t':=s.toks) (λb o g e=>x b o g e) n f1 l m j}
 self:=λ_ _ _ _ _ st h=>wpAny_pyIter_striter_ascii st h
def O_{P:Program}{w:World}{K:PySem.W.Frag}{tg:Expr}(z:Str)(t:Tok)(it:Addr):Turn P w K tg (AF z) [it] it (λi h=>h.IsStrIter it "str_iterator" z t i) where
 mem:=by simp
 obj:=λi h st=>G1 st
 keep:=λi h h' st k=>let⟨o,A,r⟩:=st;{o,k it (by simp) o A,r}
 item:=by
  intro X p hw q u i pins s σ H E I hf st a;subst p hw q;obtain⟨n,f1,f2,l,m,j⟩:=hf it (by simp);have a:i<z.cps.size:=a;refine wpAny_pyNext_wide_item st (c:=z.cps[i]) (by simp[a]) λh' f v=>?_;have y:Inv X pins σ H { s with heap:=h',toks:=s.toks+1 }:=I.turned (λb o g e=>(v.2 b g).trans e) n f1 l m j;obtain⟨o,e,c,d⟩:=id f;exact{_,U,iM (s:={ s with heap:=h',toks:=s.toks+1 }) e c d ⋯ {.str {#[z.cps[i]]},H,y,{_,U},{U,_,by simp[a],U},f,λb g=>(hf b g).1}}
 done:=by
  intro X p hw q u i pins s σ H E I hf st a;subst p hw q;obtain⟨n,f1,f2,l,m,j⟩:=hf it (by simp);have a:z.cps.size≤i:=a;exact wpAny_pyNext_wide_end (I.ok.hd u) st (by simp[a]) λh' x=>{U,I.turned (t':=s.toks) (λb o g e=>x b o g e) n f1 l m j}
 self:=λ_ _ _ _ _ st h=>wpAny_pyIter_striter_wide st h
section
variable {X:Cx}{tg:Expr}
inductive Jk(R:It->Hp->Prop)(x:V)(H1:Hp):Prop
 |mk(z:_)(_:x=.str z)(_:R (AF z) H1)
def Ow(tl:TE):TI:=λσ H R=>tl σ H λx H1=>Jk R x H1
def BA{tl:TE}(k:PE X l tl):PI X tg l (Ow tl):=by
 refine{?_};intro pins s σ H R I h;refine a8 (k pins s σ H _ I h) λv a ⟨x,H1,d,j,g⟩=>?_;obtain⟨z,e,q⟩:=g;subst e;obtain⟨t,rfl⟩:=j
 have c:∀b∈[↑a],f6 X pins H1 b:=λb i=>by
  have e:b=↑a:=by simpa using i
  subst e;exact d.kJ (qb _) (d.a6.fresh (qb _))
 cases f:z.cps.all (·<128)
 ·exact wpAny_pyIter_wide f {↑a,[↑a],_,_,H1,U,d.kept (t':=a.toks) λb o e=>qC _ e,O_ z t _,{_,qD _ rfl,U,U},c,q}
 ·exact wpAny_pyIter_ascii f {↑a,[↑a],_,_,H1,U,d.kept (t':=a.toks) λb o e=>qC _ e,QX z t _,{_,qD _ rfl,U,U},c,q}
end
def G0{α:Type}(f:α->V)(l:List α):(l.filterMap λc=>some (f c))=l.map f:=by
 induction l with
 |nil=>rfl
 |cons c l a=>rw[yo,a];rfl
def Ja{fr:List (Str×Nat)}{g:TG}(hz:z.cps.size≤sizeLine)(F:Nat->Option V)(d:Hp->Prop)(w:d H)(hs:∀c H' (l:V->Hp->Prop) (r:Hp->Prop),c∈z.cps.toList->d H'->(∀y k,F c=some y->d k->l y k)->(F c=none->∀f,d f->r f) →
   g (.str {#[c]}) (bc own fr σ) H' λh H2=>n h H2 λb f=>if b=true then te h f l else r f)(hd:∀H' p,d H'->H' p=none->Q (.ref p) (upd H' p (.lst (z.cps.toList.filterMap F)))) :
  l6 own fr g n te σ Q (AF z) H:=by
 refine{λi m ys H=>m=z.cps.size - i/\i≤z.cps.size/\ys=(z.cps.toList.take i).filterMap F/\d H,{z.cps.size,by simp,Nat.zero_le _,by simp,w},?_};rintro i m ys H ⟨rfl,hi,rfl,p⟩
 by_cases a:i<z.cps.size
 ·have o:((z.cps.toList.take i).filterMap F).length≤i:=qg (List.length_filterMap_le _ _) (by rw[zq];exact Nat.min_le_left _ _)
  refine .inr {a,(),λx H' y=>?_};obtain⟨rfl,c,s,rfl⟩:=y
  have j:z.cps.toList[i]?=some c:=by rw[zu];exact s
  have step:(z.cps.toList.take (i+1)).filterMap F=(z.cps.toList.take i).filterMap F++(F c).toList:=by
   rw[zo,j,List.filterMap_append]
   congr 1
  refine hs c H' _ _ (qk j) p (λy k e v=>{z.cps.size - (i+1),(),U,a,?_,v}) λe f u=>{z.cps.size - (i+1),(),U,a,?_,u}
  ·rw[step,e];rfl
  ·rw[step,e];simp
 ·have e:i=z.cps.size:=()
  subst e;refine .inl {qb _,λq t=>?_};have:=hd H q p t;rw[List.take_of_length_le (by simp)];exact this
section
variable {X:Cx}
def PU(bs:List Bool):((List.range bs.length).all λi=>bs.getD i false)=bs.all id:=by
 rw[wn,zm,zm];constructor
 ·intro h b a
  obtain⟨i,hi,e⟩:=zv.mp a;have q:=h i (zy.mpr hi);rw[qu,qc hi]at q;rw[←e];exact q
 ·intro h i hi
  have hi:=zy.mp hi;rw[qu,qc hi];exact h _ (vg hi)
inductive mq(xs:List V)(H:Hp)(Q:VK):Prop
 |mk(a bs:_)(_:xs=[.ref a])(_:aw H a (List.map V.bl bs))(_:Q (.bl (bs.all id)) H)
def kE(n:X.calm=true):bj X (.builtin "all") (mq):=by
 intro pins s σ H xs us Q I r h;obtain⟨a,bs,rfl,t,q⟩:=h;obtain⟨u,rfl,j⟩:=vals1 r;cases j;obtain⟨c,m,p,hz⟩:=I.list t
 have d:c.length=bs.length:=by rw[←m.length,qa]
 have f:a<↑s:=by obtain⟨_,e,_⟩:=p.isList;exact qB e
 refine call_all_walk (wpAny_pyIter_list p.isList ?_);refine{↑s,_,_,_,_,_,λi=>bs.getD i false,U,Walks.list (show X.A.in1.handled=none from I.ok.hd n) ↑s a (qd f) c.toArray,{{_,qD _ rfl,U,U},p.isList.push _},?_,λh' tk w=>?_}
 ·intro i v s' B C g y
  have g:c.toArray[i]?=some v:=g
  have hi:c[i]?=some v:=by simpa using g
  have l:i<bs.length:=by
   have:=(qw.mp hi).1;omega
  obtain⟨u,k,j⟩:=m.get (i:=i) (x:=V.bl bs[i]) (by rw[qh,qc l];rfl);rw[hi]at k;cases k;cases j;refine wpAny_truthy_bool ?_
  have e:bs.getD i false=bs[i]:=by rw[qu,qc l];rfl
  rw[←e];exact y
 ·have e:((List.range c.toArray.size).all λi=>bs.getD i false)=bs.all id:=by rw[qx,d];exact PU bs
  rw[e]
  exact{.bl (bs.all id),H,I.kept λb o e=>w b o (by
   have:=qB e;intro z;rw[zb.mp z]at this
   exact absurd this (zt _)) (qC _ e),U,q}
inductive i_(K:PySem.W.Frag)(xs:List V)(H:Hp)(Q:VK):Prop
 |mk(x T t b:_)(_:xs=[x,.ty T])(_:fb K H x t)(_:PySem.W.kitOne K t (.type T)=some b)(_:Q (.bl b) H)
def Oa:bj X (.builtin "isinstance") (i_ X.K):=by
 intro pins s σ H xs us Q I r h;obtain⟨x,T,t,b,rfl,ty,e,q⟩:=h;obtain⟨u,v,rfl,c,a⟩:=vals2 r;cases(show v=Value.type T from a);exact Og I c ty e λtk=>{.bl b,H,I.tok tk,U,q}
inductive kN(x y:V)(H:Hp)(Q:VK):Prop
 |mk(i j:_)(_:x=.str i)(_:y=.str j)(_:Q (.bl (!decide (j.cps.toList<i.cps.toList))) H)
def rD:cw X (compareOp .LtE) kN:=by
 intro pins s σ H x y v u Q I a b h;obtain⟨i,j,rfl,rfl,q⟩:=h;obtain⟨t,rfl⟩:=a;obtain⟨t',rfl⟩:=b;exact PySem.P.le_str (bS I q rfl)
def NS:cw X (binaryOp .FloorDiv) (rI (λ_ j=>0<j/\j.natAbs.log2<9000) λi j=>.int (i / j)):=Ji λi j _ _ _ _ _ a q=>by
 have h1:(0:Int)<j:=a.1;exact floordiv_int () (by rw[Int.fdiv_eq_ediv_of_nonneg i ()];exact q) (.inl (PyProof.noPylong_of_log2 a.2))
end
section
variable {X:Cx}{pins:List (Addr×Obj)}{σ σ':St}{H H':Hp}{s s':Shared}
theorem Inv.kl{a:Addr}{o:HO}(f:Inv X pins σ H s)(I:Inv X pins σ' H' s')(k:↑s≤a)(hn:H' a=none)(new:aQ X.prog X.w (upd H' a o) s'.heap a o):Inv X pins σ' (upd H' a o) s':=by
 have ne:∀b,b<↑s->b≠a:=λb j z=>()
 refine{I.ok,I.os,I.bare,{I.base.keep,I.base.slot,λb u e n h=>?_,I.base.there,λb xs e=>?_,λb u xs e=>?_,λb ps e=>?_,I.base.dI},I.loc,I.cell,?_,λx c e=>?_,λp g=>?_,I.a6.kl hn new,I.len}
 ·rw[aD (ne b (zc (qB e) f.sz))]
  exact I.base.free b u e n h
 ·have q:=I.base.bK b xs e
  rw[aD (cg q hn)];exact q
 ·have q:=I.base.dX b u xs e
  rw[aD (cg q hn)];exact q
 ·obtain⟨d,q⟩:=I.base.dY b ps e
  exact{d,by rw[aD (cg q hn)];exact q}
 ·rw[aD (ne _ f.lt)];exact I.free
 ·obtain⟨v,q⟩:=f.cell x c e
  rw[aD (ne _ q.lt)];exact I.dR x c e
 ·obtain⟨h1,h2,i⟩:=I.pin p g
  refine{h1,?_,i};rw[aD (ne _ (qB (f.pin p g).1))];exact h2
def Inv.gH{t':Nat}{h':Heap}{ch:List Addr}(I:Inv X pins σ H s)(hf:∀b∈ch,f6 X pins H b)(k:∀b o,b∉ch->s.heap.get? b=some o->h'.get? b=some o):Inv X pins σ H { s with heap:=h',toks:=t' }:=by
 have d:∀b u,H b=some u->b∉ch:=λb u e z=>by rw[(hf b z).1]at e;cases e
 refine I.step (g':=s.gens) (d':=s.drawn) (ch:=ch) (λb f=>{(hf b f).2.2.2.1,(hf b f).2.1,(hf b f).2.2.2.2.1,(hf b f).2.2.2.2.2}) (λb o _ _ a e _=>k b o a e) (λb o _ _ a e _=>{o.slots,k b o a e}) (λ_ _ _ _ n=>n)
  (λb o a e=>{o,k b o a e}) (λ_ _ e=>e) (λ_ _ _ e=>e) (λb ps e=>{#[],by rw[e];simp}) (λb o xs e n=>k b o (d b _ n) e) (λm g=>?_) (λb u e=>?_) I.bare
 ·obtain⟨o,es,ep,h,r⟩:=g
  exact{o,es,ep,k _ o (λz=>(hf _ z).2.1 rfl) h,r}
 ·refine(I.a6 b u e).cR (λc v a q=>k c v ?_ q) (λ_ q=>q) λ_ _ q=>q
  rcases a with z|z
  ·rw[z];exact d b u e
  ·exact d c _ z
end
def E9(a:Addr):It :=
 {λi H=>∃xs x,aw H a xs/\xs[i]?=some x,λi H x H'=>∃p v,H p=none/\(∀xs,aw H a xs->xs[i]?=some v)/\x=.ref p/\H'=upd H p (.tup [.int i,v]),λi H=>∃xs,aw H a xs/\xs.length=i}
def Pb{P:Program}{w:World}{K:PySem.W.Frag}{es:List Expr}{k:Nat}{tp:Pos}(a it e:Addr)(N:a≠e)(D:a≠it)(n:e≠it) :
  Turn P w K (.Tuple es k tp) (E9 a) [e,it] e (λi h=>(∃g,IsEnum h e it i g)/\h.IsListIter it a i) where
 mem:=by simp
 obj:=λi h st b j=>by
  rcases qv.mp j with rfl|j
  ·obtain⟨⟨g,q⟩,_⟩:=st
   exact{_,q,λv z=>by cases z}
  ·have q:b=it:=by simpa using j
   subst q;obtain⟨_,o,q,c,d⟩:=st;exact{o,q,λv z=>by rw[d]at z;cases z}
 keep:=λi h h' st kk=>{let⟨g,q⟩:=st.1;{g,kk e (by simp) _ q},st.2.at λo q=>kk it (by simp) o q}
 item:=by
  intro X V hw R J i pins s σ H E I hf st M;subst V hw R;obtain⟨xs,x,F,G⟩:=M;obtain⟨f,T,p,hz⟩:=I.list F;obtain⟨u,Z,ru⟩:=T.get G;obtain⟨⟨g,y⟩,l⟩:=st
  have L:i<f.toArray.size:=by
   have:=(qw.mp Z).1;simpa using this
  refine wpAny_pyNext_enum_itemD (Draws.list (show X.A.in1.handled=none from I.ok.hd J) it a D f.toArray) y {l,p.isList} L n (by simp[n,Ne.symm N]) λC h' tk Q ho O hT hsz hk=>?_
  have ex:C=u:=by
   have q:f.toArray[i]?=some C:=Q
   have q':f[i]?=some C:=by simpa using q
   rw[Z]at q';exact(qE q').symm
  subst ex;refine{_,U,wpAny_letOwnedTupleGo_enum ho λt B m=>?_}
  have I1:Inv X pins σ H { s with heap:=t,toks:=tk+1 }:=I.gH hf λb o j q=>m.extBut b o (λz=>j (by simp[z])) (hk b o (λz=>j (by simp[z])) (λz=>j (by simp[z])) q)
  have S:↑s≠e:=zg (qB y);have eT:t.get? ↑s=some { cls:=.type "tuple",data:=.seq #[.int i tk,C] }:=m.extBut _ _ S hT;have Y:H ↑s=none:=I.a6.fresh (qb _);refine{.ref ↑s,upd H ↑s (.tup [.int i,x]),I.kl I1 (Nat.le_refl _) Y {?_,[.int i tk,C],.cons {tk,U} (.cons ru .nil),{_,eT,U,_,U}},U,{_,x,Y,λys hy=>by rw[I.hZ hy F];exact G,U,U},{{_,by simpa using B},?_},λb j=>?_}
  ·show 2≤sizeLine
   decide
  ·obtain⟨o,q,r⟩:=O.1
   exact{o,m.extBut _ _ (Ne.symm n) q,r}
  ·obtain⟨o,q⟩:∃o,s.heap.get? b=some o:=by
    rcases qv.mp j with rfl|j
    ·exact⟨_,y⟩
    ·have q:b=it:=by simpa using j
     subst q;obtain⟨o,q,_⟩:=l;exact{o,q}
   rw[aD (qd (qB q))];exact(hf b j).1
 done:=by
  intro X V hw R J i pins s σ H E I hf st M;subst V hw R;obtain⟨xs,F,G⟩:=M;obtain⟨f,T,p,hz⟩:=I.list F;obtain⟨⟨g,y⟩,l⟩:=st;have hl:=T.length
  have hi:i=f.toArray.size:=by rw[qx];omega
  have hD:=Draws.list (prog:=X.prog) (w:=X.w) (show X.A.in1.handled=none from I.ok.hd J) it a D f.toArray;rw[hi]at l
  exact wpAny_pyNext_enum_endD hD y {l,p.isList} λh' eb=>{U,I.gH hf λb o j q=>eb b o (λz=>j (by simp[z])) q}
 self:=λ_ _ _ _ _ st h=>let⟨g,q⟩:=st.1;wpAny_pyIter_enum q h
section
variable {X:Cx}
inductive Cc(R:It->Hp->Prop)(vs:List V)(H1:Hp):Prop
 |mk(a:_)(_:vs=[.ref a])(_:(∃xs,aw H1 a xs))(_:R (E9 a) H1)
def Lv(ta:TA):TI:=λσ H R=>ta σ H λvs H1=>Cc R vs H1
def yZ{k:Nat}(n:Gl X "enumerate")(y:X.mg "enumerate"=none)(x:PA X [a] ta)(hs:starEach [a] X.env=[(false,eval a X.env)]:=by rfl) :
  PI X (.Tuple es k tp) (.Call (.Name "enumerate" p) [a] [] pos) (Lv ta):=by
 refine{?_};intro pins s σ H R I h;refine Call_ (i4 I n y boot_enumerate (PyProof.Rows.callWith_type1 (a8 (x pos pins s σ H _ I h) λus c ⟨vs,H1,g,z,r⟩=>?_) hs rfl));obtain⟨l,e,⟨xs,t⟩,q⟩:=r;subst e;obtain⟨u,rfl,A⟩:=vals1 z;cases A;obtain⟨o,B,pl,hz⟩:=g.list t
 have d:l<↑c:=by obtain⟨_,e,_⟩:=pl.isList;exact qB e
 refine call_enumerate_list pl.isList λh' m i hsz v=>?_;refine wpAny_pyIter_enum m ?_;have w:Inv X pins σ H1 { c with heap:=h' }:=g.kept (t':=c.toks) v;refine{↑c+1,[↑c+1,↑c],_,_,H1,U,w,Pb l ↑c (↑c+1) (qd (zr d)) (qd d) (zg (z7 _)),{{_,m},i},λb j=>?_,q}
 have f:↑c≤b:=by
  rcases qv.mp j with rfl|j
  ·exact ye _
  ·have e:b=↑c:=by simpa using j
   exact Nat.le_of_eq e.symm
 exact g.kJ f (g.a6.fresh f)
end
def IZ{a:Addr}{xs:List V}{g:TG}{tb:TS}{D:Ends}{σ:St}{H:Hp}(c:Nat->St->Hp->Prop)(o:c 0 σ H)(l:∀i σ H,i≤xs.length->c i σ H->aw H a xs)(hs:∀i x σ H p,xs[i]?=some x->c i σ H->H p=none->g (.ref p) σ (upd H p (.tup [.int i,x])) λd H2=>tb { D with nx:=c (i+1),ct:=c (i+1),bk:=D.nx } d H2)(hd:∀σ H,c xs.length σ H->D.nx σ H) :
  ∃W:Nat->Nat->St->Hp->Prop,(∃m,W 0 m σ H)/\∀i m σ H,W i m σ H →
   ((E9 a).stop i H/\D.nx σ H)\/((E9 a).go i H/\∃N:St->Hp->Prop,(∀σ' H',N σ' H'->∃h,h<m/\W (i+1) h σ' H')/\∀x H',(E9 a).vl i H x H'->g x σ H' λd H2=>tb { D with nx:=N,ct:=N,bk:=D.nx } d H2):=by
 refine{λi m σ H=>m=xs.length - i/\i≤xs.length/\c i σ H,{xs.length,by simp,Nat.zero_le _,o},?_};rintro i m σ H ⟨rfl,hi,p⟩;have q:=l i σ H hi p
 by_cases f:i<xs.length
 ·refine .inr {{xs,xs[i],q,by simp[f]},c (i+1),λσ' H' j=>{xs.length - (i+1),(),U,f,j},λx H' y=>?_}
  obtain⟨b,v,k,n,rfl,rfl⟩:=y;exact hs i v σ H b (n xs q) p k
 ·have e:i=xs.length:=()
  subst e;exact .inl {{xs,q,U},hd σ H p}
def NG{k:NameKind}(h:(relabel b env).names.lookup x=some k):∃y∈b.names,y.2=k\/y.2=.free:=by
 have c:=PySem.mem_of_lookup h;obtain⟨y,d,e⟩:=qf.mp c;refine{y,d,?_};obtain⟨n,f⟩:=y;dsimp only at e
 split at e
 ·rename_i a
  rw[ze,ze]at a;exact .inr (beq_iff_eq.mp a.1.1)
 ·cases e
  exact .inl rfl
def fU(h:∀y∈b.names,y.2≠.free/\y.2≠.cell):jO X b [] [] where
 sY:=closureFor_none λy a=>(h y a).1
 sub:=λx c e=>by cases e
 has:=λx e=>by
  exfalso;rcases e with e|e <;> obtain⟨y,a,z⟩:=NG e <;> rcases z with z|z
  ·exact(h y a).2 z
  ·exact(h y a).1 z
  ·exact(h y a).1 z
  ·exact(h y a).1 z
 Ms:=λp d=>nomatch d
def ab.up(e:ab H H')(h:H' p=none):ab H (upd H' p o):=λb u q=>by
 rw[aD (cg (e b u q) h)];exact e b u q
def ab.new(h:H p=none):ab H (upd H p o):=(ab.refl H).up h
def ab.wr(e:ab H H')(h:H p=none):ab H (upd H' p o):=λb u q=>by
 rw[aD (cg q h)];exact e b u q
section
variable {X:Cx}
inductive Jx(x y:V)(H:Hp)(Q:VK):Prop
 |mk(p xs i:_)(_:x=.ref p)(_:y=.int i)(_:aw H p xs)(_:0≤i)(_:i<(xs.length:Int))(_:∀v∈xs,Q v H)
def Ax:HE X (Jx):=by
 intro value a pins s σ H x y v u Q I f d h hs;obtain⟨p,xs,i,ex,e,c,g,h1,q⟩:=h;obtain⟨j,rfl⟩:=Int.eq_ofNat_of_zero_le g
 have b:j<xs.length:=()
 exact Cy value a pins s σ H x y v u Q I f d {p,xs,j,xs[j],ex,e,c,bH (qc b),q _ (vg b)} hs
end
def Kw{α:Type}(xs:List α)(i:Int)(a:0≤i)(h1:i<(xs.length:Int)):∃v,iH xs i=some v:=by
 obtain⟨j,rfl⟩:=Int.eq_ofNat_of_zero_le a
 have b:j<xs.length:=()
 exact{xs[j],bH (qc b)}
def c7(x:Int)(h:0<m):0≤x % m:=Int.emod_nonneg _ ()
def df(x:Int)(h:0<m):x % m<m:=Int.emod_lt_of_pos _ h
def EA(x y:Str):(x++y).cps.size=x.cps.size+y.cps.size:=Array.size_append
section
variable {X:Cx}{es:List Expr}{t:TA}{pos:Pos}
def Gh(t:TA):TE:=λσ H Q=>t σ H λxs H1=>xs.length≤sizeLine/\∀p H',H1 p=none->ab H1 H'->H' p=some (.tup xs)->Q (.ref p) H'
def HI(t:TA):TE:=λσ H Q=>t σ H λxs H1=>xs.length≤sizeLine/\∀p H',H1 p=none->ab H1 H'->H' p=some (.lst xs)->Q (.ref p) H'
def ba{x1}(h:PA X es t):PE X (.Tuple es x1 pos) (Gh t):=by
 refine{?_};intro pins s σ H Q I d;refine wpAny_Tuple_spliced (a8 (h pos pins s σ H _ I d) λus a ⟨xs,H1,c,r,z,q⟩=>{by rw[←r.length];exact z,?_});have hf:H1 ↑a=none:=c.a6.fresh (qb _);refine{.ref ↑a,upd H1 ↑a (.tup xs),c.laid (t':=a.toks) (λb u e=>qC _ e) (qb _) ?_,U,q _ _ hf (ab.new hf) aG};exact{z,us,r,{_,qD _ rfl,U,_,U}}
def cI(h:PA X es t):PE X (.List es pos) (HI t):=by
 refine{?_};intro pins s σ H Q I d;refine wpAny_List_spliced (a8 (h pos pins s σ H _ I d) λus a ⟨xs,H1,c,r,z,q⟩=>{by rw[←r.length];exact z,?_});have hf:H1 ↑a=none:=c.a6.fresh (qb _);refine{.ref ↑a,upd H1 ↑a (.lst xs),c.laid (t':=a.toks) (λb u e=>qC _ e) (qb _) ?_,U,q _ _ hf (ab.new hf) aG};exact{z,us,0,r,qD _ rfl}
def cw.imp(h:cw X f r)(i:∀x y H Q,a x y H Q->r x y H Q):cw X f a:=λpins s σ H x y v u Q I b c q=>h pins s σ H x y v u Q I b c (i x y H Q q)
def ud.imp(h:ud X r)(i:∀x lo hi H Q,a x lo hi H Q->r x lo hi H Q):ud X a:=λpins s σ H x v d b lo hi c Q I f hs pl e q=>h pins s σ H x v d b lo hi c Q I f hs pl e (i x lo hi H Q q)
inductive GQ(x y:V)(H:Hp)(Q:VK):Prop
 |mk(l b xs zs:_)(_:x=.ref l)(_:y=.ref b)(_:H l=some (.lst xs))(_:H b=some (.lst zs))(_:xs.length+zs.length≤sizeLine)(_:∀p H',H p=none->ab H H'->H' p=some (.lst (xs++zs))->Q (.ref p) H')
def pB:cw X (binaryOp .Add) GQ:=DK.imp λ_ _ _ _ ⟨l,b,xs,zs,h1,h2,d,c,e,q⟩=>{l,b,xs,zs,h1,h2,d,c,e,λp a=>q p _ a (ab.new a) aG}
inductive LP(x:V)(lo:Option Int)(hi:Option Int)(H:Hp)(Q:VK):Prop
 |mk(a xs:_)(_:x=.ref a)(_:aw H a xs)(_:∀p H',H p=none->ab H H'->H' p=some (.lst (bQ xs lo hi))->Q (.ref p) H')
def gA:ud X (LP):=Ni.imp λ_ _ _ _ _ ⟨a,xs,h1,h2,q⟩=>{a,xs,h1,h2,λp b=>q p _ b (ab.new b) aG}
end
def pf(env:Env):List (Str×NameKind)->List (Str×Addr)->List (Str×Addr)
 |[],acc=>acc
 |(n,k)::r,acc=>pf env r (if k==.free then(n,(env.cells.lookup n).getD 0)::acc else acc)
def Nx(h:∀y∈f.names,y.2=.free->∃c,env.cells.lookup y.1=some c):closureFor f env=pure (pf env f.names []):=by
 have all:∀(names:List (Str×NameKind)) (b:List (Str×Addr)),(∀y∈names,y.2=.free->∃c,env.cells.lookup y.1=some c) →
   (forIn names b λx r=>(match x with
    |(name,kind)=>if(kind==NameKind.free)=true then do
      let a ←cellOf env name
      pure (ForInStep.yield ((name,a)::r))
     else pure (ForInStep.yield r):Sem (ForInStep (List (Str×Addr)))))=pure (pf env names b):=by
  intro names
  induction names with
  |nil=>intro b _;rfl
  |cons x r l =>
   intro b g;obtain⟨n,k⟩:=x;rw[List.forIn_cons]
   cases d:(k==NameKind.free) with
   |true =>
    obtain⟨c,j⟩:=g (n,k) ql (beq_iff_eq.mp d)
    have e:cellOf env n=pure c:=by unfold cellOf;rw[j]
    dsimp only;rw[q0 d,e];refine Eq.trans (by first|rfl|simp) ((l ((n,c)::b) λy i=>g y (List.mem_cons_of_mem _ i)).trans ?_);show _=pure (pf env r (if(k==NameKind.free)=true then(n,(env.cells.lookup n).getD 0)::b else b));rw[q0 d,show env.cells.lookup n=some c from j];rfl
   |false =>
    dsimp only;rw[qt (by rw[d];exact qp)];refine Eq.trans (by first|rfl|simp) ((l b λy i=>g y (List.mem_cons_of_mem _ i)).trans ?_);show _=pure (pf env r (if(k==NameKind.free)=true then(n,(env.cells.lookup n).getD 0)::b else b));rw[qt (by rw[d];exact qp)]
 have e:=all f.names [] h
 show((forIn f.names [] λx r=>(match x with
       |(name,kind)=>if(kind==NameKind.free)=true then do
         let a ←cellOf env name
         pure (ForInStep.yield ((name,a)::r))
        else pure (ForInStep.yield r):Sem (ForInStep (List (Str×Addr))))) >>= λm=>pure m)=_
 rw[e];rfl
theorem HK:∀{names:List (Str×NameKind)} {a:List (Str×Addr)},(∀y∈names,y.2=.free->∃c,env.cells.lookup y.1=some c)->(∀x c,a.lookup x=some c->env.cells.lookup x=some c) →
  ∀x c,(pf env names a).lookup x=some c->env.cells.lookup x=some c
 |[],_,_,h=>h
 |(n,k)::r,a,hx,h=>by
  refine HK (names:=r) (λy l=>hx y (qo _ l)) λx c e=>?_
  cases d:(k==NameKind.free) with
  |true =>
   rw[d,q0 rfl]at e;obtain⟨j,i⟩:=hx (n,k) ql (beq_iff_eq.mp d);rw[jp]at e
   cases b:(x==n) with
   |true =>
    rw[b]at e;have q:=beq_iff_eq.mp b;subst q;have g:(env.cells.lookup x).getD 0=c:=qE e;have f:env.cells.lookup x=some j:=i;rw[f]at g ⊢;exact congrArg some g
   |false=>rw[b]at e;exact h x c e
  |false=>rw[d,qt qp]at e;exact h x c e
theorem Ga:∀{names:List (Str×NameKind)} {a:List (Str×Addr)},((x,NameKind.free)∈names\/∃c,a.lookup x=some c)->∃c,(pf env names a).lookup x=some c
 |[],_,h=>h.elim (λz=>nomatch z) id
 |(n,k)::r,a,h=>by
  refine Ga (names:=r) ?_
  have put:∀d,∃c,((n,d)::a).lookup x=some c\/(x≠n/\a.lookup x=none):=λd=>by
   rw[jp]
   cases b:(x==n) with
   |true=>exact{d,.inl rfl}
   |false =>
    cases f:a.lookup x with
    |some c=>exact{c,.inl rfl}
    |none=>exact{0,.inr {λz=>by subst z;simp at b,U}}
  rcases h with h|⟨c,h⟩
  ·rcases qv.mp h with q|q
   ·cases q
    refine .inr ?_;rw[q0 (by rfl),jp]
    simp
   ·exact .inl q
  ·refine .inr ?_
   cases e:(k==NameKind.free) with
   |true =>
    rw[q0 (by rfl)];obtain⟨c1,q|q⟩:=put ((env.cells.lookup n).getD 0)
    ·exact{c1,q}
    ·rw[q.2]at h;cases h
   |false=>rw[qt qp];exact{c,h}
def MK{k:NameKind}(h:(relabel b env).names.lookup x=some k):∃y∈b.names,y.1=x/\(y.2=k\/y.2=.free):=by
 have c:=PySem.mem_of_lookup h;obtain⟨y,d,e⟩:=qf.mp c;refine{y,d,?_};obtain⟨n,f⟩:=y;dsimp only at e
 split at e
 ·rename_i a
  rw[ze,ze]at a;cases e;exact{U,.inr (beq_iff_eq.mp a.1.1)}
 ·cases e
  exact{U,.inl rfl}
def Px{g:Scope}{fr:List (Str×Nat)}(h:∀x,X.env.kindOf x=some .cell->∃c,X.env.cells.lookup x=some c)(d:∀y∈g.names,y.2≠.cell)(a:∀y∈g.names,y.2=.free->X.env.kindOf y.1=some .cell)(f:∀p∈fr,X.N[p.2]?=some p.1/\X.env.kindOf p.1=some .cell/\(relabel g X.env).names.lookup p.1=some .cell):jO X g (pf X.env g.names []) fr where
 sY:=Nx λy b e=>h _ (a y b e)
 sub:=HK (λy b e=>h _ (a y b e)) λx c e=>by cases e
 has:=λx e=>by
  refine Ga (.inl ?_);rcases e with e|e <;> obtain⟨y,b,rfl,z⟩:=MK e <;> rcases z with z|z
  ·exact absurd z (d y b)
  ·rw[←z];exact b
  ·rw[←z];exact b
  ·rw[←z];exact b
 Ms:=λp i=>by
  obtain⟨h1,h2,j⟩:=f p i;exact{h1,by rw[h2];decide,.inr (.inl h2),.inl j}
def rT{fr:List (Str×Nat)}(d:Scope)(N:List Str)(h1:X.env.scope=d)(h2:X.N=N)(l:∀x,X.env.kindOf x=some .cell->∃c,X.env.cells.lookup x=some c)(f:∀y∈h.names,y.2≠.cell)(g:∀y∈h.names,y.2=.free->d.names.lookup y.1=some .cell)(i:∀p∈fr,N[p.2]?=some p.1/\d.names.lookup p.1=some .cell/\(relabel h { scope:=d,locals:=0,globals:=0,cells:=[] }).names.lookup p.1=some .cell):jO X h (pf X.env h.names []) fr:=by
 refine Px l f (λy k e=>?_) λp j=>?_
 ·show X.env.scope.names.lookup y.1=some .cell
  rw[h1];exact g y k e
 ·obtain⟨a,b,c⟩:=i p j
  refine{by rw[h2];exact a,?_,?_}
  ·show X.env.scope.names.lookup p.1=some .cell
   rw[h1];exact b
  ·have e:relabel h X.env=relabel h { scope:=d,locals:=0,globals:=0,cells:=[] }:=by
    unfold relabel Env.kindOf;rw[h1]
   rw[e];exact c
section
variable {X:Cx}
def bj.imp(h:bj X f r)(i:∀xs H Q,a xs H Q->r xs H Q):bj X f a:=λpins s σ H xs us Q I b q=>h pins s σ H xs us Q I b (i xs H Q q)
inductive K_(xs:List V)(H:Hp)(Q:VK):Prop
 |mk(p ys:_)(_:xs=[.ref p])(_:aw H p ys)(_:∀l H',H l=none->ab H H'->H' l=some (.tup ys)->Q (.ref l) H')
def iy:bj X (.type "tuple") (K_):=QE.imp λ_ _ _ ⟨p,ys,h1,h2,q⟩=>{p,ys,h1,.inl {h2,λl a=>q l _ a (ab.new a) aG}}
inductive LO(xs:List V)(H:Hp)(Q:VK):Prop
 |mk(p ys:_)(_:xs=[.ref p])(_:(aw H p ys\/aH H p ys))(_:∀l H',H l=none->ab H H'->H' l=some (.lst ys)->Q (.ref l) H')
def tE:bj X (.type "list") (LO):=OW.imp λ_ _ _ ⟨p,ys,h1,h2,q⟩=>{p,ys,h1,h2,λl a=>q l _ a (ab.new a) aG}
inductive Bu(x y:V)(H:Hp)(Q:VK):Prop
 |mk(a b xs ys:_)(_:x=.ref a)(_:y=.ref b)(_:aH H a xs)(_:aH H b ys)(_:xs≠[])(_:ys≠[])(_:xs.length+ys.length≤sizeLine)(_:∀l H',H l=none->ab H H'->H' l=some (.tup (xs++ys))->Q (.ref l) H')
def nu:cw X (binaryOp .Add) (Bu):=Kx.imp λ_ _ _ _ ⟨a,b,xs,ys,h1,h2,h,f,i,c,g,q⟩=>{a,b,xs,ys,h1,h2,h,f,i,g,λe=>absurd e c,λ_ p d=>q p _ d (ab.new d) aG}
inductive LC(x y:V)(H:Hp)(Q:VK):Prop
 |mk(l k xs:_)(_:x=.ref l)(_:y=.int k)(_:H l=some (.lst xs))(_:-(2 ^ 63)≤k)(_:k<2 ^ 63)(_:xs.length * k.toNat≤sizeLine)(_:∀p H',H p=none->ab H H'->H' p=some (.lst (List.replicate k.toNat xs).flatten)->Q (.ref p) H')
def Pp:cw X (binaryOp .Mult) LC:=xc.imp λ_ _ _ _ ⟨l,k,xs,h1,h2,d,b,e,c,q⟩=>{l,k,xs,h1,h2,d,b,e,c,λp a=>q p _ a (ab.new a) aG}
end
def Ng{z:Str}{g:TG}{tb:TS}{D:Ends}{σ:St}{H:Hp}(a:Nat->St->Hp->Prop)(k:a 0 σ H)(hs:∀i c σ H,z.cps[i]?=some c->a i σ H->g (.str {#[c]}) σ H λb H2=>tb { D with nx:=a (i+1),ct:=a (i+1),bk:=D.nx } b H2)(hd:∀σ H,a z.cps.size σ H->D.nx σ H) :
  ∃W:Nat->Nat->St->Hp->Prop,(∃m,W 0 m σ H)/\∀i m σ H,W i m σ H →
   ((AF z).stop i H/\D.nx σ H)\/((AF z).go i H/\∃N:St->Hp->Prop,(∀σ' H',N σ' H'->∃f,f<m/\W (i+1) f σ' H')/\∀x H',(AF z).vl i H x H'->g x σ H' λb H2=>tb { D with nx:=N,ct:=N,bk:=D.nx } b H2):=by
 refine{λi m σ H=>m=z.cps.size - i/\i≤z.cps.size/\a i σ H,{z.cps.size,by simp,Nat.zero_le _,k},?_};rintro i m σ H ⟨rfl,hi,p⟩
 by_cases d:i<z.cps.size
 ·refine .inr {d,a (i+1),λσ' H' h=>{z.cps.size - (i+1),(),U,d,h},λx H' y=>?_}
  obtain⟨rfl,c,j,rfl⟩:=y;exact hs i c σ _ j p
 ·have e:i=z.cps.size:=()
  subst e;exact .inl {qb _,hd σ H p}
def f'{fr:List (Str×Nat)}{g:TG}(hz:xs.length≤sizeLine)(d:Nat->List V->Hp->Prop)(w:d 0 [] H)(j:∀i ys H,d i ys H->aw H a xs)(hs:∀i x ys H' (l:V->Hp->Prop) (o:Hp->Prop),xs[i]?=some x->d i ys H'->(∀y k,d (i+1) (ys++[y]) k->l y k)->(∀f,d (i+1) ys f->o f) →
   g x (bc own fr σ) H' λh H2=>n h H2 λb f=>if b=true then te h f l else o f)(hd:∀H' p ys,d xs.length ys H'->ys.length≤xs.length->H' p=none->Q (.ref p) (upd H' p (.lst ys))):l6 own fr g n te σ Q (rG a) H:=by
 refine{λi m ys H=>m=xs.length - i/\i≤xs.length/\ys.length≤i/\d i ys H,{xs.length,by simp,Nat.zero_le _,Nat.zero_le _,w},?_};rintro i m ys H ⟨rfl,hi,v,p⟩
 by_cases c:i<xs.length
 ·refine .inr {{xs,xs[i],j _ _ H p,by simp[c]},(),λx H' y=>?_}
  obtain⟨rfl,y⟩:=y;have r:=y xs (j _ _ _ p)
  refine hs i x ys H' _ _ r p (λy k u=>{xs.length - (i+1),(),U,c,?_,u}) λf t=>{xs.length - (i+1),(),U,c,(),t}
  rw[qm,zi];omega
 ·have e:i=xs.length:=()
  subst e;exact .inl {{xs,j _ _ H p,qb _},λq s=>hd H q ys p v s}
def Pc{lo:Int}{n:Nat}{own:List Str}{fr:List (Str×Nat)}{g:TG}{k:TT}{te:TE}{σ:St}{H:Hp}{Q:VK}(hz:n≤sizeLine)(c:Nat->List V->Hp->Prop)(u:c 0 [] H)(hs:∀i ys H' (j:V->Hp->Prop) (l:Hp->Prop),i<n->c i ys H'->(∀y h,c (i+1) (ys++[y]) h->j y h)->(∀d,c (i+1) ys d->l d) →
   g (.int (lo+i)) (bc own fr σ) H' λf H2=>k f H2 λb d=>if b=true then te f d j else l d)(hd:∀H' p ys,c n ys H'->ys.length≤n->H' p=none->Q (.ref p) (upd H' p (.lst ys))):l6 own fr g k te σ Q (Eo lo n) H:=by
 refine{λi m ys H=>m=n - i/\i≤n/\ys.length≤i/\c i ys H,{n,by simp,Nat.zero_le _,Nat.zero_le _,u},?_};rintro i m ys H ⟨rfl,hi,t,p⟩
 by_cases a:i<n
 ·refine .inr {a,(),λx H' y=>?_}
  obtain⟨rfl,rfl⟩:=y
  refine hs i ys H' _ _ a p (λy h s=>{n - (i+1),(),U,a,?_,s}) λd r=>{n - (i+1),(),U,a,(),r}
  rw[qm,zi];omega
 ·have e:i=n:=()
  subst e;exact .inl {qb _,λq o=>hd H q ys p t o}
theorem eI{α:Type}[DecidableEq α]:∀{S ws:List α},S.Nodup->(∀x∈S,x∈ws)->S.length≤ws.length
 |[],_,_,_=>zd _
 |x::S,ws,nd,h=>by
  have b:=h x ql;have a:=zk.mp nd
  have d:=eI (S:=S) (ws:=ws.erase x) a.2 λy c=>(List.mem_erase_of_ne (λ(e:y=x)=>a.1 (by rw[←e];exact c))).mpr (h y (qo _ c))
  have f:=List.length_erase_of_mem b;have pos:0<ws.length:=List.length_pos_of_mem b;show S.length+1≤ws.length;omega
def Ca:TE:=λ_ H Q=>∀p H',H p=none->ab H H'->H' p=some (.dT [])->Q (.ref p) H'
def MZ:PE X (.Dict [] [] pos) Ca:={λpins s σ H Q I h=>Qv pins s σ H Q I λp a=>h p _ a (ab.new a) aG}
def aw.same(h:aw H a xs)(s:ab H H'):aw H' a xs:=by
 rcases h with h|⟨o,h⟩
 ·exact .inl (s _ _ h)
 ·exact .inr ⟨o,s _ _ h⟩
inductive Ko(x y:V)(H:Hp)(Q:VK):Prop
 |mk(l b xs zs:_)(_:x=.ref l)(_:y=.ref b)(_:aw H l xs)(_:H b=some (.lst zs))(_:xs.length+zs.length≤sizeLine)(_:∀p H',H p=none->ab H H'->H' p=some (.lst (xs++zs))->Q (.ref p) H')
def Qn:cw X (binaryOp .Add) (Ko):=by
 intro pins s σ H x y v u Q I t o h;obtain⟨l,b,xs,zs,rfl,rfl,k,p,hz,q⟩:=h;cases t;cases o;obtain⟨c,r,pl,z⟩:=I.list k;obtain⟨⟨j,dict,d,m⟩,n,e,c1,c2,f⟩:=pl;dsimp only at c1 c2 f;subst c1 c2 f;obtain⟨B,a,n2,w,i,g⟩:=I.mB p;have C:=r.length;refine concat_meets {_,e,U} {_,g,U} noFill_list_add seq_list_add PySem.F.slot_list_add PySem.F.entry_list_add (PySem.F.args_list_add_2 _ _) (list_addW l b c.toArray a.toArray n n2 none none m #[] (by rw[qx,qx];omega)) {e,g,?_}
 have A:c.toArray++a.toArray=(c++a).toArray:=by simp
 rw[A];exact{.ref _,_,I.xn (t':=s.toks) (r.append w) (by rw[qm];omega),U,q _ _ I.fresh (ab.new I.fresh) aG}
section
variable {X:Cx}
theorem A3:∀{ys:List Str} {us:List Value},aA (ys.map V.str) us->StrsAre us ys
 |[],_,h=>by cases h;exact .nil
 |y::ys,_,h=>by
  cases h with
  |cons r t =>
   obtain⟨k,rfl⟩:=r;exact .cons y k (A3 t)
inductive rJoin(x:V)(vs:List V)(H:Hp)(Q:VK):Prop
 |mk(sep p ys:_)(_:x=.str sep)(_:vs=[.ref p])(_:aw H p (List.map V.str ys))(_:(ys.map (·.length)).sum+ys.length * sep.length≤16777216)(_:Q (.str (Txt.join sep ys)) H)
def wJ:Fh X "str.join" (rJoin):=by
 intro pins s σ H x vs v us Q I e d h;obtain⟨a,p,ys,rfl,rfl,c,hz,q⟩:=h;obtain⟨t,rfl⟩:=e;obtain⟨u,rfl,f⟩:=d.one;cases f;obtain⟨b,r,pl,_⟩:=I.list c;exact join_list pl.isList (A3 r) hz λt' k=>{.str (Txt.join a ys),H,I.tok _,{_,U},q}
def lq(xs:List V)(k:Nat)(y:V):List V:=xs.take k++y::xs.drop k
inductive r4(x:V)(vs:List V)(H:Hp)(Q:VK):Prop
 |mk(l xs i y:_)(_:x=.ref l)(_:vs=[.int i,y])(_:H l=some (.lst xs))(_:0≤i)(_:i<2 ^ 63)(_:xs.length<sizeLine)(_:Q .aT (upd H l (.lst (lq xs (min i.toNat xs.length) y))))
def NY:Fh X "list.insert" r4:=by
 intro pins s σ H x vs v us Q I g f h;obtain⟨l,xs,i,y,rfl,rfl,c,h1,h2,hz,q⟩:=h;cases g;obtain⟨u,d,rfl,k,b⟩:=f.two;obtain⟨t,rfl⟩:=k;obtain⟨z,a,n,r,j,e⟩:=I.mB c;refine call_meets F.slot_list_insert {_,e,U} F.entry_list_insert (F.args_list_insert_3 _ _ _) (AutoSeq1.list_insert_list_int_val_1 l a.toArray n i t d (by rw[fitsIndex_both () h2];decide) (by rw[qx];omega)) {e,?_};refine{.aT,_,I.Iy (its':=a.take (min i.toNat a.length)++d::a.drop (min i.toNat a.length)) c e ?_ (ys:=lq xs (min i.toNat xs.length) y) ?_ ?_,U,q}
 ·have hi:¬i<0:=()
  simp only[hi,if_false,List.size_toArray]
  simp
  exact ww (by rw[wa];exact qb _)
 ·unfold lq
  rw[j];exact(r.take _).append (.cons b (r.drop _))
 ·unfold lq
  rw[qm,qr,zq,wa];omega
end
mutual
inductive DV(H:Hp):V->PyData->Prop
 |aT:DV H .aT .none
 |bl (b:Bool):DV H (.bl b) (.bool b)
 |int (i:Int):DV H (.int i) (.int i)
 |str (z:Str):DV H (.str z) (.str z)
 |lst {p:Addr} {xs:List V} {ds:List PyData}:aw H p xs->fG H xs ds->DV H (.ref p) (.list ds)
 |tup {p:Addr} {xs:List V} {ds:List PyData}:aH H p xs->fG H xs ds->DV H (.ref p) (.tuple ds)
inductive fG(H:Hp):List V->List PyData->Prop
 |nil:fG H [] []
 |cons {x:V} {xs:List V} {d:PyData} {ds:List PyData}:DV H x d->fG H xs ds->fG H (x::xs) (d::ds)
end
section
variable {X:Cx}{pins:List (Addr×Obj)}{σ:St}{H H':Hp}{s:Shared}{K:PySem.W.Frag}
def aH.same(h:aH H a xs)(s:ab H H'):aH H' a xs:=by
 rcases h with h|⟨o,h⟩
 ·exact .inl (s _ _ h)
 ·exact .inr ⟨o,s _ _ h⟩
mutual
theorem DV.same(e:ab H H'):∀{x:V} {d:PyData},DV H x d->DV H' x d
 |_,_,.aT=>.aT
 |_,_,.bl b=>.bl b
 |_,_,.int i=>.int i
 |_,_,.str z=>.str z
 |_,_,.lst h t=>.lst (h.same e) (fG.same e t)
 |_,_,.tup h t=>.tup (h.same e) (fG.same e t)
theorem fG.same(e:ab H H'):∀{xs:List V} {ds:List PyData},fG H xs ds->fG H' xs ds
 |_,_,.nil=>.nil
 |_,_,.cons h t=>.cons (DV.same e h) (fG.same e t)
end
mutual
theorem DV.reads(I:Inv X pins σ H s):∀{x:V} {d:PyData} {v:Value},DV H x d->RelV x v->∃c,Reads s.heap v d c
 |_,_,_,.aT,r=>by cases r;exact{_,.none}
 |_,_,_,.bl b,r=>by cases r;exact{_,.bool b}
 |_,_,_,.int i,r=>by obtain⟨t,rfl⟩:=r;exact{_,.int i t}
 |_,_,_,.str z,r=>by obtain⟨t,rfl⟩:=r;exact{_,.str z t}
 |_,_,_,.lst h t,r=>by
  cases r;obtain⟨a,g,⟨o,n,f,j,_,k⟩,_⟩:=I.list h;obtain⟨c,e⟩:=fG.reads I t g;exact{_,.list f j k (by simpa using e)}
 |_,_,_,.tup h t,r=>by
  cases r;obtain⟨a,g,⟨o,f,j,n,k⟩,_⟩:=I.tuple h;obtain⟨c,e⟩:=fG.reads I t g;exact{_,.tuple f j k (by simpa using e)}
theorem fG.reads(I:Inv X pins σ H s):∀{xs:List V} {ds:List PyData} {vs:List Value},fG H xs ds->aA xs vs->∃c,ReadsAll s.heap vs ds c
 |_,_,_,.nil,r=>by cases r;exact{_,.nil}
 |_,_,_,.cons h t,r=>by
  cases r with
  |cons e d =>
   obtain⟨c,a⟩:=DV.reads I h e;obtain⟨bs,b⟩:=fG.reads I t d;exact{_,.cons a b}
end
inductive sR(u:Nat)(neg:Bool)(x y:V)(H:Hp)(Q:VK):Prop
 |mk(dx dy:_)(_:DV H x dx)(_:DV H y dy)(_:dx.canLay0=true)(_:dy.canLay0=true)(_:min dx.depth dy.depth≤u)(_:Q (.bl (if neg then !PyData.eqv dx dy else PyData.eqv dx dy)) H)
def AI(j:X.A.units+u<cLine):cw X (compareOp .Eq) (sR u false):=by
 intro pins s σ H x y v w Q I e c h;obtain⟨dx,k,a,g,f,cy,hd,q⟩:=h;obtain⟨i,b⟩:=a.reads I e;obtain⟨bs,d⟩:=g.reads I c;exact SeqAt.compareEq_reads b d f cy () {.bl _,H,I,U,q}
def El(j:X.A.units+u<cLine):cw X (compareOp .NotEq) (sR u true):=by
 intro pins s σ H x y v w Q I e c h;obtain⟨dx,k,a,g,f,cy,hd,q⟩:=h;obtain⟨i,b⟩:=a.reads I e;obtain⟨bs,d⟩:=g.reads I c;exact SeqAt.compareNe_reads b d f cy () {.bl _,H,I,U,q}
theorem jI:∀{vs:List Value} {ds:List PyData} {a:List Addr} {j:Nat} {v:Value},ReadsAll h vs ds a->vs[j]?=some v->∃d bs,ds[j]?=some d/\Reads h v d bs
 |_,_,_,_,_,.nil,e=>by cases e
 |_,_,_,0,_,.cons r t,e=>by cases e;exact{_,_,U,r}
 |_,_,_,j+1,_,.cons r t,e=>by
  obtain⟨d,bs,h1,h2⟩:=jI (j:=j) t (by simpa using e);exact{d,bs,by simpa using h1,h2}
theorem kB:∀{ds:List PyData} {j:Nat} {d:PyData},PyData.canLayAll0 ds=true->ds[j]?=some d->d.canLay0=true
 |[],_,_,_,e=>by cases e
 |d::ds,0,_,h,e=>by
  cases e;have h':(d.canLay0&&PyData.canLayAll0 ds)=true:=h;rw[ze]at h';exact h'.1
 |d::ds,j+1,d',h,e=>by
  have h':(d.canLay0&&PyData.canLayAll0 ds)=true:=h;rw[ze]at h';exact kB h'.2 (by simpa using e)
open Classical in
noncomputable def alike(vs:List Value)(ds:List PyData)(dx:PyData)(y:Value):Bool:=decide (∃(j:Nat) (d:PyData),vs[j]?=some y/\ds[j]?=some d/\PyData.eqv d dx=true)
open Classical in
def jG{h:Heap}{vs:List Value}{ds:List PyData}{k:List Addr}{dx:PyData}(r:ReadsAll h vs ds k)(c:PyData.canLayAll0 ds=true){j:Nat}{y:Value}{d:PyData}(e:vs[j]?=some y)(b:ds[j]?=some d):alike vs ds dx y=PyData.eqv d dx:=by
 unfold alike
 cases q:PyData.eqv d dx with
 |true=>exact qA {j,d,e,b,q}
 |false =>
  refine decide_eq_false λ⟨s,d',l,a,g⟩=>?_;obtain⟨p,t,i,n⟩:=jI r e;obtain⟨d2,o,f,m⟩:=jI r l;rw[b]at i;cases i;rw[a]at f;cases f;have:=SeqAt.Reads.unique _ _ _ _ _ (kB c b) n m;rw[←this,q]at g;cases g
def PC{g:List Addr}(r:ReadsAll h vs ds g)(c:PyData.canLayAll0 ds=true):vs.any (alike vs ds dx)=ds.any λd=>PyData.eqv d dx:=by
 have k:=SeqAt.ReadsAll.length _ _ _ r;rw[wn,yi,yi];constructor
 ·rintro⟨y,i,q⟩
  obtain⟨j,b,e⟩:=zv.mp i;obtain⟨d,_,f,_⟩:=jI r (j:=j) (by rw[qc b,e]);rw[jG r c (by rw[qc b,e]) f]at q;exact{d,qk f,q}
 ·rintro⟨d,hd,q⟩
  obtain⟨j,b,e⟩:=zv.mp hd
  have a:j<vs.length:=()
  refine{vs[j],vg a,?_};rw[jG r c (qc a) (by rw[qc b,e])];exact q
inductive KR(u:Nat)(neg:Bool)(x y:V)(H:Hp)(Q:VK):Prop
 |mk(dx p ds xs:_)(_:DV H x dx)(_:y=.ref p)(_:(aw H p xs\/aH H p xs))(_:fG H xs ds)(_:dx.canLay0=true)(_:PyData.canLayAll0 ds=true)(_:dx.depth≤u)(_:Q (.bl (if neg then !(ds.any λd=>PyData.eqv d dx) else ds.any λd=>PyData.eqv d dx)) H)
def MH(F:X.A.units+1+u<cLine):cw X (compareOp .NotIn) (KR u true):=by
 intro pins s σ H x y v w Q I z n h;obtain⟨dx,p,ds,xs,l,rfl,b,hs,B,g,hd,q⟩:=h;cases n;obtain⟨E,m⟩:=l.reads I z
 have c:∀{a:List Value},aA xs a->(∀y∈a,SeqAt.EqAt X.A.in1 s y v (alike a ds dx y))/\a.any (alike a ds dx)=ds.any λd=>PyData.eqv d dx:=λ{a} t=>by
  obtain⟨bs,f⟩:=hs.reads I t;refine{λy C=>?_,PC f g};obtain⟨j,D,e⟩:=zv.mp C
  have k:a[j]?=some y:=by rw[qc D,e]
  obtain⟨d,_,i,o⟩:=jI f k;rw[jG f g k i];exact SeqAt.eqAt_reads d dx _ s y v _ _ o m (kB g i) B (by show X.A.units+1+_<cLine;omega)
 rcases b with b|b
 ·obtain⟨a,r,pl,hz⟩:=I.list b
  obtain⟨k1,k2⟩:=c r;refine SeqAt.notIn_listAt (alike a ds dx) pl.isList (λw hw=>k1 w (by simpa using hw)) {.bl _,H,I,U,?_};rw[List.any_toArray,k2];exact q
 ·obtain⟨a,r,pl,hz⟩:=I.tuple b
  obtain⟨k1,k2⟩:=c r;refine SeqAt.notIn_tupleAt (alike a ds dx) pl (λw hw=>k1 w (by simpa using hw)) {.bl _,H,I,U,?_};rw[List.any_toArray,k2];exact q
inductive iW(u:Nat)(o:V)(vs:List V)(H:Hp)(Q:VK):Prop
 |mk(x dx p ds xs:_)(j:Nat)(_:vs=[x])(_:o=.ref p)(_:DV H x dx)(_:aw H p xs)(_:fG H xs ds)(_:dx.canLay0=true)(_:PyData.canLayAll0 ds=true)(_:dx.depth≤u)(_:(∃d,ds[j]?=some d/\PyData.eqv d dx=true))(_:(∀(m:Nat) d,m<j->ds[m]?=some d->PyData.eqv d dx=false))(_:Q (.int (j:Int)) H)
def OH(hu:X.A.units+3+u<cLine):Fh X "list.index" (iW u):=by
 intro pins s σ H o vs v us Q I T V h;obtain⟨x,dx,p,ds,xs,j,rfl,rfl,L,M,hs,S,i,hd,⟨d,K,W⟩,l,q⟩:=h;cases T;obtain⟨w,rfl,z⟩:=V.one;obtain⟨as,N⟩:=L.reads I z;obtain⟨a,r,pl,hz⟩:=I.list M;obtain⟨⟨O,dict,C,P⟩,n,e,c1,c2,G⟩:=pl;dsimp only at c1 c2 G;subst c1 c2 G;obtain⟨bs,c⟩:=hs.reads I r;have J:=SeqAt.ReadsAll.length _ _ _ c
 have g:j<a.length:=by
  have:=(qw.mp K).1;omega
 have Z:=r.length
 have E:sizeLine<2 ^ 63 - 1:=⋯
 refine call_meets F.slot_list_index {_,e,U} F.entry_list_index (F.args_list_index_2 _ _) (SeqAt.list_indexAt p a.toArray n none P w (alike a ds dx) j (by simpa using g) () ?_ ?_) {e,λy t=>?_,?_}
 ·rw[j9,jG c i (qc g) K]
  exact W
 ·intro m B k
  have f:m<a.length:=by simpa using B
  obtain⟨d',_,b,_⟩:=jI c (qc f);rw[j9,jG c i (qc f) b];exact l m d' k b
 ·have t:y∈a:=by simpa using t
  obtain⟨m,B,Y⟩:=zv.mp t
  have D:a[m]?=some y:=by rw[qc B,Y]
  obtain⟨d',_,b,R⟩:=jI c D;rw[jG c i D b];exact SeqAt.eqAt_reads d' dx _ s y w _ _ R N (kB i b) S (by show X.A.units+1+_<cLine;omega)
 ·exact{.int j,H,I.tok _,{_,U},q}
inductive lD(u:Nat)(o:V)(vs:List V)(H:Hp)(Q:VK):Prop
 |mk(x dx p ds xs:_)(_:vs=[x])(_:o=.ref p)(_:DV H x dx)(_:aw H p xs)(_:fG H xs ds)(_:dx.canLay0=true)(_:PyData.canLayAll0 ds=true)(_:dx.depth≤u)(_:Q (.int ((ds.countP λd=>PyData.eqv d dx:Nat):Int)) H)
def QL(f:Value->Bool)(r:ReadsAll h vs ds a):(∀(j:Nat) y d,vs[j]?=some y->ds[j]?=some d->f y=PyData.eqv d dx)->vs.countP f=ds.countP λd=>PyData.eqv d dx:=by
 intro hf
 induction vs generalizing ds a with
 |nil=>cases r;rfl
 |cons v vs b =>
  cases r with
  |cons i e =>
   rw[List.countP_cons,List.countP_cons,hf 0 _ _ rfl rfl,b e λj y d c g=>hf (j+1) y d (by simpa using c) (by simpa using g)]
def MV(R:X.A.units+3+u<cLine):Fh X "list.count" (lD u):=by
 intro pins s σ H o vs v us Q I L N h;obtain⟨x,dx,p,ds,xs,rfl,rfl,z,B,hs,J,i,hd,q⟩:=h;cases L;obtain⟨w,rfl,g⟩:=N.one;obtain⟨S,C⟩:=z.reads I g;obtain⟨a,r,pl,hz⟩:=I.list B;obtain⟨⟨D,dict,k,E⟩,n,e,c1,c2,t⟩:=pl;dsimp only at c1 c2 t;subst c1 c2 t;obtain⟨bs,c⟩:=hs.reads I r;refine call_meets F.slot_list_count {_,e,U} F.entry_list_count (F.args_list_count_2 _ _) (SeqAt.list_countAt p a.toArray n none E w (alike a ds dx)) {e,λy f=>?_,?_}
 ·have f:y∈a:=by simpa using f
  obtain⟨m,K,O⟩:=zv.mp f
  have l:a[m]?=some y:=by rw[qc K,O]
  obtain⟨d',_,b,G⟩:=jI c l;rw[jG c i l b];exact SeqAt.eqAt_reads d' dx _ s y w _ _ G C (kB i b) J (by show X.A.units+1+_<cLine;omega)
 ·refine{.int _,H,I.tok _,{_,U},?_}
  rw[gc,QL (dx:=dx) _ c λj y d M P=>jG c i M P];exact q
end
def ND{fr:List (Str×Nat)}{g:TG}(hz:xs.length≤sizeLine)(c:Nat->List V->Hp->Prop)(B:c 0 [] H)(u:∀i zs H,c i zs H->aw H a xs)(hs:∀i x zs H' p (l:V->Hp->Prop) (o:Hp->Prop),xs[i]?=some x->c i zs H'->H' p=none->(∀v k,c (i+1) (zs++[v]) k->l v k)->(∀f,c (i+1) zs f->o f) →
   g (.ref p) (bc own fr σ) (upd H' p (.tup [.int i,x])) λh H2=>n h H2 λb f=>if b=true then te h f l else o f)(hd:∀H' p zs,c xs.length zs H'->zs.length≤xs.length->H' p=none->Q (.ref p) (upd H' p (.lst zs))):l6 own fr g n te σ Q (E9 a) H:=by
 refine{λi m zs H=>m=xs.length - i/\i≤xs.length/\zs.length≤i/\c i zs H,{xs.length,by simp,Nat.zero_le _,Nat.zero_le _,B},?_};rintro i m zs H ⟨rfl,hi,A,p⟩;have j:=u _ _ H p
 by_cases d:i<xs.length
 ·refine .inr {{xs,xs[i],j,by simp[d]},(),λv H' y=>?_}
  obtain⟨r,x,hn,t,rfl,rfl⟩:=y
  refine hs i x zs H r _ _ (t xs j) p hn (λv k z=>{xs.length - (i+1),(),U,d,?_,z}) λf w=>{xs.length - (i+1),(),U,d,(),w}
  rw[qm,zi];omega
 ·have e:i=xs.length:=()
  subst e;exact .inl {{xs,j,U},λq s=>hd H q zs p A s}
def IS{k:Nat}(a:aZ k A):A.units+64<cLine:=a.units
def PR{k:Nat}(a:aZ k A):A.units+1+63<cLine:=by have:=a.units;omega
def Gr{k:Nat}(a:aZ k A):A.units+3+61<cLine:=by have:=a.units;omega
def cA(z:Str)(lo hi:Option Int):Str:={((z.cps.toList.drop (HT.bE z.length 0 lo)).take (HT.bE z.length z.length hi - HT.bE z.length 0 lo)).toArray}
def rV(i:Int)(n:Nat):max 0 (min (if i<0 then i+(n:Int) else i) (n:Int))=((if i<0 then(i+(n:Int)).toNat else min i.toNat n:Nat):Int):=by
 by_cases h:i<0
 ·rw[q0 h,q0 h];omega
 ·rw[qt h,qt h];omega
def IJ(lo hi:Option Int)(n:Nat):Builtin.Str.strSliceIndices lo hi 1 n=(List.range (HT.bE n n hi - HT.bE n 0 lo)).map (HT.bE n 0 lo+·):=by
 rw[←sliceRange_one];unfold Builtin.Str.strSliceIndices
 cases lo with
 |none=>cases hi with
  |none=>rfl
  |some j =>
   show sliceRange 0 (max 0 (min (if j<0 then j+(n:Int) else j) (n:Int))) 1=_;rw[rV];rfl
 |some i=>cases hi with
  |none =>
   show sliceRange (max 0 (min (if i<0 then i+(n:Int) else i) (n:Int))) n 1=_;rw[rV];rfl
  |some j =>
   show sliceRange (max 0 (min (if i<0 then i+(n:Int) else i) (n:Int))) (max 0 (min (if j<0 then j+(n:Int) else j) (n:Int))) 1=_;rw[rV,rV];rfl
section
variable {X:Cx}
inductive Q9(x:V)(lo:Option Int)(hi:Option Int)(H:Hp)(Q:VK):Prop
 |mk(z:_)(_:x=.str z)(_:z.length≤sizeLine)(_:Q (.str (cA z lo hi)) H)
def P9(z:Str)(l u:Option (Int×Tok)):((slicePicked z l u none).filterMap (z.cps[·]?))=(cA z (l.map (·.1)) (u.map (·.1))).cps.toList:=by
 unfold slicePicked cA;rw[show((none:Option (Int×Tok)).map (·.1)).getD 1=(1:Int) from rfl,IJ,pick_run]
def tJ:ud X Q9:=by
 intro pins s σ H x v p o lo hi g Q I n hs pl m h;obtain⟨z,rfl,hz,q⟩:=h;obtain⟨t,rfl⟩:=n;refine{"str",_,F.slot_str_getitem.lookup,typeIs_str _ z t,?_}
 have a:∀l u:Option (Int×Tok),l.map (·.1)=lo->u.map (·.1)=hi->s.heap.IsSlice g l u none->wpAny (model X.prog X.w) X.A (getItem (.str z t) (.ref g)) (EP X pins σ Q) X.xe s:=λl u i k d=>by
  refine wpAny_getItem_str_slice (st:=none) d rfl ?_;have j:=P9 z l u;rw[i,k]at j;unfold sliceMade
  split
  ·rename_i b
   have r:(slicePicked z l u none).length=z.length:=by
    rw[ze]at b;exact beq_iff_eq.mp b.2
   have e:cA z lo hi=z:=by
    have h1:(slicePicked z l u none).length=HT.bE z.length z.length hi - HT.bE z.length 0 lo:=by
     unfold slicePicked;rw[show((none:Option (Int×Tok)).map (·.1)).getD 1=(1:Int) from rfl,IJ,i,k,qa,vm]
    have y:HT.bE z.length z.length hi≤z.length:=by unfold HT.bE;split <;> (try split) <;> omega
    have h2:HT.bE z.length 0 lo=0\/z.length=0:=()
    unfold cA;rcases h2 with h2|h2
    ·rw[h2]
     rw[h2]at h1
     rw[show HT.bE z.length z.length hi - 0=z.cps.toList.length from by
      have:z.cps.toList.length=z.length:=by simp;rfl
      omega,vn,zn]
    ·have:z.cps.toList=[]:=by
      have:z.cps.size=0:=h2;simpa using this
     rw[this];obtain⟨c⟩:=z
     simp at this
     simp[this]
   exact{.str z,H,I,{t,U},e▸q}
  ·have e:(⟨((slicePicked z l u none).filterMap (z.cps[·]?)).toArray⟩:Str)=cA z lo hi:=by
    rw[j]
   have f:(cA z lo hi).length≤z.length:=by
    unfold cA;show(List.toArray _).size≤z.length;rw[qx,zq,wa];show _≤z.cps.size
    have:z.cps.toList.length=z.cps.size:=by simp
    omega
   rw[e];exact{qg f hz,.str _,H,I.tok _,{_,U},q}
 cases pl <;> cases m
 ·exact a none none rfl rfl hs
 ·exact a none (some (_,_)) rfl rfl hs
 ·exact a (some (_,_)) none rfl rfl hs
 ·exact a (some (_,_)) (some (_,_)) rfl rfl hs
end
theorem Gv(B:Nat):∀(a:List Int),(∀n∈a,0≤n/\n≤(B:Int))->∀j,0≤(a.take j).sum/\(a.take j).sum≤(a.length * B:Nat)
 |[],_,j=>by simp
 |n::a,h,0=>by
  simp
  exact Int.mul_nonneg () ()
 |n::a,h,j+1=>by
  have c:=Gv B a (λm b=>h m (qo _ b)) j;have hn:=h n ql;rw[List.take_succ_cons,wc,qr,Nat.succ_mul];omega
section
variable {X:Cx}
inductive Ii(B:Nat)(xs:List V)(H:Hp)(Q:VK):Prop
 |mk(a ns:_)(_:xs=[.ref a])(_:(aw H a (List.map V.int ns)\/aH H a (List.map V.int ns)))(_:(∀n∈ns,0≤n/\n≤(B:Int)))(_:ns.length * B<2 ^ 62)(_:Q (.int ns.sum) H)
def Ip{B:Nat}{a:List Int}(h:∀n∈a,0≤n/\n≤(B:Int))(c:a.length * B<2 ^ 62):∀j,j<a.length->InLong (a.getD j 0)/\InLong (preSum (λi=>a.getD i 0) (j+1)):=λj b=>by
 have h1:=Gv B a h (j+1);have h2:=h a[j] (vg b);have d:B≤a.length * B:=Nat.le_mul_of_pos_left B ();rw[preSum_getD]
 have e:a.getD j 0=a[j]:=by rw[qu,qc b];rfl
 rw[e];unfold InLong;omega
def MN(B:Nat)(E:X.calm=true):bj X (.builtin "sum") (Ii B):=by
 intro pins s σ H xs us Q I r h;obtain⟨a,f,rfl,m,w,G,q⟩:=h;obtain⟨u,rfl,C⟩:=vals1 r;cases C
 have item:∀{c:List Value},aA (List.map V.int f) c->∀(i:Nat) (v:Value),c.toArray[i]?=some v->∃t,v=Value.int (f.getD i 0) t:=λ{c} l i v y=>by
  have hi:c[i]?=some v:=by simpa using y
  have w:i<f.length:=by
   have h1:=(qw.mp hi).1;have h2:=l.length;rw[qa]at h2;omega
  obtain⟨u,F,C⟩:=l.get (i:=i) (x:=V.int f[i]) (by rw[qh,qc w];rfl);rw[hi]at F;cases F;obtain⟨t,rfl⟩:=C;exact{t,by rw[qu,qc w];rfl}
 have last:preSum (λi=>f.getD i 0) f.length=f.sum:=by rw[preSum_getD,zn]
 have cR:∀{h':Heap} {J:Obj},(∀b o,b∉[↑s]->(s.heap.push J).get? b=some o->h'.get? b=some o)->∀b o,s.heap.get? b=some o->h'.get? b=some o:=λn b o e=>n b o (λz=>by
   have:=qB e;rw[zb.mp z]at this
   exact absurd this (zt _)) (qC _ e)
 rcases m with m|m
 ·obtain⟨c,l,p,hz⟩:=I.list m
  have d:c.toArray.size=f.length:=by rw[qx,←l.length,qa]
  have g:a<↑s:=by obtain⟨_,e,_⟩:=p.isList;exact qB e
  refine call_sum_walk (wpAny_pyIter_list p.isList ?_);refine{↑s,_,_,_,_,_,λi=>f.getD i 0,U,Walks.list (show X.A.in1.handled=none from I.ok.hd E) ↑s a (qd g) c.toArray,{{_,qD _ rfl,U,U},p.isList.push _},λb k=>?_,λi v y=>item l i v y,λj D=>Ip w G j (by rw[←d];exact D),λh' tk t' n=>?_}
  ·show b<(s.heap.push _).objs.size
   rw[Heap.size_push]
   simp only[List.mem_cons,List.not_mem_nil,or_false]at k
   rcases k with rfl|rfl
   ·exact z7 _
   ·exact zr g
  ·rw[d,last]
   exact⟨.int f.sum,H,I.kept (cR n),⟨_,U⟩,q⟩
 ·obtain⟨c,l,p,hz⟩:=I.tuple m
  have d:c.toArray.size=f.length:=by rw[qx,←l.length,qa]
  have g:a<↑s:=by obtain⟨_,e,_⟩:=p;exact qB e
  refine call_sum_walk (wpAny_pyIter_tuple p ?_);refine{↑s,_,_,_,_,_,λi=>f.getD i 0,U,Walks.tuple (show X.A.in1.handled=none from I.ok.hd E) ↑s a (qd g) c.toArray,{{_,qD _ rfl,U,U},Heap.IsTuple.push p _},λb k=>?_,λi v y=>item l i v y,λj D=>Ip w G j (by rw[←d];exact D),λh' tk t' n=>?_}
  ·show b<(s.heap.push _).objs.size
   rw[Heap.size_push]
   simp only[List.mem_cons,List.not_mem_nil,or_false]at k
   rcases k with rfl|rfl
   ·exact z7 _
   ·exact zr g
  ·rw[d,last]
   exact⟨.int f.sum,H,I.kept (cR n),⟨_,U⟩,q⟩
end
def PV:∀{us:List Value},aA (a.map V.int) us->∃xs:List (Int×Tok),us=xs.map (λp=>Value.int p.1 p.2)/\xs.map (·.1)=a:=by
 induction a with
 |nil=>intro us r;cases r;exact{[],U,U}
 |cons n a c =>
  intro us r
  cases r with
  |cons d b =>
   obtain⟨t,rfl⟩:=d;obtain⟨xs,h1,h2⟩:=c b;exact{(n,t)::xs,by rw[h1];rfl,by rw[qi,h2]}
def Gs:V->Str
 |.str z=>z
 |.int i=>toString i
 |_=>""
section
variable {X:Cx}
inductive kC(xs:List V)(H:Hp)(Q:VK):Prop
 |mk(x:_)(_:xs=[x])(_:((∃z,x=.str z)\/∃i:Int,x=.int i/\i.natAbs.log2<1920))(_:Q (.str (Gs x)) H)
def tK:bj X (.type "str") kC:=by
 intro pins s σ H xs us Q I r h;obtain⟨x,rfl,b,q⟩:=h;obtain⟨u,rfl,a⟩:=vals1 r;rcases b with⟨z,rfl⟩|⟨i,rfl,hi⟩
 ·obtain⟨t,rfl⟩:=a
  exact PySem.P.str_of_str {.str z,H,I,{t,U},q}
 ·obtain⟨t,rfl⟩:=a
  exact PySem.P.str_of_int hi {.str _,H,I.tok _,{_,U},q}
end
section
variable {X:Cx}
inductive AA(x:V)(vs:List V)(H:Hp)(Q:VK):Prop
 |mk(sep p ys:_)(_:x=.str sep)(_:vs=[.ref p])(_:aH H p (List.map V.str ys))(_:(ys.map (·.length)).sum+ys.length * sep.length≤16777216)(_:Q (.str (Txt.join sep ys)) H)
def PY:Fh X "str.join" (AA):=by
 intro pins s σ H x vs v us Q I e d h;obtain⟨a,p,ys,rfl,rfl,c,hz,q⟩:=h;obtain⟨t,rfl⟩:=e;obtain⟨u,rfl,f⟩:=d.one;cases f;obtain⟨b,r,pl,_⟩:=I.tuple c;exact join_tuple pl (A3 r) hz λt' k=>{.str (Txt.join a ys),H,I.tok _,{_,U},q}
end
def sr{fr:List (Str×Nat)}{g:TG}(hz:xs.length≤sizeLine)(d:Nat->List V->Hp->Prop)(w:d 0 [] H)(j:∀i ys H,d i ys H->aH H a xs)(hs:∀i x ys H' (l:V->Hp->Prop) (o:Hp->Prop),xs[i]?=some x->d i ys H'->(∀y k,d (i+1) (ys++[y]) k->l y k)->(∀f,d (i+1) ys f->o f) →
   g x (bc own fr σ) H' λh H2=>n h H2 λb f=>if b=true then te h f l else o f)(hd:∀H' p ys,d xs.length ys H'->ys.length≤xs.length->H' p=none->Q (.ref p) (upd H' p (.lst ys))):l6 own fr g n te σ Q (KH a) H:=by
 refine{λi m ys H=>m=xs.length - i/\i≤xs.length/\ys.length≤i/\d i ys H,{xs.length,by simp,Nat.zero_le _,Nat.zero_le _,w},?_};rintro i m ys H ⟨rfl,hi,v,p⟩
 by_cases c:i<xs.length
 ·refine .inr {{xs,xs[i],j _ _ H p,by simp[c]},(),λx H' y=>?_}
  obtain⟨rfl,y⟩:=y;have r:=y xs (j _ _ _ p)
  refine hs i x ys H' _ _ r p (λy k u=>{xs.length - (i+1),(),U,c,?_,u}) λf t=>{xs.length - (i+1),(),U,c,(),t}
  rw[qm,zi];omega
 ·have e:i=xs.length:=()
  subst e;exact .inl {{xs,j _ _ H p,qb _},λq s=>hd H q ys p v s}
end L2
set_option maxHeartbeats 40000000
namespace Srt
open PySem PySem.W PyProof.Rows
def Ok{α:Type}(n:Nat)(lt:Nat->Nat->Bool)(P:α->Prop):KasT α->Prop
 |.ret a=>P a
 |.ask i j k=>i<n/\j<n/\Ok n lt P (k (lt i j))
section
variable {α β:Type}{n:Nat}{lt:Nat->Nat->Bool}
theorem Ok.mono(h:∀a,P a->R a):∀{t:KasT α},Ok n lt P t->Ok n lt R t
 |.ret _,q=>h _ q
 |.ask _ _ _,q=>{q.1,q.2.1,Ok.mono h q.2.2}
theorem Ok.bind{R:β->Prop}{f:α->KasT β}:∀{t:KasT α},Ok n lt (λa=>Ok n lt R (f a)) t->Ok n lt R (t.bind f)
 |.ret _,q=>q
 |.ask _ _ k,q=>{q.1,q.2.1,Ok.bind (t:=k _) q.2.2}
theorem Ok.wp(c:∀i j C,i<n->j<n->C (lt i j) s->b i j C s)(d:∀a,P a->Q a s) :
  ∀{t:KasT α},Ok n lt P t->t.kasWp b Q s
 |.ret _,q=>d _ q
 |.ask i j k,q=>c i j _ q.1 q.2.1 (Ok.wp c d (t:=k _) q.2.2)
end
structure fF(lt:Nat->Nat->Bool):Prop where
 ky:∀a,lt a a=false
 tr:∀a b c,lt a b=true->lt b c=true->lt a c=true
 nt:∀a b c,lt a c=true->lt a b=true\/lt b c=true
section
variable {n:Nat}{lt:Nat->Nat->Bool}(W:fF lt)
include W
theorem fF.le_of_lt(h:lt a b=true):lt b a=false:=by
 cases e:lt b a with
 |false=>rfl
 |true=>rw[←W.ky a,←W.tr a b a h e]
theorem fF.dh(h1:lt b a=false)(h2:lt c b=false):lt c a=false:=by
 cases e:lt c a with
 |false=>rfl
 |true =>
  rcases W.nt c b a e with q|q
  ·rw[q]at h2;cases h2
  ·rw[q]at h1;cases h1
theorem fF.Ki(h1:lt a b=true)(h2:lt c b=false):lt a c=true:=by
 rcases W.nt a c b h1 with q|q
 ·exact q
 ·rw[q]at h2;cases h2
end
abbrev g(p:Array Nat)(i:Nat):Nat:=p.getD i 0
def Up(lt:Nat->Nat->Bool)(p:Array Nat)(n:Nat):Prop:=∀i j,i≤j->j<n->lt (g p j) (g p i)=false
def Dn(lt:Nat->Nat->Bool)(p:Array Nat)(n:Nat):Prop:=∀i j,i≤j->j<n->lt (g p i) (g p j)=false
def Bd(n:Nat)(p:Array Nat):Prop:=p.size=n/\∀i,g p i<n
def i8(h:p[i]?=q[j]?):g p i=g q j:=by
 unfold g;rw[we,we,h]
def lu(hn:0<n)(h:q.Perm p)(b:Bd n p):Bd n q:=by
 refine{by rw[h.size_eq];exact b.1,λi=>?_};unfold g;rw[we]
 cases e:q[i]? with
 |none=>exact hn
 |some x =>
  have d:x∈q:=Array.mem_of_getElem? e;have a:x∈p:=(h.mem_iff).mp d;obtain⟨j,f,c⟩:=Array.mem_iff_getElem.mp a;have:=b.2 j;unfold g at this;rw[we,zp f,c]at this;exact this
section
variable {n:Nat}{lt:Nat->Nat->Bool}(W:fF lt)(hn:0<n)
theorem MA{k:Nat}(W:fF lt)(f:1≤k)(h:Up lt p k)(b:lt (g p k) (g p (k - 1))=false):Up lt p (k+1):=by
 intro i j a d
 by_cases e:j=k
 ·subst e
  by_cases c:i=j
  ·subst c;exact W.ky _
  ·exact W.dh (h i (j - 1) () ()) b
 ·exact h i j a ()
theorem nz{k:Nat}(W:fF lt)(f:1≤k)(h:Dn lt p k)(b:lt (g p (k - 1)) (g p k)=false):Dn lt p (k+1):=by
 intro i j a d
 by_cases e:j=k
 ·subst e
  by_cases c:i=j
  ·subst c;exact W.ky _
  ·exact W.dh b (h i (j - 1) () ())
 ·exact h i j a ()
theorem yM(W:fF lt)(b:Bd n p):∀(f k:Nat),1≤k->Up lt p k->Ok n lt (λm=>k≤m/\m≤k+f/\Up lt p m/\(m<k+f->lt (g p m) (g p (m - 1))=true)) (kas_asc p f k)
 | 0,k,_,h=>{Nat.le_refl _,Nat.le_refl _,h,λz=>absurd z (by simp)}
 |f+1,k,h0,h=>by
  refine{b.2 _,b.2 _,?_}
  cases e:lt (p.getD k 0) (p.getD (k - 1) 0) with
  |true =>
   show Ok n lt _ (if true=true then _ else _);rw[q0 rfl];exact{qb _,vq _ _,h,λ_=>e}
  |false =>
   show Ok n lt _ (if false=true then _ else _);rw[qt ⋯]
   exact(yM W b f (k+1) () (MA W h0 h e)).mono λm a=>{(),(),a.2.2.1,λz=>a.2.2.2 ()}
theorem yL(W:fF lt)(f:j≤p.size)(d:∀k,i≤k->k<j->lt (g p k) (g p (j - 1))=false/\lt (g p (j - 1)) (g p k)=false)(k:Nat) :
  lt (g (kas_rev p i j) k) (g p k)=false/\lt (g p k) (g (kas_rev p i j) k)=false:=by
 have e:=getElem?_mirror_all (i:=i) f k
 by_cases h:i≤k/\k<j
 ·rw[q0 h]at e
  have b:g (kas_rev p i j) k=g p (i+j - 1 - k):=i8 e;rw[b];have a:=d (i+j - 1 - k) () ();have c:=d k h.1 h.2;exact{W.dh c.2 a.1,W.dh a.2 c.1}
 ·rw[qt h]at e
  have b:g (kas_rev p i j) k=g p k:=i8 e;rw[b];exact{W.ky _,W.ky _}
theorem DB{k:Nat}(W:fF lt)(b:∀i,lt (g q i) (g p i)=false/\lt (g p i) (g q i)=false)(h:Dn lt p k):Dn lt q k:=λi j a c =>
 W.dh (W.dh (b j).2 (h i j a c)) (b i).1
theorem Be{k:Nat}(d:k≤p.size)(h:Dn lt p k):Up lt (kas_rev p 0 k) k:=by
 intro i j f l;have c:=getElem?_mirror_all (i:=0) d i;have e:=getElem?_mirror_all (i:=0) d j;rw[q0 {zd _,()}]at c e;have a:g (kas_rev p 0 k) i=g p (0+k - 1 - i):=i8 c;have b:g (kas_rev p 0 k) j=g p (0+k - 1 - j):=i8 e;rw[a,b];exact h _ _ () ()
theorem sx(p:Array Nat)(i j:Nat):(kas_rev p i j).Perm p:=mirror_perm p i j _
def CW(lt:Nat->Nat->Bool)(p:Array Nat)(k q:Nat):Prop:=q+1≤k/\∀m,k - (q+1)≤m->m<k->lt (g p m) (g p (k - 1))=false/\lt (g p (k - 1)) (g p m)=false
theorem oV{k:Nat}(W:fF lt)(h:1≤k):CW lt p k 0:={(),λm h1 h2=>by
 have:m=k - 1:=()
 subst this
 exact{W.ky _,W.ky _}}
theorem sF(W:fF lt)(hn:0<n):∀(f:Nat) (p:Array Nat) (k q:Nat),Bd n p->1≤k->k+f≤n->Dn lt p k->CW lt p k q →
  Ok n lt (λr=>r.1.Perm p/\k≤r.2.1/\r.2.1≤k+f/\Dn lt r.1 r.2.1/\CW lt r.1 r.2.1 r.2.2) (kas_desc f p k q)
 | 0,p,k,q,_,_,_,hd,hl=>{.refl _,qb _,qb _,hd,hl}
 |f+1,p,k,q,b,h0,hf,hd,hl=>by
  refine{b.2 _,b.2 _,?_}
  cases e:lt (p.getD k 0) (p.getD (k - 1) 0) with
  |true =>
   show Ok n lt _ (if true=true then _ else _);rw[q0 rfl]
   by_cases d:q>0
   ·rw[q0 d]
    have h:k≤p.size:=by rw[b.1];omega
    have c:=yL W h hl.2;have j:=sx p (k - (q+1)) k
    have t:g (kas_rev p (k - (q+1)) k) k=g p k:=i8 (by
     have:=getElem?_mirror_all (i:=k - (q+1)) h k;rw[qt ()]at this
     exact this)
    have o:Dn lt (kas_rev p (k - (q+1)) k) (k+1):=nz W h0 (DB W c hd) (by
     rw[t]
     exact W.dh (W.le_of_lt e) (c (k - 1)).1)
    exact(sF W hn f _ (k+1) 0 (lu hn j b) () () o (oV W ())).mono λr a=>{a.1.trans j,(),(),a.2.2.2}
   ·rw[qt d]
    exact(sF W hn f p (k+1) 0 b () () (nz W h0 hd (W.le_of_lt e)) (oV W ())).mono λr a=>{a.1,(),(),a.2.2.2}
  |false =>
   show Ok n lt _ (if false=true then _ else _);rw[qt ⋯];refine{b.2 _,b.2 _,?_}
   cases l:lt (p.getD (k - 1) 0) (p.getD k 0) with
   |true =>
    show Ok n lt _ (if true=true then _ else _);rw[q0 rfl];exact{.refl _,qb _,vq _ _,hd,hl}
   |false =>
    show Ok n lt _ (if false=true then _ else _);rw[qt ⋯]
    refine(sF W hn f p (k+1) (q+1) b () () (nz W h0 hd l) {by have:=hl.1;omega,λm h1 h2=>?_}).mono λr a=>{a.1,(),(),a.2.2.2}
    show lt (g p m) (g p k)=false/\lt (g p k) (g p m)=false
    by_cases s:m=k
    ·subst s;exact{W.ky _,W.ky _}
    ·have:=hl.2 m () ()
     exact{W.dh l this.1,W.dh this.2 e}
theorem KG(W:fF lt)(hn:0<n){k:Nat}(b:Bd n p)(h1:1≤k)(c:k≤n)(hd:Dn lt p k):Ok n lt (λr=>1≤r.1/\r.1≤n/\r.2.Perm p/\Up lt r.2 r.1) (kas_tail3 k n p):=by
 unfold kas_tail3;have a:=sx p 0 k;refine Ok.bind ((yM W (lu hn a b) (n - k) k h1 (Be (by rw[b.1];exact c) hd)).mono λm d=>?_);exact{(),(),a,d.2.2.1}
theorem IT(W:fF lt)(hn:0<n){k:Nat}(b:Bd n p)(h1:1≤k)(j:k+1≤n)(hd:Dn lt p (k+1)):Ok n lt (λr=>1≤r.1/\r.1≤n/\r.2.Perm p/\Up lt r.2 r.1) (kas_descPart k n p):=by
 unfold kas_descPart;refine Ok.bind ((sF W hn (n - (k+1)) p (k+1) 0 b () () hd (oV W ())).mono λr h=>?_);obtain⟨e,a1,a2,g,i⟩:=h;have d:=lu hn e b
 split
 ·have f:r.2.1≤r.1.size:=by rw[d.1];omega
  have c:=sx r.1 (r.2.1 - (r.2.2+1)) r.2.1;exact(KG W hn (lu hn c d) () () (DB W (yL W f i.2) g)).mono λx a=>{a.1,a.2.1,(a.2.2.1.trans c).trans e,a.2.2.2}
 ·exact(KG W hn d () () g).mono λx a=>{a.1,a.2.1,a.2.2.1.trans e,a.2.2.2}
theorem O8{k:Nat}(W:fF lt)(h:Up lt p k)(b:lt (g p 0) (g p (k - 1))=false):Dn lt p k:=λi j d e=>by
 have a:=h 0 i () ();have c:=h j (k - 1) () ();exact W.dh (W.dh c b) a
theorem Pl(W:fF lt)(hn:0<n)(b:Bd n p):Ok n lt (λr=>1≤r.1/\r.1≤n/\r.2.Perm p/\Up lt r.2 r.1) (kas_count n p):=by
 unfold kas_count
 have y:Up lt p 1:=λi j h A=>by
  have:i=j:=()
  subst this;exact W.ky _
 refine Ok.bind ((yM W b (n - 1) 1 () y).mono λk u=>?_);obtain⟨h1,h2,up,w⟩:=u
 by_cases e:(k==n)=true
 ·rw[q0 e]
  exact{h1,(),.refl _,up}
 ·rw[qt e]
  have x:k≠n:=λz=>e (by rw[z];simp)
  have c:=w ()
  by_cases d:k>1
  ·rw[q0 d]
   refine{b.2 _,b.2 _,?_}
   cases v:lt (p.getD 0 0) (p.getD (k - 1) 0) with
   |true =>
    show Ok n lt _ (if true=true then _ else _);rw[q0 rfl];exact{h1,by show k≤n;omega,.refl _,up}
   |false =>
    show Ok n lt _ (if false=true then _ else _);rw[qt ⋯]
    have a:k≤p.size:=by rw[b.1];omega
    have s:=O8 W up v;have q:=sx p 0 k
    have o:=yL (i:=0) W a λm _ B=>{s m (k - 1) () ()|> λz=>z,up m (k - 1) () ()}
    have t:g (kas_rev p 0 k) k=g p k:=i8 (by
     have:=getElem?_mirror_all (i:=0) a k;rw[qt ()]at this
     exact this)
    have l:Dn lt (kas_rev p 0 k) (k+1):=nz W h1 (DB W o s) (by
     rw[t]
     exact W.dh (W.le_of_lt c) (o (k - 1)).1)
    exact(IT W hn (lu hn q b) h1 () l).mono λr f=>{f.1,f.2.1,f.2.2.1.trans q,f.2.2.2}
  ·rw[qt d]
   have:k=1:=()
   subst this
   have l:Dn lt p 1:=λi j h A=>by
    have:i=j:=()
    subst this;exact W.ky _
   exact IT W hn b h1 () (nz W h1 l (W.le_of_lt c))
theorem E2(W:fF lt){k:Nat}(b:Bd n p)(up:Up lt p k):∀(f l r:Nat),l≤r->r≤k->r - l≤f->(∀i,i<l->lt (g p k) (g p i)=false)->(∀i,r≤i->i<k->lt (g p k) (g p i)=true) →
  Ok n lt (λm=>m≤k/\(∀i,i<m->lt (g p k) (g p i)=false)/\∀i,m≤i->i<k->lt (g p k) (g p i)=true) (kas_place p k f l r)
 | 0,l,r,h1,h2,h3,hl,hr=>{(),hl,λi hi a=>hr i () a}
 |f+1,l,r,h1,h2,h3,hl,hr=>by
  unfold kas_place
  by_cases e:l≥r
  ·rw[q0 e]
   exact{(),hl,λi hi a=>hr i () a}
  ·rw[qt e]
   refine{b.2 _,b.2 _,?_}
   cases c:lt (p.getD k 0) (p.getD ((l+r) / 2) 0) with
   |true =>
    show Ok n lt _ (if true=true then _ else _);rw[q0 rfl];exact E2 W b up f l ((l+r) / 2) () () () hl λi hi a=>W.Ki c (up _ i hi a)
   |false =>
    show Ok n lt _ (if false=true then _ else _);rw[qt ⋯];exact E2 W b up f ((l+r) / 2+1) r () h2 () (λi hi=>W.dh (up i ((l+r) / 2) () ()) c) hr
theorem LA(W:fF lt)(hn:0<n):∀(f:Nat) (p:Array Nat) (k:Nat),Bd n p->k+f=n->Up lt p k->Ok n lt (λq=>q.Perm p/\Up lt q n) (kas_bin f p k)
 | 0,p,k,_,hk,up=>{.refl _,by rw[←hk];exact up}
 |f+1,p,k,b,hk,up=>by
  unfold kas_bin;refine Ok.bind ((E2 W b up k 0 k (zd _) (qb _) () (λi hi=>absurd hi ()) λi h1 h2=>absurd h2 ()).mono λl t=>?_);obtain⟨u,o,s⟩:=t;have m:=bubble_perm p k (k - l)
  have hs:k<p.size:=by rw[b.1];omega
  have at':∀i,g (bubble p k (k - l)) i=if i=l then g p k else if l<i/\i≤k then g p (i - 1) else g p i:=λi=>by
   have e:=getElem?_bubble hs (k - l) () i;rw[show k - (k - l)=l from ()]at e
   by_cases h1:i=l
   ·rw[q0 h1]at e ⊢;exact i8 e
   ·rw[qt h1]at e ⊢
    by_cases h2:l<i/\i≤k
    ·rw[q0 h2]at e ⊢;exact i8 e
    ·rw[qt h2]at e ⊢;exact i8 e
  have c:Up lt (bubble p k (k - l)) (k+1):=by
   intro i j r v;rw[at' i,at' j]
   by_cases i1:i=l
   ·rw[q0 i1]
    by_cases a:j=l
    ·rw[q0 a];exact W.ky _
    ·rw[qt a,q0 {(),()}]
     exact W.le_of_lt (s (j - 1) () ())
   ·rw[qt i1]
    by_cases i2:l<i/\i≤k
    ·rw[q0 i2,qt (),q0 {(),()}]
     exact up _ _ () ()
    ·rw[qt i2]
     by_cases a:j=l
     ·rw[q0 a];exact o i ()
     ·rw[qt a]
      by_cases d:l<j/\j≤k
      ·rw[q0 d];exact up _ _ () ()
      ·rw[qt d];exact up _ _ () ()
  exact(LA W hn f _ (k+1) (lu hn m b) () c).mono λq h=>{h.1.trans m,h.2}
theorem rO(W:fF lt)(hn:0<n):Ok n lt (λq=>q.Perm (List.toArray (List.range n))/\Up lt q n) (kas_sort n):=by
 unfold kas_sort
 have b:Bd n (List.toArray (List.range n)):=by
  refine{by simp,λi=>?_};unfold g;rw[we]
  by_cases h:i<n
  ·simp[h]
  ·simp[h,hn]
 refine Ok.bind ((Pl W hn b).mono λr d=>?_);obtain⟨h1,h2,a,up⟩:=d
 split
 ·rename_i f
  have e:max r.1 1=r.1:=()
  rw[e];exact(LA W hn _ _ _ (lu hn a b) () up).mono λq c=>{c.1.trans a,c.2}
 ·have e:r.1=n:=()
  exact{a,by rw[←e];exact up}
end
end Srt
namespace L2
open PySem PySem.Spec PyProof.Rows
mutual
inductive DT(H:Hp):V->PyData->Prop
 |aT:DT H .aT .none
 |bl (b:Bool):DT H (.bl b) (.bool b)
 |int (i:Int):DT H (.int i) (.int i)
 |str (z:Str):DT H (.str z) (.str z)
 |tup {p:Addr} {xs:List V} {ds:List PyData}:H p=some (.tup xs)->cn H xs ds->DT H (.ref p) (.tuple ds)
inductive cn(H:Hp):List V->List PyData->Prop
 |nil:cn H [] []
 |cons {x:V} {xs:List V} {d:PyData} {ds:List PyData}:DT H x d->cn H xs ds->cn H (x::xs) (d::ds)
end
mutual
theorem DT.same(e:ab H H'):∀{x:V} {d:PyData},DT H x d->DT H' x d
 |_,_,.aT=>.aT
 |_,_,.bl b=>.bl b
 |_,_,.int i=>.int i
 |_,_,.str z=>.str z
 |_,_,.tup h t=>.tup (e _ _ h) (cn.same e t)
theorem cn.same(e:ab H H'):∀{xs:List V} {ds:List PyData},cn H xs ds->cn H' xs ds
 |_,_,.nil=>.nil
 |_,_,.cons h t=>.cons (DT.same e h) (cn.same e t)
end
mutual
theorem DT.dv:∀{x:V} {d:PyData},DT H x d->DV H x d
 |_,_,.aT=>.aT
 |_,_,.bl b=>.bl b
 |_,_,.int i=>.int i
 |_,_,.str z=>.str z
 |_,_,.tup h t=>.tup (aH.of h) (cn.dv t)
theorem cn.dv:∀{xs:List V} {ds:List PyData},cn H xs ds->fG H xs ds
 |_,_,.nil=>.nil
 |_,_,.cons h t=>.cons (DT.dv h) (cn.dv t)
end
section
variable {H:Hp}
def eB(h:DT H v (.str z)):v=.str z:=by cases h;rfl
def k4(h:DT H v (.int i)):v=.int i:=by cases h;rfl
def LN(h:DT H v .none):v=.aT:=by cases h;rfl
def K5(h:DT H v (.bool b)):v=.bl b:=by cases h;rfl
def c9(h:DT H v (.tuple ds)):∃p xs,v=.ref p/\H p=some (.tup xs)/\cn H xs ds:=by
 cases h with
 |tup a b=>exact{_,_,U,a,b}
theorem lj:∀{xs:List V} {ds:List PyData},cn H xs ds->xs.length=ds.length
 |_,_,.nil=>rfl
 |_,_,.cons _ t=>by rw[qr,qr,lj t]
theorem rQ:∀{xs:List V} {ds:List PyData} {i:Nat} {x:V},cn H xs ds->xs[i]?=some x->∃d,ds[i]?=some d/\DT H x d
 |_,_,0,_,.cons h _,e=>by cases e;exact{_,U,h}
 |_,_,i+1,_,.cons _ t,e=>by
  obtain⟨d,a,b⟩:=rQ (i:=i) t (by simpa using e);exact{d,by simpa using a,b}
end
def DJ{H:Hp}{a b:Addr}{xs:List V}{o:HO}(f:H a=some (.tup xs))(c:H b=some o)(d:∀ys,o≠.tup ys):a≠b:=λe=>by
 subst e;rw[f]at c;exact d xs (qE c).symm
mutual
theorem DT.wr{H:Hp}{a:Addr}{o o':HO}(e:H a=some o)(c:∀ys,o≠.tup ys):∀{x:V} {d:PyData},DT H x d->DT (upd H a o') x d
 |_,_,.aT=>.aT
 |_,_,.bl b=>.bl b
 |_,_,.int i=>.int i
 |_,_,.str z=>.str z
 |_,_,.tup h t=>.tup (by rw[aD (DJ h e c)];exact h) (cn.wr e c t)
theorem cn.wr(e:H a=some o)(b:∀ys,o≠.tup ys):∀{xs:List V} {ds:List PyData},cn H xs ds->cn (upd H a o') xs ds
 |_,_,.nil=>.nil
 |_,_,.cons h t=>.cons (DT.wr e b h) (cn.wr e b t)
end
theorem cn.snoc:∀{xs:List V} {ds:List PyData},cn H xs ds->DT H x d->cn H (xs++[x]) (ds++[d])
 |_,_,.nil,h=>.cons h .nil
 |_,_,.cons a t,h=>.cons a (cn.snoc t h)
def cm(z:Str):Prop:=0<z.cps.size/\z.cps.size≤8/\∀c∈z.cps.toList,97≤c/\c≤122
def cX(ws:List Str)(ds:List PyData):Prop:=∃w n,ds=[.str w,.int n]/\w∈ws/\1≤n/\n≤1000000
def cD(ws:List Str)(ds:List PyData):Prop:=ds=[.str "",.int 0]\/cX ws ds
def iV(ws:List Str)(ds:List PyData):Prop:=∃w n i,ds=[.str w,.int n,.int i]/\w∈ws/\1≤n/\n≤1000000/\0≤i/\i≤1000000
def eN(ws:List Str)(d:PyData):Prop:=∃ds z,d=.tuple [.tuple ds,.str z]/\iV ws ds/\(z = "ahead" \/ z = "behind")
def eP(ws:List Str)(d:PyData):Prop:=(∃c,d=.str {#[c]}/\c∈("abcdefghijklmnopqrstuvwxyz .,":Str).cps.toList)\/(∃z,d=.tuple [.str "picture",.str z]/\cm z)\/∃ds,d=.tuple [.str "refer",.tuple ds]/\cD ws ds
def sI(ws:List Str)(d:PyData):Prop:=d=.none\/∃w z,d=.tuple [.str w,.str z]/\w∈ws/\cm z
def vT(P:List PyData->Prop)(d:PyData):Prop:=d=.none\/∃n,d=.tuple n/\P n
def L6(d:PyData):Prop:=d=.none\/∃z,d=.str z/\cm z
inductive bA(ws:List Str)(num:Int):List PyData->Prop
 |nothing:bA ws num [.str "nothing"]
 |part (p:List PyData):cD ws p->bA ws num [.str "part",.tuple p]
 |move (n p:List PyData):cX ws n->cD ws p->bA ws num [.str "move",.tuple n,.tuple p]
 |cut (n:List PyData):cX ws n->bA ws num [.str "cut",.tuple n]
 |put (p:List PyData) (b:PyData) (sg:List PyData):cD ws p->vT (iV ws) b->1≤sg.length->sg.length≤12->(∀d∈sg,eP ws d)->bA ws num [.str "put",.tuple p,b,.tuple sg]
 |out (p:List PyData) (ns:List (List PyData)):cD ws p->1≤ns.length->ns.length≤12->(∀n∈ns,iV ws n)->ns.Nodup->bA ws num [.str "out",.tuple p,.tuple (ns.map .tuple)]
 |mark (p:List PyData) (s1 s2:PyData) (z:Str) (v:PyData):cD ws p->eN ws s1->eN ws s2->cm z->L6 v->bA ws num [.str "mark",.tuple p,s1,s2,.str z,v]
 |note (p:List PyData) (s1 s2:PyData) (z:Str):cD ws p->eN ws s1->eN ws s2->cm z->bA ws num [.str "note",.tuple p,s1,s2,.str z]
 |line (p:List PyData) (z:Str) (v:PyData):cD ws p->z = "row" \/ z = "column"->vT (cX ws) v->bA ws num [.str "line",.tuple p,.str z,v]
 |i6 (p n:List PyData):cD ws p->cX ws n->bA ws num [.str "strike",.tuple p,.tuple n]
 |cell (p a b:List PyData) (z:Str):cD ws p->cX ws a->cX ws b->z = "" \/ cm z->bA ws num [.str "cell",.tuple p,.tuple a,.tuple b,.str z]
 |leave (p:List PyData) (w t:Str) (y:Bool):cD ws p->w∈ws->t∈(["read","note","write","give"]:List Str)->bA ws num [.str "leave",.tuple p,.str w,.str t,.bool y]
 |back (k:Str) (n:Int):k = "back" \/ k = "again"->1≤n->n<num->bA ws num [.str k,.int n]
 |hL (k:Str) (z:Str):k = "bring" \/ k = "drop"->cm z->bA ws num [.str k,.str z]
 |jC (cs:List Int):cs.length=ws.length->(∀c∈cs,0≤c/\c≤1000000)->bA ws num [.str "pour",.tuple (cs.map .int)]
def eY(h:cm z):z≠"":=λe=>by
 have:=h.1;rw[e]at this;exact absurd this ⋯
def c_(h:cm z):z.length≤8:=h.2.1
def gM(h:cm z):PyData.strOk z=true:=by
 unfold PyData.strOk;rw[←jq,zm];intro c a;have:=h.2.2 c a;exact qA ()
mutual
def k6:PyData->Bool
 |.none=>true
 |.bool _=>false
 |.int _=>true
 |.str _=>true
 |.list xs=>mf xs
 |.tuple xs=>mf xs
 |.dict _=>false
def mf:List PyData->Bool
 |[]=>true
 |x::xs=>k6 x&&mf xs
end
mutual
theorem mN:∀(a b:PyData),k6 a=true->k6 b=true->(PyData.eqv a b=true↔a=b)
 |.list xs,b,ha,hb=>by
  cases b with
  |list ys =>
   have:=xV xs ys (by simpa[k6] using ha) (by simpa[k6] using hb)
   simp only[PyData.eqv,this,PyData.list.injEq]
  |_=>simp[PyData.eqv]
 |.tuple xs,b,ha,hb=>by
  cases b with
  |tuple ys =>
   have:=xV xs ys (by simpa[k6] using ha) (by simpa[k6] using hb)
   simp only[PyData.eqv,this,PyData.tuple.injEq]
  |_=>simp[PyData.eqv]
 |.dict _,_,ha,_=>by simp[k6]at ha
 |.bool _,_,ha,_=>by simp[k6]at ha
 |.none,b,_,hb=>by cases b <;> simp_all [PyData.eqv,k6]
 |.int i,b,_,hb=>by cases b <;> simp_all [PyData.eqv,k6]
 |.str i,b,_,hb=>by cases b <;> simp_all [PyData.eqv,k6]
theorem xV:∀(xs ys:List PyData),mf xs=true->mf ys=true->(PyData.eqvAll xs ys=true↔xs=ys)
 |[],ys,_,_=>by cases ys <;> simp[PyData.eqvAll]
 |x::xs,ys,ha,hb=>by
  cases ys with
  |nil=>simp[PyData.eqvAll]
  |cons y ys =>
   rw[mf,ze]at ha hb;have h1:=mN x y ha.1 hb.1;have h2:=xV xs ys ha.2 hb.2
   simp only[PyData.eqvAll,Bool.and_eq_true,h1,h2,List.cons.injEq]
end
theorem kW:∀{xs:List PyData},(∀x∈xs,x.canLay0=true)->PyData.canLayAll0 xs=true
 |[],_=>rfl
 |x::xs,h=>by
  show(x.canLay0&&PyData.canLayAll0 xs)=true;rw[h x ql,kW λy a=>h y (qo _ a)];rfl
def MP{ds:List PyData}{d:PyData}(h:∀x∈ds,k6 x=true)(hd:k6 d=true):(ds.any λx=>PyData.eqv x d)=true↔d∈ds:=by
 rw[yi];constructor
 ·rintro⟨x,a,e⟩
  rw[←(mN x d (h x a) hd).mp e];exact a
 ·intro b
  exact{d,b,(mN d d hd hd).mpr rfl}
def iV.plain(hw:∀w∈ws,cm w)(h:iV ws ds):k6 (.tuple ds)=true/\(PyData.tuple ds).canLay0=true/\(PyData.tuple ds).depth=1:=by
 obtain⟨w,n,i,rfl,m,_⟩:=h;refine{U,?_,U};show(PyData.strOk w&&(true&&(true&&true)))=true;rw[gM (hw w m)];rfl
def JN(h1:1≤b)(h2:b≤12)(a:1≤xs.length):1≤(bQ xs none (some b)).length/\(bQ xs none (some b)).length≤12:=by
 obtain⟨k,rfl⟩:=Int.eq_ofNat_of_zero_le (by omega:0≤b);unfold bQ;rw[HT.eE,HT.dA,vn,zq];omega
def FV{k:Nat}(h:k≤xs.length):(bQ xs none (some (k:Int))).length=k:=by
 unfold bQ;rw[HT.eE,HT.dA,vn,zq];omega
theorem bU(H:Hp):∀a:List Int,cn H (a.map V.int) (a.map .int)
 |[]=>.nil
 |c::a=>.cons (.int c) (bU H a)
def JS{α:Type}{l:List α}{x:α}(h:l.Nodup)(d:x∉l):(l++[x]).Nodup :=
 List.nodup_append.mpr {h,zk.mpr {λz=>(yw z).elim,wj},λa f b c e=>d (by rw[zb.mp c]at e;rw[←e];exact f)}
mutual
def sk:PyData->PyData->Bool
 |.none,.none=>true
 |.bool _,.bool _=>true
 |.int _,.int _=>true
 |.str _,.str _=>true
 |.tuple xs,.tuple ys=>gU xs ys
 |_,_=>false
def gU:List PyData->List PyData->Bool
 |[],_=>true
 |_::_,[]=>true
 |x::xs,y::ys=>sk x y&&gU xs ys
end
mutual
def cH:PyData->PyData->Bool
 |.bool a,.bool b=>!a&&b
 |.int i,.int j=>decide (i<j)
 |.str x,.str y=>decide (x.cps.toList<y.cps.toList)
 |.tuple xs,.tuple ys=>a9 xs ys
 |_,_=>false
def a9:List PyData->List PyData->Bool
 |[],[]=>false
 |[],_::_=>true
 |_::_,[]=>false
 |x::xs,y::ys=>if PyData.eqv x y=true then a9 xs ys else cH x y
end
mutual
theorem c8:∀(a b:PyData),sk a b=true->(PyData.eqv a b=true↔a=b)
 |.tuple xs,b,h=>by
  cases b with
  |tuple ys=>simp only[PyData.eqv,PyData.tuple.injEq];exact Hl xs ys (by simpa[sk] using h)
  |_=>simp[sk]at h
 |.none,b,h=>by cases b <;> simp_all [sk,PyData.eqv]
 |.bool _,b,h=>by cases b <;> simp_all [sk,PyData.eqv]
 |.int _,b,h=>by cases b <;> simp_all [sk,PyData.eqv]
 |.str _,b,h=>by cases b <;> simp_all [sk,PyData.eqv]
 |.list _,b,h=>by cases b <;> simp[sk]at h
 |.dict _,b,h=>by cases b <;> simp[sk]at h
theorem Hl:∀(xs ys:List PyData),gU xs ys=true->(PyData.eqvAll xs ys=true↔xs=ys)
 |[],ys,_=>by cases ys <;> simp[PyData.eqvAll]
 |x::xs,[],_=>by simp[PyData.eqvAll]
 |x::xs,y::ys,h=>by
  rw[gU,ze]at h
  simp only[PyData.eqvAll,Bool.and_eq_true,c8 x y h.1,Hl xs ys h.2,List.cons.injEq]
end
def OI{x y:Str}(h:x.cps.toList=y.cps.toList):x=y:=by
 obtain⟨a⟩:=x;obtain⟨b⟩:=y;exact congrArg Str.mk (Array.ext' h)
mutual
theorem o5:∀a:PyData,cH a a=false
 |.tuple xs=>by rw[cH];exact Gm xs
 |.none=>rfl
 |.bool b=>by cases b <;> rfl
 |.int i=>by simp[cH]
 |.str x=>by simp[cH,List.lt_irrefl]
 |.list _=>rfl
 |.dict _=>rfl
theorem Gm:∀xs:List PyData,a9 xs xs=false
 |[]=>rfl
 |x::xs=>by
  rw[a9,Gm xs,o5 x]
  split <;> rfl
end
mutual
theorem LH:∀(a b:PyData),sk a b=true->cH a b=false->cH b a=false->a=b
 |.tuple xs,b,h,h1,h2=>by
  cases b with
  |tuple ys=>exact congrArg PyData.tuple (Fx xs ys (by simpa[sk] using h) (by simpa[cH] using h1) (by simpa[cH] using h2))
  |_=>simp[sk]at h
 |.none,b,h,_,_=>by cases b <;> simp_all [sk]
 |.bool a,b,h,h1,h2=>by
  cases b with
  |bool c=>cases a <;> cases c <;> simp_all [cH]
  |_=>simp[sk]at h
 |.int i,b,h,h1,h2=>by
  cases b with
  |int j=>simp only[cH,decide_eq_false_iff_not]at h1 h2;exact congrArg _ ()
  |_=>simp[sk]at h
 |.str x,b,h,h1,h2=>by
  cases b with
  |str y =>
   simp only[cH,decide_eq_false_iff_not]at h1 h2
   exact congrArg _ (OI (List.le_antisymm (jr.mp h2) (jr.mp h1)))
  |_=>simp[sk]at h
 |.list _,b,h,_,_=>by cases b <;> simp[sk]at h
 |.dict _,b,h,_,_=>by cases b <;> simp[sk]at h
theorem Fx:∀(xs ys:List PyData),gU xs ys=true->a9 xs ys=false->a9 ys xs=false->xs=ys
 |[],[],_,_,_=>rfl
 |[],_::_,_,h,_=>by simp[a9]at h
 |_::_,[],_,_,h=>by simp[a9]at h
 |x::xs,y::ys,h,h1,h2=>by
  rw[gU,ze]at h
  by_cases e:x=y
  ·subst e
   have ex:PyData.eqv x x=true:=(c8 x x h.1).mpr rfl;rw[a9,q0 ex]at h1 h2;rw[Fx xs ys h.2 h1 h2]
  ·have a:¬PyData.eqv x y=true:=λz=>e ((c8 x y h.1).mp z)
   have hs:sk y x=true:=JW x y h.1;have b:¬PyData.eqv y x=true:=λz=>e ((c8 y x hs).mp z).symm;rw[a9,qt a]at h1;rw[a9,qt b]at h2;exact absurd (LH x y h.1 h1 h2) e
theorem JW:∀(a b:PyData),sk a b=true->sk b a=true
 |.tuple xs,b,h=>by
  cases b with
  |tuple ys=>rw[sk];exact Ly xs ys (by simpa[sk] using h)
  |_=>simp[sk]at h
 |.none,b,h=>by cases b <;> simp_all [sk]
 |.bool _,b,h=>by cases b <;> simp_all [sk]
 |.int _,b,h=>by cases b <;> simp_all [sk]
 |.str _,b,h=>by cases b <;> simp_all [sk]
 |.list _,b,h=>by cases b <;> simp[sk]at h
 |.dict _,b,h=>by cases b <;> simp[sk]at h
theorem Ly:∀(xs ys:List PyData),gU xs ys=true->gU ys xs=true
 |[],[],_=>rfl
 |[],_::_,_=>rfl
 |_::_,[],_=>rfl
 |x::xs,y::ys,h=>by
  rw[gU,ze]at h ⊢;exact{JW x y h.1,Ly xs ys h.2}
end
mutual
theorem Ln:∀(a b c:PyData),sk a b=true->sk b c=true->sk a c=true->cH a b=true->cH b c=true->cH a c=true
 |.tuple xs,b,c,h1,h2,h3,l1,l2=>by
  cases b with
  |tuple ys =>
   cases c with
   |tuple zs=>rw[cH];exact Kb xs ys zs (by simpa[sk] using h1) (by simpa[sk] using h2) (by simpa[sk] using h3) (by simpa[cH] using l1) (by simpa[cH] using l2)
   |_=>simp[sk]at h3
  |_=>simp[sk]at h1
 |.none,b,c,_,_,_,l1,_=>by cases b <;> simp[cH]at l1
 |.bool a,b,c,h1,h2,h3,l1,l2=>by
  cases b with
  |bool y =>
   cases c with
   |bool z=>cases a <;> cases y <;> cases z <;> simp_all [cH]
   |_=>simp[sk]at h3
  |_=>simp[sk]at h1
 |.int i,b,c,h1,h2,h3,l1,l2=>by
  cases b with
  |int y =>
   cases c with
   |int z=>simp only[cH,decide_eq_true_eq]at *;omega
   |_=>simp[sk]at h3
  |_=>simp[sk]at h1
 |.str i,b,c,h1,h2,h3,l1,l2=>by
  cases b with
  |str y =>
   cases c with
   |str z=>simp only[cH,decide_eq_true_eq]at *;exact List.lt_trans l1 l2
   |_=>simp[sk]at h3
  |_=>simp[sk]at h1
 |.list _,b,c,_,_,_,l1,_=>by cases b <;> simp[cH]at l1
 |.dict _,b,c,_,_,_,l1,_=>by cases b <;> simp[cH]at l1
theorem Kb:∀(xs ys zs:List PyData),gU xs ys=true->gU ys zs=true->gU xs zs=true->a9 xs ys=true->a9 ys zs=true->a9 xs zs=true
 |_,_,[],_,_,_,_,l2=>by
  rename_i ys _ _ _ _
  cases ys <;> simp[a9]at l2
 |[],_,_::_,_,_,_,_,_=>rfl
 |x::xs,[],_::_,_,_,_,l1,_=>by simp[a9]at l1
 |x::xs,y::ys,z::zs,h1,h2,h3,l1,l2=>by
  rw[gU,ze]at h1 h2 h3
  by_cases e:x=y
  ·subst e
   have a:PyData.eqv x x=true:=(c8 x x h1.1).mpr rfl;rw[a9,q0 a]at l1
   by_cases b:x=z
   ·subst b
    rw[a9,q0 a]at l2 ⊢;exact Kb xs ys zs h1.2 h2.2 h3.2 l1 l2
   ·have d:¬PyData.eqv x z=true:=λw=>b ((c8 x z h3.1).mp w)
    rw[a9,qt d]at l2 ⊢;exact l2
  ·have a:¬PyData.eqv x y=true:=λw=>e ((c8 x y h1.1).mp w)
   rw[a9,qt a]at l1
   by_cases b:y=z
   ·subst b
    rw[a9,qt a];exact l1
   ·have d:¬PyData.eqv y z=true:=λw=>b ((c8 y z h2.1).mp w)
    rw[a9,qt d]at l2;have c:=Ln x y z h1.1 h2.1 h3.1 l1 l2
    have f:¬PyData.eqv x z=true:=λw=>by
     have:=(c8 x z h3.1).mp w;subst this;rw[o5]at c;cases c
    rw[a9,qt f];exact c
end
mutual
theorem KA:∀(a b c:PyData),sk a b=true->sk b c=true->sk a c=true->cH a c=true->cH a b=true\/cH b c=true
 |.tuple xs,b,c,h1,h2,h3,l=>by
  cases b with
  |tuple ys =>
   cases c with
   |tuple zs=>rw[cH,cH];exact KN xs ys zs (by simpa[sk] using h1) (by simpa[sk] using h2) (by simpa[sk] using h3) (by simpa[cH] using l)
   |_=>simp[sk]at h3
  |_=>simp[sk]at h1
 |.none,b,c,_,_,_,l=>by cases c <;> simp[cH]at l
 |.bool a,b,c,h1,h2,h3,l=>by
  cases b with
  |bool y =>
   cases c with
   |bool z=>cases a <;> cases y <;> cases z <;> simp_all [cH]
   |_=>simp[sk]at h3
  |_=>simp[sk]at h1
 |.int i,b,c,h1,h2,h3,l=>by
  cases b with
  |int y =>
   cases c with
   |int z=>simp only[cH,decide_eq_true_eq]at *;omega
   |_=>simp[sk]at h3
  |_=>simp[sk]at h1
 |.str i,b,c,h1,h2,h3,l=>by
  cases b with
  |str y =>
   cases c with
   |str z =>
    simp only[cH,decide_eq_true_eq]at *
    by_cases d:i.cps.toList<y.cps.toList
    ·exact .inl d
    ·exact .inr (List.lt_of_le_of_lt (jr.mp d) l)
   |_=>simp[sk]at h3
  |_=>simp[sk]at h1
 |.list _,b,c,_,_,_,l=>by cases c <;> simp[cH]at l
 |.dict _,b,c,_,_,_,l=>by cases c <;> simp[cH]at l
theorem KN:∀(xs ys zs:List PyData),gU xs ys=true->gU ys zs=true->gU xs zs=true->a9 xs zs=true->a9 xs ys=true\/a9 ys zs=true
 |xs,_,[],_,_,_,l=>by cases xs <;> simp[a9]at l
 |[],[],_::_,_,_,_,_=>.inr rfl
 |[],_::_,_::_,_,_,_,_=>.inl rfl
 |x::xs,[],_::_,_,_,_,_=>.inr rfl
 |x::xs,y::ys,z::zs,h1,h2,h3,l=>by
  rw[gU,ze]at h1 h2 h3
  by_cases e:x=z
  ·subst e
   have a:PyData.eqv x x=true:=(c8 x x h3.1).mpr rfl;rw[a9,q0 a]at l
   by_cases b:x=y
   ·subst b
    rw[a9,q0 a,a9,q0 a];exact KN xs ys zs h1.2 h2.2 h3.2 l
   ·have c:¬PyData.eqv x y=true:=λw=>b ((c8 x y h1.1).mp w)
    have d:¬PyData.eqv y x=true:=λw=>b ((c8 y x h2.1).mp w).symm;rw[a9,qt c,a9,qt d]
    cases f:cH x y with
    |true=>exact .inl rfl
    |false =>
     cases p2:cH y x with
     |true=>exact .inr rfl
     |false=>exact absurd (LH x y h1.1 f p2) b
  ·have a:¬PyData.eqv x z=true:=λw=>e ((c8 x z h3.1).mp w)
   rw[a9,qt a]at l;rcases KA x y z h1.1 h2.1 h3.1 l with p|p
   ·left
    have c:¬PyData.eqv x y=true:=λw=>by
     have:=(c8 x y h1.1).mp w;subst this;rw[o5]at p;cases p
    rw[a9,qt c];exact p
   ·right
    have d:¬PyData.eqv y z=true:=λw=>by
     have:=(c8 y z h2.1).mp w;subst this;rw[o5]at p;cases p
    rw[a9,qt d];exact p
end
def eL(A:Around)(s:Shared)(x y:Value)(b:Bool):Prop:=∀(prog:Program) (w:World) (E:Value->Shared->Prop) (Q:Value->Shared->Prop),Q (.bool b) s->wpAny (model prog w) A (richCompare .Lt x y) Q E s
open SeqAt in
def QZ(l b:Addr)(us vs:Array Value)(n n2:Nat)(D p:Option Addr)(F r:Array (Option Value))(e:Nat->Bool)(c:Bool) :
  Meets (Builtin.«tuple.__lt__» {[.ref l,.ref b],[]})
   (λA R s=>s.heap.get? l=some { cls:=.type "tuple",dict:=D,data:=.seq us n,slots:=F }/\s.heap.get? b=some { cls:=.type "tuple",dict:=p,data:=.seq vs n2,slots:=r } ∧
    (∀j (h1:j<us.size) (h2:j<vs.size),EqAt A.in1 s us[j] vs[j] (e j)) ∧
    (∀i (h1:i<us.size) (h2:i<vs.size),(∀j,j<i->e j=true)->e i=false->eL A.in1 s us[i] vs[i] c) ∧
    ((∀j,j<min us.size vs.size->e j=true)->c=decide (us.size<vs.size))/\R (.ok (.ret (.bool c))) s) :=
 .of_wp λprog w A R s h=>by
  obtain⟨C,g,d,tk,B⟩:=s;obtain⟨v,H,G,o,k,h⟩:=h;have f2:=AutoSeq1.sub_tuple_tuple
  have I:(us.toList.zip vs.toList).length=min us.size vs.size:=by simp
  wp_walk using wpAny_loadPart' v,wpAny_loadPart' H,wpAny_forIn_list _ (λrest b s'=>b.1=none/\s'={C,g,d,tk,B}/\∃i,rest=(us.toList.zip vs.toList).drop i/\∀j,j<i->e j=true) _
  case turn =>
   rintro⟨y,x⟩ rest b s' ⟨a,rfl,i,hz,hi⟩
   have f:i<(us.toList.zip vs.toList).length:=by
    rcases yx i (us.toList.zip vs.toList).length with h' |h'
    ·exact h'
    ·rw[List.drop_of_length_le h']at hz;cases hz
   have h1:i<us.size:=()
   have h2:i<vs.size:=()
   rw[gg f]at hz;injection hz with hyx hrest
   have m:y=us[i]:=by have:=congrArg Prod.fst hyx;simpa using this
   have u:x=vs[i]:=by have:=congrArg Prod.snd hyx;simpa using this
   subst m u;refine qq (G i h1 h2 prog w _ _ ?_)
   cases m:e i with
   |true =>
    wp_walk
    exact{U,U,i+1,hrest,λj t=>by
     by_cases z:j=i
     ·rw[z];exact m
     ·exact hi j ()}
   |false =>
    have q:=o i h1 h2 hi m;dsimp only;rw[q0 (by rfl)];refine qq (wpAny_rule (qq (q prog w _ _ ?_)));exact qq (qs (qs (qs {_,U,h})))
  case fin =>
   rintro⟨K,J⟩ s' ⟨a,rfl,i,hz,hi⟩
   simp only at a
   subst a
   have E:min us.size vs.size≤i:=by
    rcases yx i (us.toList.zip vs.toList).length with h' |h'
    ·rw[gg h']at hz;cases hz
    ·omega
   have:=k λj t=>hi j ()
   wp_walk
   exact{_,U,by rw[this]at h;simpa[Builtin.Tuple.tupleCompareSizes] using h}
  case h =>
   exact{U,U,0,U,λj t=>absurd t (z0 _)}
def eL.tuples{A:Around}{s:Shared}{l b:Addr}{us vs:Array Value}{e:Nat->Bool}{c:Bool}(v:s.heap.IsTuple l us)(G:s.heap.IsTuple b vs)(y:A.units<cLine)(D:∀j (h1:j<us.size) (h2:j<vs.size),SeqAt.EqAt A.in1 s us[j] vs[j] (e j))(k:∀i (h1:i<us.size) (h2:i<vs.size),(∀j,j<i->e j=true)->e i=false->eL A.in1 s us[i] vs[i] c)(f:(∀j,j<min us.size vs.size->e j=true)->c=decide (us.size<vs.size)):eL A s (.ref l) (.ref b) c:=λprog w E Q h=>by
 obtain⟨⟨B,z,r,C⟩,u,q,n,hd⟩:=id v;obtain⟨⟨t,o,m,p⟩,a,d,n2,g⟩:=id G
 simp only at q hd d g
 subst q hd d g
 exact richCompare_meets_room (op:=.Lt) {_,u,U} {_,a,U} F.slot_tuple_lt F.entry_tuple_lt (F.args_tuple_lt_2 _ _) (QZ l b us vs n n2 z o C p e c)
  {u,a,D,k,f,show Value.bool c≠Value.notImplemented/\Q (.bool c) s from{(λx=>nomatch x),h}} y
def eL.ints(i j:Int)(t u:Tok):eL A s (.int i t) (.int j u) (decide (i<j)):=λprog w E Q h=>PyProof.Rows.lt_int h
def eL.strs(i j:Str)(t u:Tok):eL A s (.str i t) (.str j u) (decide (i.cps.toList<j.cps.toList)):=λprog w E Q h=>PyProof.Rows.lt_str h
def eL.bools(i j:Bool):eL A s (.bool i) (.bool j) (!i&&j):=λprog w E Q h=>by
 refine PyProof.Rows.lt_bool ?_;cases i <;> cases j <;> exact h
open SeqAt in
theorem Hq:∀(xs ys:List PyData) (i:Nat),i<xs.length->i<ys.length->(∀j,j<i->pairEq xs ys j=true)->pairEq xs ys i=false->a9 xs ys=cH (xs.getD i .none) (ys.getD i .none)
 |x::xs,y::ys,0,_,_,_,h=>by
  have h':PyData.eqv x y=false:=h;rw[a9,qt (by rw[h'];decide)];rfl
 |x::xs,y::ys,i+1,h1,h2,hj,h=>by
  have h':PyData.eqv x y=true:=hj 0 ();rw[a9,q0 h'];exact Hq xs ys i (by simpa using h1) (by simpa using h2) (λj a=>hj (j+1) ()) h
 |[],_,_,h1,_,_,_=>absurd h1 (z0 _)
 |_::_,[],_,_,h2,_,_=>absurd h2 (z0 _)
open SeqAt in
theorem J6:∀(xs ys:List PyData),(∀j,j<min xs.length ys.length->pairEq xs ys j=true)->a9 xs ys=decide (xs.length<ys.length)
 |[],[],_=>rfl
 |[],_::_,_=>by simp[a9]
 |_::_,[],_=>by simp[a9]
 |x::xs,y::ys,h=>by
  have h':PyData.eqv x y=true:=h 0 (by simp);rw[a9,q0 h',J6 xs ys λj a=>h (j+1) (by simp only[List.length_cons];omega)]
  simp
theorem FH:∀(xs ys:List PyData) (i:Nat),i<xs.length->i<ys.length->gU xs ys=true->sk (xs.getD i .none) (ys.getD i .none)=true
 |x::xs,y::ys,0,_,_,h=>by rw[gU,ze]at h;exact h.1
 |x::xs,y::ys,i+1,h1,h2,h=>by
  rw[gU,ze]at h;exact FH xs ys i (by simpa using h1) (by simpa using h2) h.2
 |[],_,_,h1,_,_=>absurd h1 (z0 _)
 |_::_,[],_,_,h2,_=>absurd h2 (z0 _)
theorem yU:∀(xs:List PyData) (i:Nat),i<xs.length->(xs.getD i .none).depth≤PyData.depthAll xs
 |x::xs,0,_=>by show x.depth≤max x.depth _;omega
 |x::xs,i+1,h=>by
  have:=yU xs i (by simpa using h);show(xs.getD i .none).depth≤max x.depth (PyData.depthAll xs);omega
 |[],_,h=>absurd h (z0 _)
theorem l7:∀{vs:List Value} {ds:List PyData} {a:List Addr} {i:Nat} (hi:i<vs.length),ReadsAll h vs ds a->∃bs,Reads h vs[i] (ds.getD i .none) bs
 |_,_,_,0,_,.cons r _=>{_,r}
 |_,_,_,i+1,hi,.cons _ t=>l7 (i:=i) (by simpa using hi) t
def r2(h:PyData.canLayAll0 ds=true)(hi:i<ds.length):(ds.getD i .none).canLay0=true :=
 kB (j:=i) h (by rw[qu,qc hi];rfl)
open SeqAt in
theorem KL:∀(n:Nat) (k c:PyData) (A:Around) (s:Shared) (a b:Value) (f bs:List Addr),k.depth≤n->Reads s.heap a k f->Reads s.heap b c bs->k.canLay0=true->c.canLay0=true->sk k c=true->k≠.none →
  A.units+n<cLine->eL A s a b (cH k c)
 |n,.int i,c,A,s,a,b,f,bs,_,ra,rb,_,_,hk,_,_=>by
  cases c <;> simp[sk]at hk;cases ra;cases rb;exact eL.ints _ _ _ _
 |n,.str i,c,A,s,a,b,f,bs,_,ra,rb,_,_,hk,_,_=>by
  cases c <;> simp[sk]at hk;cases ra;cases rb;exact eL.strs _ _ _ _
 |n,.bool i,c,A,s,a,b,f,bs,_,ra,rb,_,_,hk,_,_=>by
  cases c <;> simp[sk]at hk;cases ra;cases rb;exact eL.bools _ _
 |n,.none,c,A,s,a,b,f,bs,_,_,_,_,_,_,hn,_=>absurd rfl hn
 |n,.list _,c,A,s,a,b,f,bs,_,_,_,_,_,hk,_,_=>by cases c <;> simp[sk]at hk
 |n,.dict _,c,A,s,a,b,f,bs,_,_,_,_,_,hk,_,_=>by cases c <;> simp[sk]at hk
 | 0,.tuple xs,c,A,s,a,b,f,bs,hd,_,_,_,_,_,_,_=>by
  have:PyData.depthAll xs+1≤0:=hd;omega
 |n+1,.tuple xs,c,A,s,a,b,f,bs,hd,ra,rb,ca,cb,hk,_,hu=>by
  cases c with
  |tuple ys =>
   have u:gU xs ys=true:=by simpa[sk] using hk
   have t:PyData.depthAll xs≤n:=by
    have:PyData.depthAll xs+1≤n+1:=hd;omega
   cases ra with
   |tuple h1 h2 G r =>
    cases rb with
    |tuple k1 k2 E v =>
     rename_i l o us m J o' vs K
     have D:=ReadsAll.length _ _ _ r;have C:=ReadsAll.length _ _ _ v;rw[zh]at D C
     have e:cH (.tuple xs) (.tuple ys)=a9 xs ys:=by rw[cH]
     rw[e]
     have x:∀j (p:j<us.size) (q:j<vs.size),EqAt A.in1 s us[j] vs[j] (pairEq xs ys j):=λj p q=>by
      obtain⟨F,y⟩:=l7 (i:=j) (by rw[zh];exact p) r;obtain⟨p2,w⟩:=l7 (i:=j) (by rw[zh];exact q) v;have I:=yU xs j ();have:=eqAt_reads (xs.getD j .none) (ys.getD j .none) A.in1 s _ _ _ _ y w (r2 ca ()) (r2 cb ()) (by show A.units+1+_<cLine;omega)
      simp only[Array.getElem_toList]at this
      exact this
     refine eL.tuples {_,h1,h2,_,G} {_,k1,k2,_,E} () x (λi p q B hf=>?_) λB=>?_
     ·obtain⟨F,y⟩:=l7 (i:=i) (by rw[zh];exact p) r
      obtain⟨p2,w⟩:=l7 (i:=i) (by rw[zh];exact q) v;rw[Hq xs ys i () () B hf];have d:=FH xs ys i () () u
      have:=KL n (xs.getD i .none) (ys.getD i .none) A.in1 s _ _ _ _ (qg (yU xs i ()) t) y w (r2 ca ()) (r2 cb ()) d (λz=>by
       have g:PyData.eqv (xs.getD i .none) (ys.getD i .none)=false:=hf;rw[z]at d g
       cases H:ys.getD i .none <;> rw[H]at d g <;> simp[sk,PyData.eqv]at d g) (by show A.units+1+_<cLine;omega)
      simpa using this
     ·rw[J6 xs ys λj h=>B j (),D,C]
  |_=>simp[sk]at hk
end L2
namespace Tim
open PySem PySem.W PyProof.Rows Srt
abbrev S(κ:SortKind)(it:Array Keyed)(p:Array Nat)(pd:Array (Nat×Nat×Nat))(m:Nat):SortSt:=SortSt.mk' κ (p.map (kas_item it)) pd m none
def Ff(prog:Program)(w:World)(A:Around)(s:Shared)(κ:SortKind)(it:Array Keyed)(n:Nat)(lt:Nat->Nat->Bool):Prop :=
 ∀i j (C:Bool->Shared->Prop),i<n->j<n->C (lt i j) s->kas_cmp prog w A κ it i j C s
def In(n:Nat)(p:Array Nat):Prop:=∀i,i<p.size->g p i<n
section
variable {prog:Program}{w:World}{A:Around}{E:Value->Shared->Prop}{s:Shared}{κ:SortKind}{it:Array Keyed}{n:Nat}{lt:Nat->Nat->Bool}{p:Array Nat}{pd:Array (Nat×Nat×Nat)}{mg:Nat}
def Hi(d:Ff prog w A s κ it n lt){i j:Nat}{st:SortSt}{Q:Option Bool->SortSt->Prop}(e:kindOf st=κ)(hi:i<n)(g:j<n)(h:Q (some (lt i j)) st):wpS (model prog w) A E s (lt' (kas_item it i) (kas_item it j)) Q st:=by
 rw[lt'_eq];refine wpS_bind (wpS_get ?_);rw[e];refine wpS_bind (wpS_lift (wpAny_attempt (qH (d i j (λb s'=>s'=s/\b=lt i j) hi g {U,U}) (λc s' a=>?_) λ_ _ f=>f.elim)));obtain⟨rfl,rfl⟩:=a;exact{U,wpS_pure h}
def yG(hi:i<p.size):(p.map (kas_item it))[i]?=some (kas_item it (g p i)):=by
 have e:g p i=p[i]:=by unfold g;simp[Array.getD,hi]
 rw[e]
 simp[hi]
def Ku{i:Nat}{st:SortSt}{Q:Keyed->SortSt->Prop}(hi:i<p.size)(h:Q (kas_item it (g p i)) st):wpS (model prog w) A E s (elem' (p.map (kas_item it)) i) Q st:=by
 rw[elem'_eq,yG hi];exact wpS_pure h
def PK(c:Ff prog w A s κ it n lt)(a:In n p){i j:Nat}{Q:Option Bool->SortSt->Prop}(hi:i<p.size)(b:j<p.size)(h:Q (some (lt (g p i) (g p j))) (S κ it p pd mg)):wpS (model prog w) A E s (ltAt' i j) Q (S κ it p pd mg):=by
 rw[ltAt'_eq];refine wpS_bind (wpS_get ?_);exact wpS_bind (Ku hi (wpS_bind (Ku b (Hi c rfl (a i hi) (a j b) h))))
end
def uM(lt:Nat->Nat->Bool)(lo:Nat)(p:Array Nat)(k:Nat):Prop:=∀i j,lo≤i->i≤j->j<k->lt (g p j) (g p i)=false
section
variable {lt:Nat->Nat->Bool}{lo:Nat}{p:Array Nat}
def up1(W:fF lt):uM lt lo p (lo+1):=λi j h1 h2 a=>by
 have:i=j:=()
 subst this;exact W.ky _
def Np{k:Nat}(W:fF lt)(f:lo+1≤k)(h:uM lt lo p k)(b:lt (g p k) (g p (k - 1))=false):uM lt lo p (k+1):=by
 intro i j h1 a d
 by_cases e:j=k
 ·subst e
  by_cases c:i=j
  ·subst c;exact W.ky _
  ·exact W.dh (h i (j - 1) h1 () ()) b
 ·exact h i j h1 a ()
end
section
variable {prog:Program}{w:World}{A:Around}{E:Value->Shared->Prop}{s:Shared}{κ:SortKind}{it:Array Keyed}{n:Nat}{lt:Nat->Nat->Bool}{p:Array Nat}{pd:Array (Nat×Nat×Nat)}{mg:Nat}{lo nrem:Nat}
def Pn(W:fF lt)(m:Ff prog w A s κ it n lt)(t:In n p){a:Nat}{Q:AscSt->SortSt->Prop}{f:Nat->AscSt->StateT SortSt Sem (ForInStep AscSt)}(hf:∀x (k:Nat),f x (none,k)=(do
      let r ←ltAt' (lo+k) (lo+k - 1)
      match r with
      |some b=>if b=true then pure (ForInStep.done (none,k)) else pure (ForInStep.yield (none,k+1))
      |_=>pure (ForInStep.done (some none,k))))(u:1≤a)(l:a≤nrem)(hz:lo+nrem≤p.size)(o:uM lt lo p (lo+a))(h:∀k,a≤k->k≤nrem->uM lt lo p (lo+k)->(k<nrem->lt (g p (lo+k)) (g p (lo+k - 1))=true)->Q (none,k) (S κ it p pd mg)) :
  wpS (model prog w) A E s (forIn [a:nrem] ((none,a):AscSt) f) Q (S κ it p pd mg):=by
 refine wpS_forRange (I:=λx c i=>i=S κ it p pd mg/\c=(none,x)/\uM lt lo p (lo+x)) ?step ?fin {U,U,o}
 case fin =>
  rintro c i ⟨rfl,rfl,d⟩;rw[show max a nrem=nrem from ()]at d ⊢;exact h nrem l (qb _) d λz=>absurd z (zt _)
 case step =>
  rintro x c i j q ⟨rfl,rfl,d⟩;rw[hf];refine wpS_bind (PK m t () () ?_)
  cases e:lt (g p (lo+x)) (g p (lo+x - 1)) with
  |true =>
   dsimp only;rw[q0 rfl];exact wpS_pure (h x j () d λ_=>e)
  |false =>
   dsimp only;rw[qt ⋯];exact wpS_pure {U,U,Np (k:=lo+x) W () d e}
def lU{α:Type}{c:Prop}[Decidable c]{b a:StateT SortSt Sem α}{Q:α->SortSt->Prop}{st:SortSt}(h1:c->wpS (model prog w) A E s b Q st)(h2:¬c->wpS (model prog w) A E s a Q st):wpS (model prog w) A E s (if c then b else a) Q st:=by
 by_cases h:c
 ·rw[q0 h];exact h1 h
 ·rw[qt h];exact h2 h
end
section
variable {prog:Program}{w:World}{A:Around}{E:Value->Shared->Prop}{s:Shared}{κ:SortKind}{it:Array Keyed}{n:Nat}{lt:Nat->Nat->Bool}{p:Array Nat}{pd:Array (Nat×Nat×Nat)}{mg:Nat}
theorem Jq:∀(f n r:Nat),r≤1->minRun' f n r≤n+r
 | 0,n,r,_=>qb _
 |f+1,n,r,hr=>by
  rw[minRun'_succ]
  split
  ·exact qb _
  ·have:=Jq f (n / 2) (max r (n % 2)) ()
   omega
def MU(W:fF lt)(c:Ff prog w A s κ it n lt)(f:In n p){nrem:Nat}{Q:Option Nat->SortSt->Prop}(h1:1≤nrem)(hz:0+nrem≤p.size)(d:uM lt 0 p (0+nrem))(h:Q (some nrem) (S κ it p pd mg)):wpS (model prog w) A E s (countRun' 0 nrem) Q (S κ it p pd mg):=by
 rw[countRun'_eq];refine wpS_bind (Pn W c f (λx k=>rfl) (qb 1) h1 hz (up1 W) λk k1 k2 up a=>?_);dsimp only
 have b:k=nrem:=by
  by_cases e:k=nrem
  ·exact e
  ·have:=a ()
   rw[d (0+k - 1) (0+k) () () ()]at this;cases this
 rw[q0 (by simpa using b),b];exact wpS_pure h
def nR(W:fF lt)(k:Ff prog w A s κ it n lt)(o:In n p)(hz:2≤p.size)(l:uM lt 0 p (0+p.size)){Q:Unit->SortSt->Prop}(h:∀pd m,Q Unit.unit (S κ it p pd m)) :
  wpS (model prog w) A E s sortRuns' Q (S κ it p #[] 7):=by
 rw[sortRuns'_eq];refine wpS_bind (wpS_get ?_);have hs:(arrOf (S κ it p #[] 7)).size=p.size:=jt ..;dsimp only;rw[hs]
 refine wpS_bind (wpS_mono (wpS_forRange (I:=λx c a=>(x=0/\c=(none,0)/\a=S κ it p #[] 7)\/(c=(none,p.size)/\a=S κ it p #[(0,p.size,0)] 7))
  (Q:=λc a=>c=(none,p.size)/\a=S κ it p #[(0,p.size,0)] 7) ?s0 ?f0 (.inl {U,U,U})) ?p0)
 case f0 =>
  rintro c a (⟨j,_,_⟩|hh)
  ·omega
  ·exact hh
 case s0 =>
  rintro x c a _ j (⟨rfl,rfl,rfl⟩|⟨rfl,rfl⟩)
  ·dsimp only
   refine lU (λd=>absurd d ()) λb=>?_;refine wpS_bind (MU W k o () () (by rw[vh];exact l) ?_);dsimp only;refine lU (λe=>absurd e (by have:=Jq p.size p.size 0 ⋯;omega)) λi=>?_;refine wpS_bind (wpS_get ?_)
   split
   ·rename_i g
    have g:(none:Option (Nat×Nat×Nat))=_:=g;cases g
   ·refine wpS_bind (wpS_modify (wpS_pure (.inr {?_,?_})))
    ·rw[vh,vt]
    ·rw[vh];rfl
  ·dsimp only
   refine lU (λd=>wpS_pure {U,U}) λb=>absurd b ()
 case p0 =>
  rintro c a ⟨rfl,rfl⟩;dsimp only;refine wpS_bind (wpS_mono (wpS_forRange (I:=λx c a=>c=(none,Unit.unit)/\a=S κ it p #[(0,p.size,0)] 7) (Q:=λc a=>c=(none,Unit.unit)/\a=S κ it p #[(0,p.size,0)] 7) ?s1 (λc a z=>z) {U,U}) ?p1)
  case s1 =>
   rintro y c a _ r ⟨rfl,rfl⟩;refine wpS_bind (wpS_get ?_);refine lU (λq=>wpS_pure {U,U}) λf=>absurd (show(1:Nat)≤1 from qb 1) f
  case p1 =>
   rintro c a ⟨rfl,rfl⟩;exact wpS_pure (h _ _)
end
end Tim
namespace L2
open PySem PySem.Spec PySem.W PyProof.Rows
section
variable {prog:Program}{w:World}{A:Around}{E:Value->Shared->Prop}{s:Shared}
def kz(h h':Heap):Prop:=∀b o,h.get? b=some o->h'.get? b=some o
def kz.trans(a:kz h h')(b:kz h' d):kz h d:=λc o e=>b c o (a c o e)
theorem kz.push(h:Heap)(o:Obj):kz h (h.push o):=λ_ _ e=>qC _ e
def kz.upd{h h':Heap}{a:Addr}{f:Obj->Obj}(x:kz h h')(c:h.objs.size≤a):kz h (h'.update a f):=λb o e=>by
 rw[Heap.get?_update_ne _ _ _ _ (qd (zc (qB e) c))];exact x b o e
def Answers(prog:Program)(w:World)(A:Around)(s:Shared)(ks:List Value)(lt:Nat->Nat->Bool):Prop :=
 ∃κ,(∀(Q:SortKind->Shared->Prop),Q κ s->wpAny (model prog w) A (keyKind' ks.toArray) Q (λ_ _=>False) s)/\∀i j C,i<ks.length->j<ks.length->C (lt i j) s->kas_ask prog w A κ ks i j C s
def Arr(n:Nat)(lt:Nat->Nat->Bool)(p:Array Nat):Prop:=p.Perm (List.toArray (List.range n))/\Srt.Up lt p n
def Q0{lt:Nat->Nat->Bool}(W:Srt.fF lt)(h:n<2):Arr n lt (List.toArray (List.range n)):=by
 refine{.refl _,λi j a b=>?_}
 have:i=j:=()
 subst this;exact W.ky _
def Rv(lt:Nat->Nat->Bool)(n:Nat):Prop:=n<64\/∀i j,i≤j->j<n->lt j i=false
def Mt{vs ks:List Value}{lt:Nat->Nat->Bool}(W:Srt.fF lt)(f:ks.length=vs.length)(b:Rv lt vs.length)(h2:¬vs.length<2){κ:SortKind}(t:∀i j C,i<ks.length->j<ks.length->C (lt i j) s->kas_ask prog w A κ ks i j C s){R:SortSt->Shared->Prop}(u:∀st p,Arr vs.length lt p->(arrOf st).map (·.2)=List.toArray (p.toList.map λi=>vs.getD i Value.none)->failedOf st=none->R st s) :
  wpAny (model prog w) A ((sortRuns').run (SortSt.mk' κ (ks.toArray.zip vs.toArray) #[] 7 none)) (λr s'=>R r.2 s') E s:=by
 rcases b with b|up
 ·refine kat_run (G:=λp s'=>s'=s/\Arr vs.length lt p) f () b (λp st s' _ a2 z v=>?_) ?_
  ·obtain⟨rfl,y⟩:=v
   exact u st p y (kat_snds f a2) z
  ·exact(Srt.rO W ()).wp (λi j C h1 B c=>t i j C () () c) λp x=>{U,x}
 have hz:(List.toArray (List.range vs.length)).size=vs.length:=by simp
 have l:Tim.Ff prog w A s κ (ks.toArray.zip vs.toArray) vs.length lt:=λi j C h1 h2 c=>by
  have:=t i j C () () c;rw[kat_ask_eq f]at this;exact this
 have d:∀i,i<vs.length->Srt.g (List.toArray (List.range vs.length)) i=i:=λi hi=>by
  unfold Srt.g;rw[we]
  simp[hi]
 have n:Tim.In vs.length (List.toArray (List.range vs.length)):=λi hi=>by
  rw[hz]at hi;rw[d i hi];exact hi
 have o:=Tim.nR (E:=E) (Q:=λ_ st=>R st s) W l n (by rw[hz];omega) (λi j _ a k=>by rw[hz]at k;rw[d i (),d j ()];exact up i j a ()) λpd m=>?_
 ·have q:SortSt.mk' κ (ks.toArray.zip vs.toArray) #[] 7 none=Tim.S κ (ks.toArray.zip vs.toArray) (List.toArray (List.range vs.length)) #[] 7:=by
   have e:=kas_range (ks.toArray.zip vs.toArray);rw[show(ks.toArray.zip vs.toArray).size=vs.length by simp[f]]at e;rw[Tim.S,e]
  rw[q];refine qH o (λr s' h=>?_) λ_ _ e=>e;rw[h.1];exact h.2
 ·exact u _ _ {.refl _,λi j a k=>by rw[d i (),d j k];exact up i j a k} (kat_snds f rfl) rfl
end
def Ke(h:n≤2000):n<sizeLine:=wb h ⋯
def sD:Nat->PyData->Prop
 | 0,.int _=>True
 | 1,.str _=>True
 | 2,.tuple (.int _::_)=>True
 | 3,.tuple (.str _::_)=>True
 | 4,.tuple (.tuple _::_)=>True
 |_,_=>False
def OQ(t:Nat)(d:PyData):¬sD (t+5) d:=by
 intro h
 cases d with
 |tuple xs =>
  cases xs with
  |nil=>exact h
  |cons x xs=>cases x <;> exact h
 |_=>exact h
section
variable {prog:Program}{w:World}{A:Around}{s:Shared}
def QF(h:eL A s x y c)(q:Q c s):wpAny (model prog w) A (oneLt' false x y) Q E s :=
 kat_one x y (h prog w E _ q)
def C8:∀(us vs:List Value) (xs ys:List PyData) (t bs:List Addr) (i:Nat),ReadsAll s.heap us xs t->ReadsAll s.heap vs ys bs->PyData.canLayAll0 xs=true->PyData.canLayAll0 ys=true->gU xs ys=true →
  PyData.depthAll xs≤60->A.units+60<cLine->(i=0->b=true->(∃p q r g,xs=.int p::r/\ys=.int q::g)\/∃p q r g,xs=.str p::r/\ys=.str q::g)->c=decide (us.length<vs.length)->Q (a9 xs ys) s->KatLex prog w A b c Q (us.zip vs) i s:=by
 intro us
 induction us with
 |nil =>
  intro vs xs ys t bs i j l _ _ _ _ _ _ hf q;cases j;have o:=SeqAt.ReadsAll.length _ _ _ l;show Q c s;rw[hf]
  cases ys with
  |nil=>rw[vd]at o ⊢;rw[o];exact q
  |cons y ys=>rw[o];exact q
 |cons u us I =>
  intro vs xs ys t bs i j l G cb k hd E H hf q
  cases vs with
  |nil =>
   cases l;cases j;show Q c s;rw[hf];exact q
  |cons v vs =>
   cases j with
   |@cons _ _ x xs _ _ n t1 =>
    cases l with
    |@cons _ _ y ys _ _ m t2 =>
     have a:(x.canLay0&&PyData.canLayAll0 xs)=true:=G;have d:(y.canLay0&&PyData.canLayAll0 ys)=true:=cb;rw[ze]at a d;rw[gU,ze]at k
     have h:x.depth≤60/\PyData.depthAll xs≤60:=by
      have:max x.depth (PyData.depthAll xs)≤60:=hd;omega
     have C:=SeqAt.eqAt_reads x y A s u v _ _ n m a.1 d.1 ();refine kat_cons (C prog w _ _ ?_)
     cases e:PyData.eqv x y with
     |true =>
      rw[a9,q0 e]at q;refine kat_yes (I vs xs ys _ _ (i+1) t1 t2 a.2 d.2 k.2 h.2 E (λz=>()) ?_ q);rw[hf]
      simp
     |false =>
      rw[a9,qt (by rw[e];decide)]at q;refine kat_no ?_
      by_cases f:(b&&i==0)=true
      ·rw[f]
       rw[ze]at f;rcases H (by simpa using f.2) f.1 with⟨p,F,r,g,B,D⟩|⟨p,F,r,g,B,D⟩
       ·cases B;cases D
        cases n;cases m;exact oneLt_int q
       ·cases B;cases D
        cases n;cases m;exact oneLt_str q
      ·rw[Bool.not_eq_true]at f
       rw[f]
       exact QF (KL 60 x y A s u v _ _ h.1 n m a.1 d.1 k.1 (λz=>by
        subst z;have:=k.1
        cases y <;> simp[sk,PyData.eqv]at this e) E) q
theorem IC:∀{vs:List Value} {ds:List PyData} {k:List Addr},ReadsAll s.heap vs ds k->(∀d∈ds,∃f r,d=.tuple (f::r))->∃fs,KatTups s.heap vs fs/\fs.length=vs.length/\∀v∈fs,∃f r bs,PyData.tuple (f::r)∈ds/\Reads s.heap v f bs
 |[],_,_,.nil,_=>{[],trivial,U,λ_ z=>nomatch z}
 |v::vs,_,_,.cons (d:=d) (ds:=ds) r t,h=>by
  obtain⟨fs,k1,k2,l⟩:=IC t λx j=>h x (qo _ j);obtain⟨f,p,e⟩:=h d ql;subst e
  cases r with
  |tuple h1 h2 y b =>
   rename_i a o us n
   cases e:us.toList with
   |nil=>rw[e]at b;cases b
   |cons u A =>
    rw[e]at b
    cases b with
    |cons i B =>
     refine{u::fs,KatTups.cons h1 h2 y (by rw[←zu,e];rfl) k1,by rw[qr,qr,k2],λv c=>?_};rcases qv.mp c with rfl|c
     ·exact⟨f,p,_,ql,i⟩
     ·obtain⟨w,g,bs,m,q⟩:=l v c
      exact{w,g,bs,qo _ m,q}
def dq(ds:List PyData)(i:Nat):PyData:=ds.getD i (ds.headD .none)
def KC(h:ds≠[])(i:Nat):dq ds i∈ds:=by
 unfold dq;rw[qu]
 cases e:ds[i]? with
 |some x=>exact qk e
 |none =>
  cases ds with
  |nil=>exact absurd rfl h
  |cons a b=>exact ql
def mx(ds:List PyData)(i j:Nat):Bool:=cH (dq ds i) (dq ds j)
def DI(h:∀a∈ds,∀b∈ds,sk a b=true):Srt.fF (mx ds):=by
 by_cases e:ds=[]
 ·subst e
  exact{λ_=>rfl,λ_ _ _ z=>(by cases z),λ_ _ _ z=>(by cases z)}
 ·have m:=KC e
  exact{λ_=>o5 _,λa b c=>Ln _ _ _ (h _ (m a) _ (m b)) (h _ (m b) _ (m c)) (h _ (m a) _ (m c)),λa b c=>KA _ _ _ (h _ (m a) _ (m b)) (h _ (m b) _ (m c)) (h _ (m a) _ (m c))}
structure KeysAre(ds:List PyData)(t:Nat):Prop where
 lay:PyData.canLayAll0 ds=true
 kind:∀d∈ds,sD t d
 one:∀a∈ds,∀b∈ds,sk a b=true
 deep:∀d∈ds,d.depth≤60
def C6(r:Reads h v (.int i) a):∃t,v=.int i t:=by cases r;exact{_,U}
def EN(r:Reads h v (.str i) a):∃t,v=.str i t:=by cases r;exact{_,U}
def GS(r:Reads h v (.tuple xs) b):∃a o vs n,v=.ref a/\h.get? a=some o/\o.cls=.type "tuple" /\ o.data=.seq vs n/\ReadsAll h vs.toList xs b:=by
 cases r with
 |tuple e c d f=>exact{_,_,_,_,U,e,c,d,f}
def qT(h:sD 0 d):∃i,d=.int i:=by cases d <;> first|exact⟨_,U⟩|exact h.elim
def qU(h:sD 1 d):∃i,d=.str i:=by cases d <;> first|exact⟨_,U⟩|exact h.elim
def o6{t:Nat}(h:sD t d)(a:2≤t):∃f r,d=.tuple (f::r):=by
 unfold sD at h
 split at h <;> first|exact⟨_,_,U⟩|omega|exact h.elim
def L4(h:sD 2 d):∃p r,d=.tuple (.int p::r):=by
 obtain⟨f,r,rfl⟩:=o6 h ⋯
 cases f <;> first|exact⟨_,_,U⟩|exact h.elim
def HY(h:sD 3 d):∃p r,d=.tuple (.str p::r):=by
 obtain⟨f,r,rfl⟩:=o6 h ⋯
 cases f <;> first|exact⟨_,_,U⟩|exact h.elim
def Jl(h:sD 4 d):∃p r,d=.tuple (.tuple p::r):=by
 obtain⟨f,r,rfl⟩:=o6 h ⋯
 cases f <;> first|exact⟨_,_,U⟩|exact h.elim
def Oq{t:Nat}(r:ReadsAll s.heap ks ds as)(K:KeysAre ds t)(h2:2≤ks.length)(hu:A.units+60<cLine):Answers prog w A s ks (mx ds):=by
 have hl:=SeqAt.ReadsAll.length _ _ _ r
 have look:∀i,i<ks.length->∃bs,Reads s.heap (ks.getD i Value.none) (dq ds i) bs/\dq ds i∈ds:=λi hi=>by
  obtain⟨bs,q⟩:=l7 hi r
  have l:ks.getD i Value.none=ks[i]:=by simp[hi]
  have h:dq ds i=ds.getD i .none:=by
   have L:i<ds.length:=()
   unfold dq;rw[qu,qu,qc L];rfl
  refine{bs,by rw[l,h];exact q,KC (λz=>?_) i};rw[z,vd]at hl;omega
 have B:∀v∈ks,∃d bs,d∈ds/\Reads s.heap v d bs:=λv H=>by
  obtain⟨i,hi,e⟩:=zv.mp H;obtain⟨bs,q,m⟩:=look i hi;exact{_,bs,m,by rw[←e];simpa[hi] using q}
 have D:∀d∈ds,d.canLay0=true:=λd hd=>by
  obtain⟨i,hi,e⟩:=zv.mp hd;exact kB (j:=i) K.lay (by rw[qc hi,e])
 have bK:(∀d∈ds,∃f r,d=.tuple (f::r))->(T:Value)->(∀v f bs r,Reads s.heap v f bs->PyData.tuple (f::r)∈ds->Looks (model prog w) s.heap (typeOf v) T)->(T==T)=true →
   ((T != Value.type "tuple")=true->∀d∈ds,∀d'∈ds,(∃p q r b,d=.tuple (.int p::r)/\d'=.tuple (.int q::b))\/∃p q r b,d=.tuple (.str p::r)/\d'=.tuple (.str q::b))->Answers prog w A s ks (mx ds):=λh1 T N X S=>by
  obtain⟨fs,k1,k2,Z⟩:=IC r h1;refine{tuples' (T != Value.type "tuple"),λQ q=>kat_kind k1 () (λv H=>?_) X q,λi j C hi I c=>?_}
  ·obtain⟨f,b,bs,m,q⟩:=Z v H
   exact N v f bs b q m
  ·obtain⟨W,u,n⟩:=look i hi
   obtain⟨U,o,x⟩:=look j I;unfold mx at c;obtain⟨f1,J,l⟩:=h1 _ n;obtain⟨f2,G,h⟩:=h1 _ x;have V:=K.deep _ n;have kk:=K.one _ n _ x;have E:=D _ n;have y:=D _ x;have O:=λz=>S z _ n _ x;rw[l]at u V kk E O c;rw[h]at o kk y O c;unfold kas_ask;obtain⟨a1,o1,v1,n1,g,x1,x2,x3,x4⟩:=GS u;obtain⟨a2,o2,v2,n2,k,y1,y2,y3,Y⟩:=GS o;rw[g,k];refine kat_lt x1 x3 y1 y3 (C8 _ _ _ _ _ _ 0 x4 Y E y (by simpa[sk] using kk) ?_ hu (λ_ z=>?_) (by simp) (by rw[cH]at c;exact c))
   ·have:PyData.depthAll (f1::J)+1≤60:=V
    omega
   ·rcases O z with⟨p,q,r,b,P,R⟩|⟨p,q,r,b,P,R⟩
    ·exact .inl ⟨p,q,r,b,PyData.tuple.inj P,PyData.tuple.inj R⟩
    ·exact .inr ⟨p,q,r,b,PyData.tuple.inj P,PyData.tuple.inj R⟩
 match t,K.kind with
 | 0,hk =>
  refine{oneType',λQ q=>kas_kind (T:=Value.type "int") h2 (λv H=>?_) rfl rfl q,λi j C hi I c=>?_}
  ·obtain⟨d,bs,m,q⟩:=B v H
   obtain⟨_,rfl⟩:=qT (hk d m);obtain⟨_,rfl⟩:=C6 q;exact Looks.of_pure rfl
  ·obtain⟨W,u,n⟩:=look i hi
   obtain⟨U,o,x⟩:=look j I;unfold mx at c;unfold kas_ask;obtain⟨_,l⟩:=qT (hk _ n);obtain⟨_,h⟩:=qT (hk _ x);rw[l]at u c;rw[h]at o c;obtain⟨_,g⟩:=C6 u;obtain⟨_,k⟩:=C6 o;rw[g,k,keyLt'_oneType];exact oneLt_int c
 | 1,hk =>
  refine{oneType',λQ q=>kas_kind (T:=Value.type "str") h2 (λv H=>?_) rfl rfl q,λi j C hi I c=>?_}
  ·obtain⟨d,bs,m,q⟩:=B v H
   obtain⟨_,rfl⟩:=qU (hk d m);obtain⟨_,rfl⟩:=EN q;exact Looks.of_pure rfl
  ·obtain⟨W,u,n⟩:=look i hi
   obtain⟨U,o,x⟩:=look j I;unfold mx at c;unfold kas_ask;obtain⟨_,l⟩:=qU (hk _ n);obtain⟨_,h⟩:=qU (hk _ x);rw[l]at u c;rw[h]at o c;obtain⟨_,g⟩:=EN u;obtain⟨_,k⟩:=EN o;rw[g,k,keyLt'_oneType];exact oneLt_str c
 | 2,hk =>
  have a:∀d∈ds,∃p r,d=.tuple (.int p::r):=λd hd=>L4 (hk d hd);refine bK (λd hd=>let⟨p,r,e⟩:=a d hd;{_,r,e}) (Value.type "int") (λv f bs b q m=>?_) rfl λ_ d hd d' F=>?_
  ·obtain⟨p,G,e⟩:=a _ m
   cases e;cases q;exact Looks.of_pure rfl
  ·obtain⟨p,J,l⟩:=a d hd
   obtain⟨q,G,h⟩:=a d' F;exact .inl {p,q,J,G,l,h}
 | 3,hk =>
  have a:∀d∈ds,∃p r,d=.tuple (.str p::r):=λd hd=>HY (hk d hd);refine bK (λd hd=>let⟨p,r,e⟩:=a d hd;{_,r,e}) (Value.type "str") (λv f bs b q m=>?_) rfl λ_ d hd d' F=>?_
  ·obtain⟨p,G,e⟩:=a _ m
   cases e;cases q;exact Looks.of_pure rfl
  ·obtain⟨p,J,l⟩:=a d hd
   obtain⟨q,G,h⟩:=a d' F;exact .inr {p,q,J,G,l,h}
 | 4,hk =>
  have a:∀d∈ds,∃p r,d=.tuple (.tuple p::r):=λd hd=>Jl (hk d hd)
  refine bK (λd hd=>let⟨p,r,e⟩:=a d hd;{_,r,e}) (Value.type "tuple") (λv f bs b q m=>?_) rfl λz=>absurd z ⋯
  obtain⟨p,G,e⟩:=a _ m;cases e
  cases q with
  |tuple h1 h2 X S =>
   have:=(Looks.ld (M:=model prog w) (part:=none) h1);rw[←h2];exact(Looks.ld h1).andThen .now
 |t+5,hk =>
  exfalso;obtain⟨bs,q,m⟩:=look 0 ();exact OQ t _ (hk _ m)
end
def fS(ds:List PyData)(ix:List Nat):Prop:=ix.Perm (List.range ds.length)/\(ix.map (dq ds)).Pairwise λa b=>cH b a=false
def Mz(h:Arr ds.length (mx ds) p):fS ds p.toList:=by
 have hs:p.size=ds.length:=by rw[h.1.size_eq];simp
 refine{by simpa using h.1.toList,?_};rw[wk];intro i j hi a b;rw[qa,zh]at hi a;have:=h.2 i j () ();unfold mx Srt.g at this;rw[List.getElem_map,List.getElem_map];simpa[Array.getD,hi,a] using this
def N7(r:aA ys us)(ix:List Nat)(h:∀i∈ix,i<ys.length):aA (ix.map λi=>ys.getD i .aT) (ix.map λi=>us.getD i Value.none):=by
 induction ix with
 |nil=>exact .nil
 |cons i ix b =>
  have hi:=h i ql;obtain⟨u,a,c⟩:=r.get (i:=i) (x:=ys[i]) (qc hi);refine .cons ?_ (b λj d=>h j (qo _ d));show RelV (ys.getD i .aT) (us.getD i Value.none);rw[qu,qu,a,qc hi];exact c
section
variable {P:Program}{w:World}{A:Around}{E:Value->Shared->Prop}{s:Shared}
def dS(P:Program)(w:World)(h:Heap)(ks b:List Key)(a:Addr):Prop:=∃o c d n,h.get? a=some o/\o.cls=.type "tuple" /\ o.data=.seq #[.ref c,.ref d] n/\(tupleKind (ag P w)).is h ks c/\(tupleKind (ag P w)).is h b d
def eM(P:Program)(w:World)(h:Heap):KD->Value->Prop
 |.aT,v=>v=.none
 |.int i,v=>∃t,v=.int i t
 |.tup ks,v=>∃a,v=.ref a/\(tupleKind (ag P w)).is h ks a
 |.two ks ls,v=>∃a,v=.ref a/\dS P w h ks ls a
def dr(P:Program)(w:World):KD->Nat
 |.aT=>1
 |.int _=>1
 |.tup ks=>(tupleKind (ag P w)).draws ks
 |.two ks ls=>(tupleKind (ag P w)).draws ks+(tupleKind (ag P w)).draws ls+1
def FJ{ks g b f:List Key}(x:dS P w h ks g a)(y:dS P w h b f a):ks=b/\g=f:=by
 obtain⟨o,c,d,n,h1,h2,r,p,q⟩:=x;obtain⟨o',s,d',t,k1,k2,i,k,j⟩:=y;rw[h1]at k1;cases k1;rw[r]at i;injection i with e _
 have l:c=s:=by have:=congrArg (λz:Array Value=>z[0]?) e;simpa using this
 have m:d=d':=by have:=congrArg (λz:Array Value=>z[1]?) e;simpa using this
 subst l m;exact{(tupleKind (ag P w)).inj p k,(tupleKind (ag P w)).inj q j}
def tf(x:dS P w h ks i a)(y:(tupleKind (ag P w)).is h js a):False:=by
 obtain⟨o,c,d,n,h1,h2,j,k,m⟩:=x;obtain⟨o',f,l,k1,k2,b,g⟩:=y;rw[h1]at k1;cases k1;rw[j]at b;injection b with e _;subst e;have:=g.byValue (.ref c) (by simp);cases this
def NK(x:ItemsAre (ag P w) ks vs):ItemsAre (ag a c) ks vs:=by
 induction x with
 |nil=>exact .nil
 |cons h _ b=>exact .cons h b
def Jy(x:(tupleKind (ag P w)).is h ks a):(tupleKind (ag e c)).is h ks a:=by
 obtain⟨o,b,n,h1,h2,f,d⟩:=x;exact{o,b,n,h1,h2,f,NK d}
def tF(d:A.units<cLine)(x:(tupleKind (ag P w)).is s.heap ks a)(y:(tupleKind (ag P w)).is s.heap c b):SeqAt.EqAt A s (.ref a) (.ref b) (decide (ks=c)):=λe f E Q q=>(tupleKind (ag e f)).eqBool d (Jy x) (Jy y) q
def dS.tuple(x:dS P w h ks b a):∃c d,h.IsTuple a #[.ref c,.ref d]/\(tupleKind (ag P w)).is h ks c/\(tupleKind (ag P w)).is h b d:=by
 obtain⟨o,c,d,n,h1,h2,f,e,g⟩:=x;exact{c,d,{o,h1,h2,n,f},e,g}
def l9(x:(tupleKind (ag P w)).is h ks a):∃b,h.IsTuple a b/\ItemsAre (ag P w) ks b.toList:=by
 obtain⟨o,b,n,h1,h2,d,c⟩:=x;exact{b,{o,h1,h2,n,d},c}
def NH{ks h f g:List Key}(k:A.units+1<cLine)(x:dS P w s.heap ks h a)(y:dS P w s.heap f g b):SeqAt.EqAt A s (.ref a) (.ref b) (decide (KD.two ks h=KD.two f g)):=by
 by_cases i:a=b
 ·subst i
  obtain⟨rfl,rfl⟩:=FJ x y;rw[qA rfl];exact SeqAt.EqAt.same _
 ·obtain⟨c,d,t1,h1,h2⟩:=x.tuple
  obtain⟨l,d',t2,k1,k2⟩:=y.tuple
  have e:decide (KD.two ks h=KD.two f g)=((List.range (min (#[Value.ref c,.ref d]:Array Value).size (#[Value.ref l,.ref d']:Array Value).size)).all (λj=>if j=0 then decide (ks=f) else decide (h=g))&&(#[Value.ref c,.ref d]:Array Value).size==(#[Value.ref l,.ref d']:Array Value).size):=by
   show _=((if 0=0 then decide (ks=f) else decide (h=g))&&((if 1=0 then decide (ks=f) else decide (h=g))&&true)&&true);rw[q0 rfl,qt ⋯,Bool.and_true,Bool.and_true,wn]
   simp
  rw[e];refine SeqAt.EqAt.of_refs i (SeqAt.RcAt.tuples t1 t2 () λj n m=>?_)
  match j,n,m with
  | 0,_,_=>exact tF (show A.in1.units<cLine from k) h1 k1
  | 1,_,_=>exact tF (show A.in1.units<cLine from k) h2 k2
def Dj(h:0<m):((List.range (min m n)).all (λ_=>false)&&m==n)=false:=by
 by_cases e:m=n
 ·subst e
  rw[yj]
  cases m with
  |zero=>omega
  |succ m=>rw[ju];rfl
 ·rw[show(m==n)=false from beq_eq_false_iff_ne.mpr e,Bool.and_false]
def Qc(h:0<m):((List.range (min n m)).all (λ_=>false)&&n==m)=false:=by
 by_cases e:n=m
 ·subst e
  rw[yj]
  cases n with
  |zero=>omega
  |succ m=>rw[ju];rfl
 ·rw[show(n==m)=false from beq_eq_false_iff_ne.mpr e,Bool.and_false]
def LR(x:ItemsAre (ag P w) ks vs):∀(j:Nat) v,vs[j]?=some v->(∃i t,v=.int i t)\/∃z t,v=.str z t:=by
 induction x with
 |nil=>intro j v e;cases e
 |cons h _ a =>
  intro j v e
  cases j with
  |zero =>
   cases e;rcases iq (show hE _ _=true from h) with⟨i,t,_,e⟩|⟨z,t,_,e⟩
   ·exact .inl ⟨i,t,e⟩
   ·exact .inr ⟨z,t,e⟩
  |succ j=>exact a j v (by simpa using e)
def Pq(q:A.units+1<cLine)(x:dS P w s.heap ks r a)(y:(tupleKind (ag P w)).is s.heap js b):SeqAt.EqAt A s (.ref a) (.ref b) false:=by
 have k:a≠b:=λz=>by subst z;exact tf x y
 obtain⟨c,d,t1,h1,h2⟩:=x.tuple;obtain⟨g,t2,k1⟩:=l9 y;have e:false=((List.range (min (#[Value.ref c,.ref d]:Array Value).size g.size)).all (λ_=>false)&&(#[Value.ref c,.ref d]:Array Value).size==g.size):=(Dj (m:=2) ⋯).symm;rw[e];refine SeqAt.EqAt.of_refs k (SeqAt.RcAt.tuples t1 t2 () λj p n=>?_);obtain⟨i1,l,_⟩:=l9 h1;obtain⟨i2,o,_⟩:=l9 h2;have h:=LR k1 j g[j] (by rw[zu,zp n]);have f:A.in1.units<cLine:=q
 match j,p,n,h with
 | 0,_,_,h =>
  rcases h with⟨i,t,e⟩|⟨z,t,e⟩
  ·rw[e];exact SeqAt.EqAt.tuple_int i t l f
  ·rw[e];exact SeqAt.EqAt.tuple_str z t l f
 | 1,_,_,h =>
  rcases h with⟨i,t,e⟩|⟨z,t,e⟩
  ·rw[e];exact SeqAt.EqAt.tuple_int i t o f
  ·rw[e];exact SeqAt.EqAt.tuple_str z t o f
def QM(q:A.units+1<cLine)(y:(tupleKind (ag P w)).is s.heap js a)(x:dS P w s.heap ks r b):SeqAt.EqAt A s (.ref a) (.ref b) false:=by
 have k:a≠b:=λz=>by subst z;exact tf x y
 obtain⟨c,d,t1,h1,h2⟩:=x.tuple;obtain⟨g,t2,k1⟩:=l9 y;have e:false=((List.range (min g.size (#[Value.ref c,.ref d]:Array Value).size)).all (λ_=>false)&&g.size==(#[Value.ref c,.ref d]:Array Value).size):=(Qc (m:=2) ⋯).symm;rw[e];refine SeqAt.EqAt.of_refs k (SeqAt.RcAt.tuples t2 t1 () λj n p=>?_);obtain⟨i1,l,_⟩:=l9 h1;obtain⟨i2,o,_⟩:=l9 h2;have h:=LR k1 j g[j] (by rw[zu,zp n]);have f:A.in1.units<cLine:=q
 match j,p,n,h with
 | 0,_,_,h =>
  rcases h with⟨i,t,e⟩|⟨z,t,e⟩
  ·rw[e];exact SeqAt.EqAt.int_tuple i t l f
  ·rw[e];exact SeqAt.EqAt.str_tuple z t l f
 | 1,_,_,h =>
  rcases h with⟨i,t,e⟩|⟨z,t,e⟩
  ·rw[e];exact SeqAt.EqAt.int_tuple i t o f
  ·rw[e];exact SeqAt.EqAt.str_tuple z t o f
def Pg(i:A.units+1<cLine)(m:dS P w s.heap ks f a)(h:Q (bg P w (.two ks f)) { s with toks:=s.toks+((tupleKind (ag P w)).draws ks+(tupleKind (ag P w)).draws f+1) }):wpAny (model P w) A (pyHash (.ref a)) Q E s:=by
 obtain⟨o,c,d,n,k,l,hd,h1,h2⟩:=m;have j:s.TypeIs (.ref a) "tuple":={o,k,l};unfold pyHash;unfold pyHashByItsType;refine qq (wpAny_cRoomFor_or (.inr ()) ?_);refine qq (wpAny_specialOf j F.slot_tuple_hash.lookup ?_);show wpAny _ _ (if(some (Value.builtin "tuple.__hash__")==some Value.none)=true then _ else _) Q E s;rw[qt (by rw[beq_builtin_none];exact qp)];refine qq (wpAny_specialOf j F.slot_tuple_hash.lookup ?_);show wpAny _ _ (callSpecialIfBoundUnlessNone? (.ref a) "__hash__" _ >>= _) Q E s;refine qq (wpAny_callSpecialIfBoundUnlessNone?_slot j F.slot_tuple_hash (qI F.slot_tuple_hash j F.entry_tuple_hash ?_ (F.args_tuple_hash_1 _)));show wpAny _ _ (Builtin.Tuple.tupleItemsOf (.ref a) >>= _) _ _ s;refine qq (wpAny_tupleItemsOf k hd ?_);refine qq ?_;rw[←yk]
 refine wpAny_forIn_list _
  (λrest (b:Array Int) s'=>(rest=[.ref c,.ref d]/\b.toList=[]/\s'=s)\/(rest=[.ref d]/\b.toList=[(tupleKind (ag P w)).hash ks]/\s'={ s with toks:=s.toks+(tupleKind (ag P w)).draws ks })\/(rest=[]/\b.toList=[(tupleKind (ag P w)).hash ks,(tupleKind (ag P w)).hash f]/\s'={ s with toks:=s.toks+(tupleKind (ag P w)).draws ks+(tupleKind (ag P w)).draws f }))
  _ ?_ ?_ _ _ (.inl {U,U,U})
 ·rintro x rest b s' (⟨e,hb,rfl⟩|⟨e,hb,rfl⟩|⟨e,hb,rfl⟩)
  ·cases e
   refine qq ((tupleKind (ag P w)).pyHash (show _<cLine by first|exact i|(show A.units+1<cLine;exact i)) h1 ?_)
   first
    |exact qs (.inr (.inl ⟨U,by simp[hb],U⟩))
    |exact qq (qs (qs (.inr (.inl ⟨U,by simp[hb],U⟩))))
  ·cases e
   refine qq ((tupleKind (ag P w)).pyHash (s:={ s with toks:=s.toks+(tupleKind (ag P w)).draws ks }) (show _<cLine by first|exact i|(show A.units+1<cLine;exact i)) h2 ?_)
   first
    |exact qs (.inr (.inr ⟨U,by simp[hb],U⟩))
    |exact qq (qs (qs (.inr (.inr ⟨U,by simp[hb],U⟩))))
  ·cases e
 ·rintro b s' (⟨e,hb,rfl⟩|⟨e,hb,rfl⟩|⟨e,hb,rfl⟩)
  ·cases e
  ·cases e
  ·show wpAny _ _ (retInt (Builtin.Tuple.tupleHashOf b.toList)) _ _ _
   rw[hb];refine wpAny_ret_mkInt ?_;show wpAny _ _ (if(decide (-(2:Int) ^ 63≤Builtin.Tuple.tupleHashOf [(tupleKind (ag P w)).hash ks,(tupleKind (ag P w)).hash f])&&decide (Builtin.Tuple.tupleHashOf [(tupleKind (ag P w)).hash ks,(tupleKind (ag P w)).hash f]<2 ^ 63))=true then _ else _) Q E _;have h:Q (reduceHash (Builtin.Tuple.tupleHashOf [(tupleKind (ag P w)).hash ks,(tupleKind (ag P w)).hash f])) { s with toks:=s.toks+((tupleKind (ag P w)).draws ks+(tupleKind (ag P w)).draws f+1) }:=h;unfold reduceHash at h
   by_cases g:(decide (-(2:Int) ^ 63≤Builtin.Tuple.tupleHashOf [(tupleKind (ag P w)).hash ks,(tupleKind (ag P w)).hash f])&&decide (Builtin.Tuple.tupleHashOf [(tupleKind (ag P w)).hash ks,(tupleKind (ag P w)).hash f]<2 ^ 63))=true
   ·rw[q0 g]
    rw[q0 g]at h;exact qs (by simpa[Nat.add_assoc] using h)
   ·rw[qt g]
    rw[qt g]at h;exact qq (wpAny_rule (qs (by simpa[Nat.add_assoc] using h)))
def rC(i:(tupleKind (ag P w)).is s.heap ks a)(h:Q true s):wpAny (model P w) A (eqIsQuiet (m+1) (.ref a)) Q E s:=by
 obtain⟨o,items,n,e,g,hd,hi⟩:=i;have f:s.TypeIs (.ref a) "tuple":={o,e,g};unfold eqIsQuiet;refine qq (wpAny_specialOf f F.slot_tuple_eq.lookup ?_);show wpAny _ _ (isInstance (.ref a) (.type "tuple") >>= _) _ _ s;refine qq (wpAny_isInstance f isSubtype_tuple_tuple ?_)
 simp only[Bool.not_true,Bool.false_eq_true,if_false]
 refine qq (wpAny_seqItems e hd ?_);refine qq ?_;show wpAny _ _ (forIn items _ _) _ _ s;rw[←yk];refine wpAny_forIn_list _ (λrest r s'=>r.1=none/\s'=s/\∀v∈rest,carriedByValue v=true) _ ?_ ?_ _ _ {U,U,hi.byValue}
 ·rintro v rest r s' ⟨c,rfl,b⟩
  rw[eqIsQuiet_byValue _ (b v ql)];refine qq (qs ?_)
  simp only[Bool.not_true,Bool.false_eq_true,if_false]
  exact qs {U,U,λu d=>b u (qo _ d)}
 ·rintro⟨k,j⟩ s' ⟨c,rfl,_⟩
  simp only at c
  subst c;exact qs h
def MB{ks t:List Key}(p:dS P w s.heap ks t a)(h:Q true s):wpAny (model P w) A (eqIsQuiet 8 (.ref a)) Q E s:=by
 obtain⟨o,c,d,n,i,k,hd,h1,h2⟩:=p;have j:s.TypeIs (.ref a) "tuple":={o,i,k};unfold eqIsQuiet;refine qq (wpAny_specialOf j F.slot_tuple_eq.lookup ?_);show wpAny _ _ (isInstance (.ref a) (.type "tuple") >>= _) _ _ s;refine qq (wpAny_isInstance j isSubtype_tuple_tuple ?_)
 simp only[Bool.not_true,Bool.false_eq_true,if_false]
 refine qq (wpAny_seqItems i hd ?_);refine qq ?_;show wpAny _ _ (forIn (#[.ref c,.ref d]:Array Value) _ _) _ _ s;rw[←yk];refine wpAny_forIn_list _ (λrest r s'=>r.1=none/\s'=s/\∀v∈rest,v=.ref c\/v=.ref d) _ ?_ ?_ _ _ {U,U,λv x=>by simpa using x}
 ·rintro v rest r s' ⟨e,rfl,b⟩
  have l:∀{g:Bool->Shared->Prop},g true s'->wpAny (model P w) A (eqIsQuiet 7 v) g E s':=λq=>by
   rcases b v ql with rfl|rfl
   ·exact rC (m:=6) h1 q
   ·exact rC (m:=6) h2 q
  refine qq (l ?_)
  simp only[Bool.not_true,Bool.false_eq_true,if_false]
  exact qs ⟨U,U,λu f=>b u (qo _ f)⟩
 ·rintro⟨z,y⟩ s' ⟨e,rfl,_⟩
  simp only at e
  subst e;exact qs h
theorem eM.inj(a:eM P w h x v)(b:eM P w h y v):x=y:=by
 cases x with
 |aT =>
  cases a
  cases y with
  |aT=>rfl
  |int j=>obtain⟨_,e⟩:=b;cases e
  |tup ks=>obtain⟨_,e,_⟩:=b;cases e
  |two ks g=>obtain⟨_,e,_⟩:=b;cases e
 |int i =>
  obtain⟨t,rfl⟩:=a
  cases y with
  |aT=>cases b
  |int j=>obtain⟨_,e⟩:=b;cases e;rfl
  |tup ks=>obtain⟨_,e,_⟩:=b;cases e
  |two ks g=>obtain⟨_,e,_⟩:=b;cases e
 |tup ks =>
  obtain⟨p,rfl,q⟩:=a
  cases y with
  |aT=>cases b
  |int j=>obtain⟨_,e⟩:=b;cases e
  |tup d =>
   obtain⟨_,e,c⟩:=b;cases e;exact congrArg KD.tup ((tupleKind (ag P w)).inj q c)
  |two d f =>
   obtain⟨_,e,c⟩:=b;cases e;exact(tf c q).elim
 |two ks g =>
  obtain⟨p,rfl,q⟩:=a
  cases y with
  |aT=>cases b
  |int j=>obtain⟨_,e⟩:=b;cases e
  |tup d =>
   obtain⟨_,e,c⟩:=b;cases e;exact(tf q c).elim
  |two d f =>
   obtain⟨_,e,c⟩:=b;cases e;obtain⟨rfl,rfl⟩:=FJ q c;rfl
def eM.ext{k:KD}(a:eM P w h k v)(x:∀b o,h.get? b=some o->o.cls=.type "tuple"->h'.get? b=some o):eM P w h' k v:=by
 cases k with
 |aT=>exact a
 |int i=>exact a
 |tup ks =>
  obtain⟨p,e,o,f,n,h1,h2,g,q⟩:=a;exact{p,e,o,f,n,x _ _ h1 h2,h2,g,q}
 |two ks s =>
  obtain⟨p,e,o,c,d,n,h1,h2,g,⟨o1,i1,n1,k1,k2,r⟩,⟨o2,i2,n2,l,j,m⟩⟩:=a;exact{p,e,o,c,d,n,x _ _ h1 h2,h2,g,{o1,i1,n1,x _ _ k1 k2,k2,r},{o2,i2,n2,x _ _ l j,j,m}}
def O6(h:Q 4238894112 { s with toks:=s.toks+1 }):wpAny (model P w) A (pyHash .none) Q E s:=by
 unfold pyHash;have a:s.TypeIs Value.none "NoneType":=rfl;have b:[Value.none].any Value.onHeap=false:=rfl;unfold pyHashByItsType;refine qq ?_;rw[cRoomFor,qt (by rw[b];exact qp)];refine qs (qq (wpAny_specialOf a F.slot_NoneType_hash.lookup ?_));show wpAny _ _ (if(some (Value.builtin "NoneType.__hash__")==some Value.none)=true then _ else _) Q E s;rw[qt (by rw[beq_builtin_none];exact qp)];refine qq (wpAny_specialOf a F.slot_NoneType_hash.lookup ?_);show wpAny _ _ (callSpecialIfBoundUnlessNone? .none "__hash__" _ >>= _) Q E s;refine qq (wpAny_callSpecialIfBoundUnlessNone?_slot a F.slot_NoneType_hash (qI F.slot_NoneType_hash a F.entry_NoneType_hash (show wpAny _ _ (do ret (←mkInt 4238894112)) _ _ s from wpAny_ret_mkInt ?_) (F.args_NoneType_hash_1 _)));show wpAny _ _ (if(decide (-(2:Int) ^ 63≤4238894112)&&decide ((4238894112:Int)<2 ^ 63))=true then _ else _) Q E _;rw[q0 ⋯];exact qs h
def eM.hash{k:KD}(b:A.units+1<cLine)(a:eM P w s.heap k v)(h:Q (bg P w k) { s with toks:=s.toks+dr P w k }):wpAny (model P w) A (pyHash v) Q E s:=by
 cases k with
 |aT=>cases a;exact O6 h
 |int i=>obtain⟨t,rfl⟩:=a;exact wpAny_pyHash_int h
 |tup ks=>obtain⟨p,rfl,q⟩:=a;exact(tupleKind (ag P w)).pyHash (show A.units<cLine from ()) q h
 |two ks c=>obtain⟨p,rfl,q⟩:=a;exact Pg b q h
def eM.tuple(a:eM P w h (.tup ks) v):∃p b,v=.ref p/\h.IsTuple p b:=by
 obtain⟨p,e,o,b,n,h1,h2,c,_⟩:=a;exact{p,b,e,o,h1,h2,n,c}
def eM.iY(a:eM P w h (.two ks f) v):∃p b,v=.ref p/\h.IsTuple p b:=by
 obtain⟨p,e,q⟩:=a;obtain⟨c,d,t,_⟩:=q.tuple;exact{p,_,e,t}
def eM.eq(f:A.units+1<cLine)(a:eM P w s.heap x u)(b:eM P w s.heap y v)(h:Q (decide (x=y)) s):wpAny (model P w) A (eqBool u v) Q E s:=by
 have ne:∀{z m:KD},z≠m->decide (z=m)=false:=λq=>decide_eq_false q
 have e:A.units<cLine:=()
 cases x with
 |aT =>
  cases a
  cases y with
  |aT=>cases b;exact SeqAt.EqAt.same _ _ _ _ _ h
  |int j =>
   obtain⟨t,rfl⟩:=b;rw[ne (by intro z;cases z)]at h;exact SeqAt.EqAt.none_int _ _ _ _ _ _ h
  |tup ks =>
   obtain⟨p,c,rfl,q⟩:=b.tuple;rw[ne (by intro z;cases z)]at h;exact SeqAt.EqAt.none_tuple q e _ _ _ _ h
  |two ks n =>
   obtain⟨p,c,rfl,q⟩:=b.iY;rw[ne (by intro z;cases z)]at h;exact SeqAt.EqAt.none_tuple q e _ _ _ _ h
 |int i =>
  obtain⟨t,rfl⟩:=a
  cases y with
  |aT =>
   cases b;rw[ne (by intro z;cases z)]at h;exact SeqAt.EqAt.int_none _ _ _ _ _ _ h
  |int j =>
   obtain⟨t,rfl⟩:=b;refine SeqAt.EqAt.int_int _ _ _ _ _ _ _ _ ?_;rw[show(i==j)=decide (KD.int i=KD.int j) from by by_cases z:i=j <;> simp[z]];exact h
  |tup ks =>
   obtain⟨p,c,rfl,q⟩:=b.tuple;rw[ne (by intro z;cases z)]at h;exact SeqAt.EqAt.int_tuple _ _ q e _ _ _ _ h
  |two ks n =>
   obtain⟨p,c,rfl,q⟩:=b.iY;rw[ne (by intro z;cases z)]at h;exact SeqAt.EqAt.int_tuple _ _ q e _ _ _ _ h
 |tup ks =>
  cases y with
  |aT =>
   cases b;obtain⟨p,c,rfl,q⟩:=a.tuple;rw[ne (by intro z;cases z)]at h;exact SeqAt.EqAt.tuple_none q e _ _ _ _ h
  |int j =>
   obtain⟨t,rfl⟩:=b;obtain⟨p,c,rfl,q⟩:=a.tuple;rw[ne (by intro z;cases z)]at h;exact SeqAt.EqAt.tuple_int _ _ q e _ _ _ _ h
  |tup d =>
   obtain⟨p,rfl,q⟩:=a;obtain⟨k,rfl,g⟩:=b;refine(tupleKind (ag P w)).eqBool e q g ?_;rw[show decide (ks=d)=decide (KD.tup ks=KD.tup d) from by by_cases z:ks=d <;> simp[z]];exact h
  |two d l =>
   obtain⟨p,rfl,q⟩:=a;obtain⟨k,rfl,g⟩:=b;rw[ne (by intro z;cases z)]at h;exact QM f q g _ _ _ _ h
 |two ks n =>
  cases y with
  |aT =>
   cases b;obtain⟨p,c,rfl,q⟩:=a.iY;rw[ne (by intro z;cases z)]at h;exact SeqAt.EqAt.tuple_none q e _ _ _ _ h
  |int j =>
   obtain⟨t,rfl⟩:=b;obtain⟨p,c,rfl,q⟩:=a.iY;rw[ne (by intro z;cases z)]at h;exact SeqAt.EqAt.tuple_int _ _ q e _ _ _ _ h
  |tup d =>
   obtain⟨p,rfl,q⟩:=a;obtain⟨k,rfl,g⟩:=b;rw[ne (by intro z;cases z)]at h;exact Pq f q g _ _ _ _ h
  |two d l =>
   obtain⟨p,rfl,q⟩:=a;obtain⟨k,rfl,g⟩:=b;exact NH f q g _ _ _ _ h
theorem eM.quiet{k:KD}(a:eM P w s.heap k v)(h:Q true s):wpAny (model P w) A (eqIsQuiet 8 v) Q E s:=by
 cases k with
 |aT=>cases a;exact qs h
 |int i=>obtain⟨t,rfl⟩:=a;exact qs h
 |tup ks=>obtain⟨p,rfl,q⟩:=a;exact(tupleKind (ag P w)).quiet q h
 |two ks b=>obtain⟨p,rfl,q⟩:=a;exact MB q h
def wH{k:KD}(a:eM P w s.heap k v)(g:∀u∈l,∃c,eM P w s.heap c u)(h:Q false s):wpAny (model P w) A (tableMayTell v l) Q E s:=by
 unfold tableMayTell
 split
 ·exact qs h
 ·refine qq (a.quiet ?_)
  rw[qt ⋯];refine qq (wpAny_forIn_list _ (λr b s'=>s'=s/\b=(none,Unit.unit)/\∀u∈r,∃c,eM P w s.heap c u) _ ?_ ?_ _ _ {U,U,g})
  ·rintro u r b s' ⟨rfl,rfl,d⟩
   obtain⟨c,f⟩:=d u ql;refine qq (f.quiet ?_);rw[qt ⋯];exact qs {U,U,λx e=>d x (qo _ e)}
  ·rintro b s' ⟨rfl,rfl,_⟩
   exact qs h
def gi(xs:List (KD×Value×Value))(k:KD):Option Nat:=xs.findIdx? λx=>decide (x.1=k)
def JA{k:KD}(hn:(xs.map (·.1)).Nodup)(h:xs[j]?=some x)(e:x.1=k):gi xs k=some j:=by
 unfold gi;rw[gh];obtain⟨d,b⟩:=qw.mp h;refine{d,by rw[b,e];simp,λi hi=>?_}
 have:¬xs[i].1=k:=λz=>by
  have a:(xs.map (·.1))[i]?=some k:=by rw[List.getElem?_map,List.getElem?_eq_getElem ()];simp[z]
  have c:(xs.map (·.1))[j]?=some k:=by rw[List.getElem?_map,h];simp[e]
  have:=(gj (by rw[qa];omega) hn).mp (a.trans c.symm);omega
 simpa using this
def JF{k:KD}(h:∀(j:Nat) x,xs[j]?=some x->x.1≠k):gi xs k=none:=by
 unfold gi;rw[gl];intro x a;obtain⟨j,b,e⟩:=zv.mp a;exact decide_eq_false (h j x (by rw[qc b,e]))
def Bk{xs:List (KD×Value×Value)}{k:KD}{es:Array DictEntry}(at':∀j:Nat,es[j]?=(xs[j]?).map (eu P w))(sz:es.size=xs.length)(hn:(xs.map (·.1)).Nodup){g:Nat->Option (Option Nat)×Option Nat->Sem (ForInStep (Option (Option Nat)×Option Nat))}{R:Option (Option Nat)×Option Nat->Shared->Prop}(B:∀(i:Nat) b a (R':ForInStep (Option (Option Nat)×Option Nat)->Shared->Prop),xs[i]?=some b->(b.1=k->a=none/\R' (.done (some (some i),a)) s/\R' (.yield (none,some i)) s)->(b.1≠k->R' (.yield (none,a)) s)->wpAny (model P w) A (g i (none,a)) R' E s)(F:(∀(j:Nat) x,xs[j]?=some x->x.1≠k)->R (none,none) s)(R1:∀(j:Nat) x,xs[j]?=some x->x.1=k->R (some (some j),none) s/\R (none,some j) s) :
  wpAny (model P w) A (forIn (placesWithHash es.size (λi=>es[i]?.map (·.hash)) (bg P w k)) (none,none) g) R E s:=by
 have has:∀(j:Nat) x,xs[j]?=some x->x.1=k->((es[j]?.map (·.hash))==some (bg P w k))=true:=λj x c e=>by
  rw[at' j,c];show(some (bg P w x.1)==some (bg P w k))=true;rw[e]
  simp
 have one:∀{i j:Nat} {x y:KD×Value×Value},xs[i]?=some x->xs[j]?=some y->x.1=k->y.1=k->i=j:=λ{i j x y} h1 h2 J K=>by
  have u:(xs.map (·.1))[i]?=some k:=by rw[qh,h1];exact congrArg some J
  have v:(xs.map (·.1))[j]?=some k:=by rw[qh,h2];exact congrArg some K
  exact(gj (qw.mp u).1 hn).mp (u.trans v.symm)
 refine wpAny_forIn_list _ (λrest b s'=>s'=s/\∃i a,b=(none,a)/\rest=(List.range' i (es.size - i)).filter (λi=>(es[i]?.map (·.hash))==some (bg P w k))/\i≤es.size ∧
   ((a=none/\∀(j:Nat) x,j<i->xs[j]?=some x->x.1≠k)\/∃j x,a=some j/\j<i/\xs[j]?=some x/\x.1=k)) _ ?_ ?_ _ _
  {U,0,none,U,by rw[placesWithHash,gq,vh],zd _,.inl {U,λj x c=>absurd c (z0 _)}}
 ·rintro x rest b s' ⟨rfl,i,a,rfl,r,hi,q⟩
  obtain⟨D,z,G,h,l⟩:=filter_range'_cons _ _ _ _ _ r.symm
  have n:x<es.size:=()
  have d:rest=(List.range' (x+1) (es.size - (x+1))).filter (λi=>(es[i]?.map (·.hash))==some (bg P w k)):=by
   rw[l]
   congr 2
   omega
  have m:xs[x]?=some (xs[x]'()):=qc _;generalize xs[x]'()=b at m
  have t:∀(j:Nat) y,i≤j->j<x->xs[j]?=some y->y.1≠k:=λj y h1 h2 c e=>by
   have:=h j h1 h2;rw[has j y c e]at this;exact absurd this ⋯
  refine B x b a _ m (λe=>?_) λe=>?_
  ·rcases q with⟨rfl,f⟩|⟨j,y,_,c,p,o⟩
   ·exact⟨U,(R1 x b m e).1,U,x+1,some x,U,d,n,.inr ⟨x,b,U,z7 x,m,e⟩⟩
   ·have:=one p m o e
    omega
  ·refine{U,x+1,a,U,d,n,?_}
   rcases q with⟨I,f⟩|⟨j,y,h1,c,p,o⟩
   ·refine .inl ⟨I,λj y C c=>?_⟩
    by_cases c1:j<i
    ·exact f j y c1 c
    ·by_cases c2:j<x
     ·exact t j y () c2 c
     ·have:j=x:=()
      subst this;rw[m]at c;cases c;exact e
   ·exact .inr {j,y,h1,(),p,o}
 ·rintro b s' ⟨rfl,i,a,rfl,r,hi,q⟩
  rcases q with⟨rfl,f⟩|⟨j,y,rfl,c,p,o⟩
  ·refine F λj x c e=>?_
   by_cases c1:j<i
   ·exact f j x c1 c e
   ·have H:j<es.size:=by rw[sz];exact(qw.mp c).1
    have:=gr.mp r.symm j (gs.mpr {(),()});exact this (has j x c e)
  ·exact(R1 j y p o).2
def GY{k:KD}(C:A.units+1<cLine)(a:eM P w s.heap k v)(u:s.heap.get? d=some o)(hd:o.data=.dict es ep)(at':∀j:Nat,es[j]?=(xs[j]?).map (eu P w))(sz:es.size=xs.length)(r:∀x∈xs,eM P w s.heap x.1 x.2.1)(hn:(xs.map (·.1)).Nodup)(B:Q (gi xs k) s):wpAny (model P w) A (dictWalkPlain d v (bg P w k) es (placesWithHash es.size (λi=>es[i]?.map (·.hash)) (bg P w k))) Q E s:=by
 unfold dictWalkPlain
 have has:∀(j:Nat) x,xs[j]?=some x->x.1=k->((es[j]?.map (·.hash))==some (bg P w k))=true:=λj x c e=>by
  rw[at' j,c];show(some (bg P w x.1)==some (bg P w k))=true;rw[e]
  simp
 refine qq (wpAny_forIn_list _ (λrest b s'=>s'=s/\b=(none,Unit.unit)/\∃i,rest=(List.range' i (es.size - i)).filter (λi=>(es[i]?.map (·.hash))==some (bg P w k))/\i≤es.size/\∀(j:Nat) x,j<i->xs[j]?=some x->x.1≠k) _ ?_ ?_ _ _
  {U,U,0,by rw[placesWithHash,gq,vh],zd _,λj x c=>absurd c (z0 _)})
 ·rintro x rest b s' ⟨rfl,rfl,i,p,hi,g⟩
  obtain⟨G,D,t,f,h⟩:=filter_range'_cons _ _ _ _ _ p.symm
  have q:x<es.size:=()
  have l:xs[x]?=some (xs[x]'()):=qc _;generalize xs[x]'()=b at l
  have n:es[x]?=some (eu P w b):=by rw[at' x,l];rfl
  have m:b.1≠k->∃i,rest=(List.range' i (es.size - i)).filter (λi=>(es[i]?.map (·.hash))==some (bg P w k))/\i≤es.size/\∀(j:Nat) x,j<i->xs[j]?=some x->x.1≠k:=λe=>{x+1,by rw[h];congr 2;omega,q,λj y F c=>by
   by_cases c1:j<i
   ·exact g j y c1 c
   ·by_cases c2:j<x
    ·intro z
     have:=f j () c2;rw[has j y c z]at this;exact absurd this ⋯
    ·have:j=x:=()
     subst this;rw[l]at c;cases c
     exact e}
  rw[n]
  try dsimp only
  have I:((eu P w b).hash==bg P w k)=true:=by
   have:=t;rw[n]at this;simpa using this
  rw[q0 I];refine qq (wpAny_dictEpoch u hd (qq ((r b (qk l)).eq C a (qq (wpAny_dictEpoch u hd ?_)))))
  try dsimp only
  rw[qt (by simp)]
  by_cases e:b.1=k
  ·rw[qA e,q0 rfl]
   refine qq (wpAny_rule (qs (qs ?_)));rw[←JA hn l e];exact B
  ·rw[decide_eq_false e,qt ⋯]
   exact qq (wpAny_rule (qs {U,U,m e}))
 ·rintro b s' ⟨rfl,rfl,i,p,hi,g⟩
  refine qs ?_;rw[←JF (xs:=xs) (k:=k) λj x c e=>?_]
  ·exact B
  ·by_cases c1:j<i
   ·exact g j x c1 c e
   ·have H:j<es.size:=by rw[sz];exact(qw.mp c).1
    exact gr.mp p.symm j (gs.mpr {(),()}) (has j x c e)
def J4{k:KD}(K:A.units+1<cLine)(a:eM P w s.heap k v)(D:s.heap.get? d=some o)(hd:o.data=.dict es ep)(L:es.toList=xs.map (eu P w))(c:∀x∈xs,eM P w s.heap x.1 x.2.1)(hn:(xs.map (·.1)).Nodup)(G:Q (gi xs k) s):wpAny (model P w) A (dictFind d v (bg P w k)) Q E s:=by
 have at':∀j:Nat,es[j]?=(xs[j]?).map (eu P w):=λj=>by rw[←zu,L,qh]
 have sz:es.size=xs.length:=by rw[←zh,L,qa]
 have Y:∀(j:Nat) x,xs[j]?=some x->x.1=k->((es[j]?.map (·.hash))==some (bg P w k))=true:=λj x B e=>by
  rw[at' j,B];show(some (bg P w x.1)==some (bg P w k))=true;rw[e]
  simp
 have mem:∀e∈es,∃x∈xs,e=eu P w x:=λe m=>by
  obtain⟨x,g,z⟩:=qf.mp (show e∈xs.map (eu P w) from L▸ji.mpr m);exact{x,g,z.symm}
 have J:∀z t,v≠.str z t:=λz t e=>by
  rw[e]at a
  cases k with
  |aT=>cases a
  |int i=>obtain⟨_,q⟩:=a;cases q
  |tup ks=>obtain⟨_,q,_⟩:=a;cases q
  |two ks W=>obtain⟨_,q,_⟩:=a;cases q
 have C:¬(es.any λe=>e.key==v&&e.hash != bg P w k)=true:=by
  rw[←Array.any_toList,yi];rintro⟨e,m,I⟩;obtain⟨x,g,rfl⟩:=mem e (ji.mp m);rw[ze]at I;have e1:x.2.1=v:=eq_of_beq I.1;have H:=c x g;rw[e1]at H;have X:=H.inj a;have S:(bg P w x.1 != bg P w k)=true:=I.2;rw[X]at S
  simp at S
 have st:∀u∈(placesWithHash es.size (λi=>es[i]?.map (·.hash)) (bg P w k)).filterMap (λi=>es[i]?.map (·.key)),∃Z,eM P w s.heap Z u:=λu O=>by
  obtain⟨i,_,hi⟩:=yt.mp O;rw[at' i]at hi
  cases e:xs[i]? with
  |none=>rw[e]at hi;cases hi
  |some x =>
   rw[e]at hi
   have H:x.2.1=u:=by simpa[eu] using hi
   exact{x.1,H▸c x (qk e)}
 have look:∀(x:Nat) (b:KD×Value×Value) {R:Bool->Shared->Prop},xs[x]?=some b->R (decide (b.1=k)) s->wpAny (model P w) A (eqBool b.2.1 v) R E s:=λx b R g r=>(c b (qk g)).eq K a r
 have l:(∀(j:Nat) x,xs[j]?=some x->x.1≠k)->Q none s:=λh=>by rw[←JF h];exact G
 have f:∀(j:Nat) x,xs[j]?=some x->x.1=k->Q (some j) s:=λj x B e=>by rw[←JA hn B e];exact G
 unfold dictFind
 try with_reducible refine qG ?_
 refine qq (wpAny_dictEntries D hd ?_)
 have vc:v=.none\/(∃i t,v=.int i t)\/∃p,v=.ref p:=by
  cases k with
  |aT=>exact .inl a
  |int i=>exact .inr (.inl {i,a})
  |tup ks=>exact .inr (.inr {a.choose,a.choose_spec.1})
  |two ks W=>exact .inr (.inr {a.choose,a.choose_spec.1})
 by_cases F:(v::(placesWithHash es.size (λi=>es[i]?.map (·.hash)) (bg P w k)).filterMap (λi=>es[i]?.map (·.key))).all carriedByValue=true
 ·rcases vc with rfl|⟨i,t,rfl⟩|⟨p,rfl⟩
  ·dsimp only
   rw[q0 F];exact GY K a D hd at' sz c hn G
  ·dsimp only
   rw[q0 F];exact GY K a D hd at' sz c hn G
  ·exact absurd F (by simp[carriedByValue])
 ·rcases vc with rfl|⟨i,t,rfl⟩|⟨p,rfl⟩ <;> dsimp only <;> rw[qt F] <;> (try rw[qt C]) <;> refine wpAny_ite_split (λ_=>?_) (λ_=>?_) <;> (first|refine qq (qs ?_)|refine qq (wH a st ?_)) <;> (
   rw[qt (by simp)];refine qq (Bk at' sz hn (λi b V R' g y n=>?_) (λh=>qs (l h)) λj x B e=>{qs (f j x B e),qs (f j x B e)})
   have N:es[i]?=some (eu P w b):=by rw[at' i,g];rfl
   rw[N];dsimp only
   by_cases M:((eu P w b).hash==bg P w k)=true
   ·rw[q0 M]
    refine qq (wpAny_dictEpoch D hd (qq (look i b g (qq (wpAny_dictEpoch D hd ?_)))));rw[qt (by simp)]
    by_cases e:b.1=k
    ·obtain⟨rfl,U,T⟩:=y e
     rw[qA e,q0 rfl,qt ⋯];refine qq (wpAny_rule ?_)
     split
     ·exact qs U
     ·exact qs T
    ·rw[decide_eq_false e,qt ⋯]
     refine qq (wpAny_rule ?_);rw[qt (by simp)];exact qs (n e)
   ·rw[qt M]
    exact qs (n λe=>M (by
     show(bg P w b.1==bg P w k)=true;rw[e]
     simp)))
end
section
variable {α β:Type}
def vG(kvs:List (KD×α×β))(k:KD):Option β:=(kvs.find? λe=>decide (e.1=k)).map (·.2.2)
def pG(kvs:List (KD×α×β))(k:KD)(a:α)(v:β):List (KD×α×β):=if(vG kvs k).isSome=true then kvs.map (λe=>if e.1=k then(e.1,e.2.1,v) else e) else kvs++[(k,a,v)]
def DW{kvs:List (KD×α×β)}{k:KD}{i:Nat}{e:KD×α×β}(hn:(kvs.map (·.1)).Nodup)(h:kvs[i]?=some e)(a:e.1=k):vG kvs k=some e.2.2:=by
 unfold vG
 induction kvs generalizing i with
 |nil=>cases h
 |cons x r c =>
  rw[qi,zk]at hn;rw[wf]
  cases i with
  |zero=>cases h;rw[qA a];rfl
  |succ i =>
   have h':r[i]?=some e:=by simpa using h
   have b:¬x.1=k:=λz=>hn.1 (by rw[z,←a];exact qf.mpr {e,qk h',U})
   rw[decide_eq_false b];exact c hn.2 h'
def D'{kvs:List (KD×α×β)}{k:KD}(h:∀e∈kvs,e.1≠k):vG kvs k=none:=by
 unfold vG;rw[yy.mpr λe a=>by rw[decide_eq_true_eq];exact h e a];rfl
def vA{kvs:List (KD×α×β)}{k:KD}(h:vG kvs k=none):∀e∈kvs,e.1≠k:=λe a z=>by
 unfold vG at h;rw[Option.map_eq_none_iff,yy]at h;exact h e a (qA z)
def xU(kvs:List (KD×α×β))(k a:KD)(j:α)(v:β):vG (pG kvs k j v) a=if a=k then some v else vG kvs a:=by
 unfold pG
 by_cases hs:(vG kvs k).isSome=true
 ·rw[q0 hs]
  obtain⟨u,g⟩:=jk.mp hs;clear hs;unfold vG at *
  induction kvs with
  |nil=>simp at g
  |cons x r m =>
   rw[qi,wf];rw[wf]at g ⊢
   by_cases f:x.1=k
   ·rw[q0 f]
    by_cases c:a=k
    ·subst c
     rw[q0 rfl]
     simp[f]
    ·rw[qt c]
     have:¬x.1=a:=λz=>c (z.symm.trans f)
     simp only[this,decide_false]
     clear g m
     induction r with
     |nil=>rfl
     |cons y r h =>
      rw[qi,wf,wf]
      by_cases l:y.1=k
      ·have b:¬y.1=a:=λz=>c (z.symm.trans l)
       rw[q0 l]
       simp only[b,decide_false]
       exact h
      ·rw[qt l]
       by_cases b:y.1=a
       ·simp[b]
       ·simp only[b,decide_false]
        exact h
   ·rw[qt f]
    simp only[f,decide_false]at g
    by_cases d:x.1=a
    ·have:¬a=k:=λz=>f (d.trans z)
     rw[qt this]
     simp[d]
    ·simp only[d,decide_false]
     exact m g
 ·rw[qt hs]
  have i:=vA (kvs:=kvs) (k:=k) (by cases e:vG kvs k with
   |none=>rfl
   |some u=>rw[e]at hs;exact absurd rfl hs)
  unfold vG;rw[List.find?_append]
  by_cases c:a=k
  ·subst c
   rw[q0 rfl,yy.mpr λe n=>by rw[decide_eq_true_eq];exact i e n]
   simp
  ·rw[qt c]
   cases e:List.find? (λe=>decide (e.1=a)) kvs with
   |some x=>rfl
   |none =>
    have:¬k=a:=λz=>c z.symm
    simp[this]
def Q4(kvs:List (KD×α×β))(k:KD)(a:α)(v:β):(pG kvs k a v).map (·.1)=if(vG kvs k).isSome=true then kvs.map (·.1) else kvs.map (·.1)++[k]:=by
 unfold pG
 split
 ·rw[zj]
  refine yl λe _=>?_;show(if e.1=k then(e.1,e.2.1,v) else e).1=e.1
  split <;> rfl
 ·rw[zf]
  rfl
def yD(kvs:List (KD×α×β))(k:KD)(a:α)(v:β):(pG kvs k a v).length≤kvs.length+1:=by
 unfold pG
 split
 ·rw[qa];omega
 ·rw[qm,zi];exact qb _
def LB{kvs:List (KD×α×β)}{k:KD}{a:α}{v:β}(h:(kvs.map (·.1)).Nodup):((pG kvs k a v).map (·.1)).Nodup:=by
 rw[Q4]
 split
 ·exact h
 ·rename_i hs
  refine JS h λc=>?_;obtain⟨e,d,rfl⟩:=qf.mp c
  exact vA (kvs:=kvs) (k:=e.1) (by cases b:vG kvs e.1 with
   |none=>rfl
   |some u=>rw[b]at hs;exact absurd rfl hs) e d rfl
end
section
variable {P:Program}{w:World}{A:Around}{E:Value->Shared->Prop}{s:Shared}
def iQ(P:Program)(w:World)(h:Heap)(d:Addr)(xs:List (KD×Value×Value)):Prop :=
 ∃o es ep,h.get? d=some o/\o.ExactDict/\o.data=.dict es ep/\es.toList=xs.map (eu P w)/\(∀x∈xs,eM P w h x.1 x.2.1)/\(xs.map (·.1)).Nodup
def iQ.typeIs(g:iQ P w s.heap d xs):s.TypeIs (.ref d) "dict":=let⟨o,_,_,a,b,_⟩:=g;{o,a,b.1}
def FZ{k:KD}(h:gi xs k=some j):∃x,xs[j]?=some x/\x.1=k:=by
 unfold gi at h;rw[gh]at h;obtain⟨a,h1,_⟩:=h;exact{xs[j],List.getElem?_eq_getElem a,by simpa using h1}
def Gq{k:KD}(h:gi xs k=none):∀e∈xs,e.1≠k:=λe a=>by
 unfold gi at h;rw[gl]at h;simpa using h e a
def K6{k:KD}(i:A.units+1<cLine)(a:eM P w s.heap k v)(g:iQ P w s.heap d xs)(h:Q (vG xs k) { s with toks:=s.toks+dr P w k }):wpAny (model P w) A (dictGet d v) Q E s:=by
 obtain⟨o,es,ep,l,_,hd,f,b,hn⟩:=g;unfold dictGet
 try with_reducible refine qG ?_
 refine qq (a.hash i (qq (J4 (s:={ s with toks:=s.toks+dr P w k }) i a l hd f b hn ?_)))
 cases e:gi xs k with
 |none =>
  rw[D' (Gq e)]at h;exact qs h
 |some j =>
  obtain⟨x,c,ex⟩:=FZ e;rw[DW hn c ex]at h;refine qq (wpAny_dictEntries (s:={ s with toks:=s.toks+dr P w k }) l hd ?_);rw[←zu,f,qh,c];exact qs h
def OO{xs:List (KD×Value×Value)}{k:KD}{v:Value}{j:Nat}{x:KD×Value×Value}(hn:(xs.map (·.1)).Nodup)(a:xs[j]?=some x)(ex:x.1=k) :
  (xs.map (eu P w)).modify j (λe=>{ e with val:=v })=(xs.map λe=>if e.1=k then(e.1,e.2.1,v) else e).map (eu P w):=by
 apply wm;intro i;rw[List.getElem?_modify,qh,qh,qh]
 cases hi:xs[i]? with
 |none=>simp
 |some y =>
  by_cases e:j=i
  ·subst e
   rw[a]at hi;cases hi
   simp[ex,eu]
  ·have b:¬y.1=k:=λz=>e ((List.getElem?_inj (by rw[List.length_map];exact(List.getElem?_eq_some_iff.mp a).1) hn).mp (by rw[List.getElem?_map,List.getElem?_map,a,hi];simp[ex,z]))
   simp[e,b]
def zF{es:Array DictEntry}{ep:Nat}(f:h.get? d=some o)(g:o.ExactDict)(hs:Heap.SameBut d h h'){k:KD}(a:eM P w h k v):eM P w h' k v:=a.ext λb o' e c=>(hs.2 b (λz=>by
 rw[z,f]at e;cases e;rw[g.1]at c
 exact absurd c ⋯)).trans e
def O3{k:KD}{v val:Value}(n:A.units+1<cLine)(a:eM P w s.heap k v)(g:iQ P w s.heap d xs)(hsz:xs.length≤sizeLine)(p:∀h',iQ P w h' d (pG xs k v val)->Heap.SameBut d s.heap h'->Q Unit.unit { s with heap:=h',toks:=s.toks+dr P w k }):wpAny (model P w) A (dictSet d v val) Q E s:=by
 obtain⟨o,es,ep,c,h,hd,i,f,hn⟩:=g
 have sz:es.size=xs.length:=by rw[←zh,i,qa]
 have keep:∀h',Heap.SameBut d s.heap h'->∀x∈pG xs k v val,eM P w h' x.1 x.2.1:=λh' hs x b=>by
  unfold pG at b
  split at b
  ·obtain⟨y,q,rfl⟩:=qf.mp b
   have:=zF (es:=es) (ep:=ep) c h hs (f y q)
   split <;> exact this
  ·rcases qy.mp b with b|b
   ·exact zF (es:=es) (ep:=ep) c h hs (f x b)
   ·rw[zb.mp b]
    exact zF (es:=es) (ep:=ep) c h hs a
 unfold dictSet
 try with_reducible refine qG ?_
 refine qq (a.hash n ?_);unfold dictSetHashed
 try with_reducible refine qG ?_
 refine qq (J4 (s:={ s with toks:=s.toks+dr P w k }) n a c hd i f hn ?_)
 cases e:gi xs k with
 |none =>
  have m:=D' (Gq e);refine qq (wpAny_rule (wpAny_updateDictKeys (hz:=by omega) (s:={ s with toks:=s.toks+dr P w k }) c hd (p _ {_,_,ep+1,Heap.get?_update_self _ c (Obj.isFreed_of_dict (Obj.data_mapDictKeys hd _)),h.mapDictKeys _,Obj.data_mapDictKeys hd _,?_,keep _ (Heap.SameBut.update ..),LB hn} (Heap.SameBut.update ..))));unfold pG;rw[m,qt ⋯]
  simp[i,eu]
 |some j =>
  obtain⟨x,b,ex⟩:=FZ e;have m:=DW hn b ex;refine qq (wpAny_rule (qq (wpAny_updateDict (s:={ s with toks:=s.toks+dr P w k }) c hd (wpAny_point (p _ {_,_,ep,Heap.get?_update_self _ c (Obj.isFreed_of_dict (Obj.data_mapDict hd _)),h.mapDict _,Obj.data_mapDict hd _,?_,keep _ (Heap.SameBut.update ..),LB hn} (Heap.SameBut.update ..))))));unfold pG;rw[m,q0 (show(some x.2.2).isSome=true from rfl)];have:=OO (P:=P) (w:=w) (v:=val) hn b ex;rw[←i]at this;obtain⟨l⟩:=es;simpa using this
end
abbrev GP(H:Hp):KD×V×V->KD×Value×Value->Prop:=λp q=>p.1=q.1/\GK H p.1 p.2.1/\RelV p.2.1 q.2.1/\RelV p.2.2 q.2.2
section
variable {X:Cx}{pins:List (Addr×Obj)}{σ:St}{H:Hp}{s:Shared}{a:Addr}{y v:V}{u r:Value}{k:KD}{kvs:List (KD×V×V)}{A:Around}{E:Value->Shared->Prop}
def GK.is(I:Inv X pins σ H s)(g:GK H k y)(a:RelV y u):eM X.prog X.w s.heap k u:=by
 cases k with
 |aT=>cases g;exact a
 |int i=>cases g;exact a
 |tup ks =>
  obtain⟨b,rfl,e⟩:=g;exact{b,a,l5 I.a6 e}
 |two ks t =>
  obtain⟨b,c,d,rfl,e,h,hd⟩:=g;obtain⟨f,l,⟨o,j,q,n,r⟩,_⟩:=I.tuple (aH.of e);obtain⟨x,v,rfl,p,m⟩:=l.two;cases p;cases m;exact{b,a,o,c,d,n,j,q,r,l5 I.a6 h,l5 I.a6 hd}
theorem Jp{F:KD×V×V->KD×Value×Value->Prop}:∀{l:List (KD×V×V)} {m:List (KD×Value×Value)},Paired F l m->∀x∈m,∃p∈l,F p x
 |_,_,.nil,x,h=>nomatch h
 |_,_,.cons f t,x,h=>by
  rcases qv.mp h with rfl|h
  ·exact⟨_,ql,f⟩
  ·obtain⟨p,a,q⟩:=Jp t x h
   exact{p,qo _ a,q}
theorem rJ:∀{l:List (KD×V×V)} {m:List (KD×Value×Value)},Paired (GP H) l m->dP (vG l k) (vG m k)
 |_,_,.nil=>trivial
 |_,_,.cons (a:=p) (b:=q) f t=>by
  have c:=rJ t;unfold vG at c ⊢;rw[wf,wf,←f.1]
  by_cases e:p.1=k
  ·rw[qA e];exact f.2.2.2
  ·rw[decide_eq_false e];exact c
theorem KY(c:RelV v r):∀{l:List (KD×V×V)} {m:List (KD×Value×Value)},Paired (GP H) l m->Paired (GP H) (l.map λe=>if e.1=k then(e.1,e.2.1,v) else e) (m.map λe=>if e.1=k then(e.1,e.2.1,r) else e)
 |_,_,.nil=>.nil
 |_,_,.cons (a:=p) (b:=q) f t=>by
  refine .cons ?_ (KY c t);show GP H (if p.1=k then(p.1,p.2.1,v) else p) (if q.1=k then(q.1,q.2.1,r) else q);rw[←f.1]
  split
  ·exact{U,f.2.1,f.2.2.1,c}
  ·exact f
def wL(t:Paired (GP H) l m)(g:GK H k y)(b:RelV y u)(a:RelV v r):Paired (GP H) (pG l k y v) (pG m k u r):=by
 have e:(vG l k).isSome=(vG m k).isSome:=(rJ t).fR;unfold pG;rw[e]
 split
 ·exact KY a t
 ·exact Paired.snoc t {U,g,b,a}
theorem GL:∀{l:List (KD×V×V)} {m:List (KD×Value×Value)},Paired (GP H) l m->l.length=m.length
 |_,_,.nil=>rfl
 |_,_,.cons _ t=>by rw[qr,qr,GL t]
def jH(I:Inv X pins σ H s)(e:Rd H a (.dG kvs)):kvs.length≤sizeLine/\(a==sysModules)=false/\∃xs,Paired (GP H) kvs xs/\iQ X.prog X.w s.heap a xs:=by
 obtain⟨z,y,xs,r,o,es,ep,h1,h2,d,c,g⟩:=(show aQ X.prog X.w H s.heap a (.dG kvs) from e.ok I.a6);refine{z,y,xs,r,o,es,ep,h1,h2,d,c,λx b=>?_,g};obtain⟨p,h,f⟩:=Jp r x b;rw[←f.1];exact f.2.1.is I f.2.2.1
def OA(j:A.units+2<cLine)(I:Inv X pins σ H s)(e:Rd H a (.dG kvs))(g:GK H k y)(l:vG kvs k=some v)(i:RelV y u)(h:∀b s',Inv X pins σ H s'->RelV v b->Q b s') :
  wpAny (model X.prog X.w) A (getItem (.ref a) u) Q E s:=by
 obtain⟨z,hd,xs,f,c⟩:=jH I e;obtain⟨b,hw,d⟩:=dP.some_of (v:=v) (o:=vG xs k) (by rw[←l];exact rJ f);unfold getItem
 try with_reducible refine qG ?_
 refine qq (wpAny_sequenceKey c.typeIs ⋯ (qq (wpAny_callSpecial?_slot (name:=Str.ofString "__getitem__") c.typeIs F.slot_dict_getitem (qI F.slot_dict_getitem c.typeIs F.entry_dict_getitem ?_ (F.args_dict_getitem_2 _ _)))));show wpAny (model X.prog X.w) _ (dictGet a u >>= _) _ _ s;refine qq (K6 (show A.in1.units+1<cLine from(by show A.units+1+1<cLine;omega)) (g.is I i) c ?_);rw[hw];exact qs {b,U,qs (h b _ (I.tok _) d)}
def JO(i:A.units+2<cLine)(I:Inv X pins σ H s)(e:Rd H a (.dG kvs))(g:GK H k y)(f:RelV y u)(h:∀s',Inv X pins σ H s'->Q (vG kvs k).isSome s') :
  wpAny (model X.prog X.w) A (contains (.ref a) u) Q E s:=by
 obtain⟨z,hd,xs,d,c⟩:=jH I e;have b:(vG kvs k).isSome=(vG xs k).isSome:=(rJ d).fR;unfold contains
 try with_reducible refine qG ?_
 refine qq (wpAny_specialOf c.typeIs F.slot_dict_contains.lookup ?_);show wpAny (model X.prog X.w) A (if(some (Value.builtin "dict.__contains__")==some Value.none)=true then _ else _) _ E s;rw[qt (by rw[beq_builtin_none];decide)];refine qq (wpAny_callSpecialUnlessNone?_slot (name:=Str.ofString "__contains__") c.typeIs F.slot_dict_contains (qI F.slot_dict_contains c.typeIs F.entry_dict_contains ?_ (F.args_dict_contains_2 _ _)));show wpAny (model X.prog X.w) _ (dictGet a u >>= _) _ _ s;refine qq (K6 (show A.in1.units+1<cLine from(by show A.units+1+1<cLine;omega)) (g.is I f) c ?_)
 cases hf:vG xs k with
 |some p =>
  rw[hf]at b;refine qs {Value.bool true,U,wpAny_truthy_bool ?_};have:=h _ (I.tok (s.toks+dr X.prog X.w k));rw[b]at this;exact this
 |none =>
  rw[hf]at b;show wpAny (model X.prog X.w) _ (Builtin.Dict.pendingKey? a u >>= _) _ _ _;refine qq (wpAny_pendingKey_other hd (qs {Value.bool false,U,wpAny_truthy_bool ?_}));have:=h _ (I.tok (s.toks+dr X.prog X.w k));rw[b]at this;exact this
def Po(C:A.units+2<cLine)(I:Inv X pins σ H s)(e:H a=some (.dG kvs))(g:GK H k y)(D:kvs.length<sizeLine)(l:RelV y u)(t:RelV v r)(h:∀s',Inv X pins σ (upd H a (.dG (pG kvs k y v))) s'->Q Unit.unit s') :
  wpAny (model X.prog X.w) A (setItem (.ref a) u r) Q E s:=by
 obtain⟨z,hd,xs,d,c⟩:=jH I (.inl e);unfold setItem
 try with_reducible refine qG ?_
 refine qq (wpAny_sequenceKey c.typeIs ⋯ (qq (wpAny_callSpecial?_slot (name:=Str.ofString "__setitem__") c.typeIs F.slot_dict_setitem (qI F.slot_dict_setitem c.typeIs F.entry_dict_setitem ?_ (F.args_dict_setitem_3 _ _ _)))));show wpAny (model X.prog X.w) _ (Builtin.Dict.notOrdered "__setitem__" {[.ref a,u,r],[]} >>= _) _ _ s;refine qq (wpAny_notOrdered_dict c.typeIs ?_);show wpAny (model X.prog X.w) _ (dictSet a u r >>= _) _ _ s;refine qq (O3 (show A.in1.units+1<cLine from(by show A.units+1+1<cLine;omega)) (g.is I l) c (by rw[←GL d];exact z) λh' i f=>qs {Value.none,U,qs (h _ ?_)});obtain⟨q,es,ep,j,h2,x,o,_,B⟩:=i;have m:=yD kvs k y v;refine xH I (by rw[e];exact True.intro) f {q,j} {(),hd,_,Paired.p9 (wL d g l t) λp q z=>{z.1,z.2.1.cR λb xs n=>?_,z.2.2},q,es,ep,j,h2,x,o,B};rw[aD (u6 n e (λz=>nomatch z))];exact n
end
inductive sL(Q:VK)(x y:V)(H2:Hp):Prop
 |mk(a kvs k v:_)(_:x=.ref a)(_:Rd H2 a (.dG kvs))(_:GK H2 k y)(_:vG kvs k=some v)(_:Q v H2)
def zL(td ty:TE):TE:=λσ H Q=>td σ H λx H1=>ty σ H1 λy H2=>sL Q x y H2
inductive JY(neg:Bool)(y x:V)(H:Hp)(Q:VK):Prop
 |mk(a kvs k:_)(_:x=.ref a)(_:Rd H a (.dG kvs))(_:GK H k y)(_:Q (.bl (if neg then !(vG kvs k).isSome else(vG kvs k).isSome)) H)
inductive rx(D:Ends)(σ:St)(v x y:V)(H3:Hp):Prop
 |mk(a kvs k:_)(_:x=.ref a)(_:H3 a=some (.dG kvs))(_:GK H3 k y)(_:kvs.length<sizeLine)(_:D.nx σ (upd H3 a (.dG (pG kvs k y v))))
def DG(td ty tv:TE):TS:=λD σ H=>tv σ H λv H1=>td σ H1 λx H2=>ty σ H2 λy a=>rx D σ v x y a
section
variable {X:Cx}{o i e value:Expr}{pos pos' tpos:Pos}{td ty tv:TE}
def mI(j:X.A.units+2<cLine)(w:PE X o td)(hi:PE X i ty)(hs:ti i):PE X (.Subscript o i pos) (zL td ty):=by
 refine{?_};intro pins s σ H Q I h;refine EY PySem.F.slot_dict_getitem.lookup hs (a8 (w pins s σ H _ I h) λu m ⟨x,H1,t,r,e⟩=>a8 (hi pins m σ H1 _ t e) λC D ⟨y,H2,d,f,a,kvs,k,v,ex,c,g,l,p⟩=>?_);subst ex;obtain rfl:u=Value.ref a:=r;obtain⟨_,_,xs,_,q⟩:=jH d c;exact{q.typeIs,OA j d c g l f λB z n b=>{v,H2,n,b,p}}
def Ar(d:X.A.units+2<cLine):cw X (compareOp .In) (JY false):=by
 intro pins s σ H x y v u Q I f c h;obtain⟨a,kvs,k,rfl,e,g,q⟩:=h;cases c;show wpAny (model X.prog X.w) X.A (do return Value.bool (←contains (.ref a) v)) _ _ s;exact qq (JO d I e g f λs' b=>qs {.bl _,H,b,U,q})
def Ql(d:X.A.units+2<cLine):cw X (compareOp .NotIn) (JY true):=by
 intro pins s σ H x y v u Q I f c h;obtain⟨a,kvs,k,rfl,e,g,q⟩:=h;cases c;show wpAny (model X.prog X.w) X.A (do return Value.bool (!(←contains (.ref a) v))) _ _ s;exact qq (JO d I e g f λs' b=>qs {.bl _,H,b,U,q})
def Lh(m:X.A.units+2<cLine)(p:PE X o td)(hi:PE X i ty)(t:PE X value tv)(hs:swapsWith value (some (.Subscript o i pos')) pos.line X.env=pure false) :
  PS X (.Assign [.Subscript o i pos'] value pos) (DG td ty tv):=by
 refine{?_};intro pins s σ H D I h;refine wpAny_Assign_Subscript (a8 (t pins s σ H _ I h) λr B ⟨v,H1,E,C,q⟩=>a8 (p pins B σ H1 _ E q) λu z ⟨x,H2,d,n,c⟩=>a8 (hi pins z σ H2 _ d c) λK F ⟨y,G,b,l,a,kvs,k,ex,e,g,f,j⟩=>?_) hs;subst ex;obtain rfl:u=Value.ref a:=n;exact Po m b e g f l C λJ w=>{σ,_,w,j}
def Lx:TE:=λ_ H Q=>∀p H',H p=none->ab H H'->H' p=some (.dG [])->Q (.ref p) H'
def P7(h:Heap)(a:sysModules<h.objs.size):aQ P w H (h.push { cls:=.type "dict",data:=.dict #[] }) h.objs.size (.dG []) :=
 {zd _,beq_eq_false_iff_ne.mpr (Ne.symm (qd a)),[],.nil,_,#[],0,qD _ rfl,{U,U,U},U,U,wj}
def KP:PE X (.Dict [] [] pos) Lx:={λpins s σ H Q I h =>
 wpAny_Dict_empty {.ref ↑s,_,I.laid (a:=↑s) (o:=.dG []) (t':=s.toks) (λ_ _ q=>qC _ q) (qb _) (P7 s.heap I.iZ),U,h _ _ (I.a6.fresh (qb _)) (ab.new (I.a6.fresh (qb _))) aG}}
end
def MM:typeLookup (.type "list") "keys"=pure none:=by rw[typeLookup_type,builtinLookup_eq_fast];kernel_rfl
section
variable {prog:Program}{w:World}{A:Around}{E:Value->Shared->Prop}
def PQ{k:Nat}(i:s.heap.get? a=some { cls:=.type "list",dict:=none,data:=.seq xs k,slots:=f })(m:A.handled=none)(h:∀h' tk,kz s.heap h'->Q none { s with heap:=h',toks:=tk }):wpAny (model prog w) A (getAttr? (.ref a) "keys") Q E s:=by
 obtain⟨l,g,d,tk,o⟩:=s;have j:∀b,(⟨l,g,d,b,o⟩:Shared).TypeIs (.ref a) "list":=λ_=>{_,i,U};have f1:=sub_AttributeError;have r:=F.slot_list_getattribute.lookup;have t:=F.slot_list_getattribute.bind (.ref a);have p:=am_list_getattr_none
 have z:(Str.ofString "keys").length+100≤sizeLine:=by
  have:=aV (n:=1000) (qb _);have e:(Str.ofString "keys").length=4:=rfl;omega
 unfold getAttr? getAttrBy? getAttrBy
 repeat (any_goals (first|assumption|exact j _|((with_reducible show wpAny _ _ (call (Value.builtin "list.__getattribute__") _ _) _ _ _);refine call_meets F.slot_list_getattribute (j _) am_entry_list_getattribute (F.args_list_getattribute_2 _ _) (meets_getattribute_miss_list a xs k f "keys" _ MM ∅ z) ⟨i,m,λh' b e c=>?_⟩)|wp_step))
 obtain⟨t',u,q⟩:=c.there;show wpAny (model prog w) A (getattributeRaised _ _ _ _ _ _ _) _ _ _;unfold getattributeRaised
 repeat (any_goals (first|assumption|wp_step))
 exact h _ _ c.keeps
end
def L3:entryFor table "dict.update.loop"=some Builtin.«dict.update.loop»:=entryFor_of_tree (by kernel_rfl)
def rR:plainId "dict.update.loop"=true:=∅
def Mg(h h':Heap):Prop:=∀b o,h.get? b=some o->o.cls=.type "tuple"->h'.get? b=some o
section
variable {P:Program}{w:World}{A:Around}
def Q1(a:s.heap.get? b=some o)(hd:o.data=.seq xs n)(q:Q (some xs) s):wpAny M A (seqItems? (.ref b)) Q E s:=by
 unfold seqItems?;refine qq (wpAny_load a ?_);rw[hd];exact qs q
def M8(a:h.IsListIter I l i)(k:∀b o,b≠I->h.get? b=some o->h'.get? b=some o):Mg h h':=λb o e c=>k b o (λz=>by
 obtain⟨o',d,f,_⟩:=a;rw[z,d]at e;cases e;rw[f]at c
 exact absurd c ⋯) e
end
def Sh{k:Nat}(a:aZ k A):A.units+4<cLine:=by have:=a.units;omega
def mm{k:Nat}(a:aZ k A):A.units+2<cLine:=by have:=a.units;omega
def RV{k:Nat}(a:aZ k A):A.units+3<cLine:=by have:=a.units;omega
section
variable {P:Program}{w:World}{fs:List Addr}{H H1:Hp}{h h1 h2:Heap}
def Un.later(u:Un fs [] H H1 h h1)(k:∀b o,b<h.objs.size->h1.get? b=some o->h2.get? b=some o):Un fs [] H H1 h h2 where
 keep:=λb o q n c a=>k b o (qB q) (u.keep b o q n c a)
 slot:=λb o q n c a=>let⟨d,e⟩:=u.slot b o q n c a;{d,k b _ (qB q) e}
 free:=u.free
 there:=λb o q a=>let⟨o',e⟩:=u.there b o q a;{o',k b o' (qB q) e}
 bK:=u.bK
 dX:=u.dX
 dY:=u.dY
 dI:=λb o xs q n=>k b o (qB q) (u.dI b o xs q n)
def dm.other(x:dm P w H h)(k:∀b u,b≠a->h.get? b=some u->h2.get? b=some u)(hn:H a=none):dm P w H h2:=λb o e=>by
 have ne:∀{c u},H c=some u->c≠a:=λq z=>by rw[z,hn]at q;cases q
 refine(x b o e).cR (λc u d q=>k c u ?_ q) (λ_ q=>q) λ_ _ q=>q;rcases d with rfl|d
 ·exact ne e
 ·exact ne d
def dm.adopt(x:dm P w H h)(hn:H a=none)(new:aQ P w (upd H a o) h a o):dm P w (upd H a o) h:=λb u e=>by
 by_cases d:b=a
 ·subst d;rw[aG]at e;cases e;exact new
 ·rw[aD d]at e
  refine(x b u e).cR (λ_ _ _ q=>q) (λc q=>?_) λc xs q=>?_
  ·rw[aD (λz=>by rw[z,hn]at q;cases q)];exact q
  ·rw[aD (λz=>by rw[z,hn]at q;cases q)];exact q
def Un.adopt{a:Addr}{o:HO}(u:Un fs [] H H1 h h1)(e:h.objs.size≤a)(hn:H1 a=none):Un fs [] H (upd H1 a o) h h1 where
 keep:=u.keep
 slot:=u.slot
 free:=λb c q n d=>by
  rw[aD (qd (zc (qB q) e))];exact u.free b c q n d
 there:=u.there
 bK:=λb xs q=>by
  have:=u.bK b xs q;rw[aD (λz=>by rw[z,hn]at this;cases this)];exact this
 dX:=λb c v q=>by
  have:=u.dX b c v q;rw[aD (λz=>by rw[z,hn]at this;cases this)];exact this
 dY:=λb ps q=>by
  obtain⟨m,this⟩:=u.dY b ps q;exact{m,by rw[aD (λz=>by rw[z,hn]at this;cases this)];exact this}
 dI:=u.dI
end
def kj(n:Nat)(ds:List PyData):Prop:=n≤2000/\(n<64\/ds.Pairwise λa b=>cH a b=true)
def kj.bR(h:kj n ds)(b:ds.length=n)(W:Srt.fF (mx ds)):Rv (mx ds) n:=by
 rcases h.2 with h|h
 ·exact .inl h
 ·refine .inr λi j a c=>?_
  by_cases e:i=j
  ·subst e;exact W.ky _
  ·refine W.le_of_lt ?_
   have:=wk.mp h i j () () ();unfold mx dq;rw[qu,qu,qc (),qc ()];exact this
inductive qJ(sp:Sp)(xs:List V)(H:Hp)(Q:VK):Prop
 |mk(p ys ds t:_)(_:xs=[.ref p])(_:aw H p ys)(_:ds.length=ys.length)(_:KeysAre ds t)(_:kj ys.length ds)(_:(∀(m:Nat) y d H' (Q':VK),ys[m]?=some y->ds[m]?=some d->ab H H'->(∀H'' kv,ab H' H''->DV H'' kv d->Q' kv H'')->sp [y] H' Q' E0))(_:∀q H' ix,H q=none->ab H H'->fS ds ix->H' q=some (.lst (ix.map λi=>ys.getD i .aT))->Q (.ref q) H')
section
variable {X:Cx}{pins:List (Addr×Obj)}{σ:St}{H:Hp}{s:Shared}{k:Nat}{fa:Addr}{fd:FuncData}{ps:List Str}{sp:Sp}
structure L_(X:Cx)(H:Hp)(s:Shared)(a kS:Addr)(e1:Nat)(Hm:Hp)(s':Shared)(ks:List Value)(kvs:List V)(ds:List PyData):Prop where
 un:Un (ib X.stack) [] H Hm s.heap s'.heap
 a6:dm X.prog X.w Hm s'.heap
 os:s'.os=s.os
 bare:AllBare s'.gens
 same:ab H Hm
 E5:Hm a=none
 fk:Hm kS=none
 ga:s'.heap.get? a=some (seqObj "list" #[] e1)
 gk:∃e,s'.heap.get? kS=some (seqObj "list" ks.toArray e)
 vals:aA kvs ks
 dv:fG Hm kvs ds
theorem Lp(h:DV H x d):∀{xs:List V} {ds:List PyData},fG H xs ds->fG H (xs++[x]) (ds++[d])
 |_,_,.nil=>.cons h .nil
 |_,_,.cons a t=>.cons a (Lp h t)
theorem G5{C:Around}{a k:Addr}{e1:Nat}{E:Value->Shared->Prop}{R:Shared->Prop}(i:∀(s':Shared) (c:Hp) (x:Value) (y:V) (Q:VK),ik X.prog X.w X.K X.mg X.base C X.stack s' c->Un (ib X.stack) [] H c s.heap s'.heap->ab H c->RelV y x->sp [y] c Q E0->codeAny (model X.prog X.w) C (.call (.ref fa) {[x],[]}) (CR ia X.stack X.prog X.w c s' Q E0) s')(O:C.frames=X.A.frames)(I:Inv X pins σ H s)(ha:↑s≤a)(hk:↑s≤k)(U:a≠k)(W:a∉ib X.stack)(Y:k∉ib X.stack){q:Value->PUnit->Sem (ForInStep PUnit)}(l:∀x (s':Shared) (R':ForInStep PUnit->Shared->Prop),wpAny (model X.prog X.w) C (call (.ref fa) [x]) (λD s2=>wpAny (model X.prog X.w) C (Builtin.List.listUpdate (.ref k) (·.push D)) (λ_ s3=>R' (.yield ⟨⟩) s3) E s2) (λ_ _=>False) s'->wpAny (model X.prog X.w) C (q x ⟨⟩) R' E s') :
  ∀(r:List Value) (G:List V) (L:List PyData) (ks:List Value) (kvs:List V) (J:List PyData) (c:Hp) (s':Shared),aA G r->L.length=G.length →
   (∀(m:Nat) y d H' (Z:VK),G[m]?=some y->L[m]?=some d->ab H H'->(∀B D,ab H' B->DV B D d->Z D B)->sp [y] H' Z E0) →
   ks.length+r.length≤2000->L_ X H s a k e1 c s' ks kvs J →
   (∀Hn f n j,L_ X H s a k e1 Hn f n j (J++L)->n.length=ks.length+r.length->R f)->wpAny (model X.prog X.w) C (forIn r PUnit.unit q) (λ_ f=>R f) E s'
 |[],G,L,ks,kvs,J,c,s',rv,hl,hsp,hz,st,fin=>by
  cases rv;rw[vd]at hl;rw[gu.mp hl]at fin;rw[List.forIn_nil];refine qs (fin c s' ks kvs ?_ rfl);rw[wo];exact st
 |x::r,_,[],ks,kvs,J,c,s',.cons _ _,hl,hsp,hz,st,fin=>absurd hl (by simp)
 |x::r,_,d::L,ks,kvs,J,c,s',.cons (a:=y) (l₁:=G) r1 rv,hl,hsp,hz,st,fin=>by
  rw[List.forIn_cons];have I':Inv X pins σ c s':=I.lR st.os st.un st.a6 st.bare (λb z=>absurd z (by simp));have p:=I'.Dq;obtain⟨ek,gk⟩:=st.gk;refine qq (l x s' _ ?_);refine wpAny_call (codeAny_mono (i s' c x y (λD H2=>ab c H2/\DV H2 D d) {O.trans p.frames,p.mod,p.bs,p.ro,p.fQ,p.uv,p.a6,p.bare} st.un st.same r1 (hsp 0 y d c _ rfl rfl st.same λH2 D a1 a2=>{a1,a2})) λres s2 M=>?_)
  cases res with
  |error e=>exact M.elim
  |ok fl =>
   cases fl with
   |next=>exact M.elim
   |brk=>exact M.elim
   |cont=>exact M.elim
   |ret u =>
    obtain⟨v,H2,os2,F,g,S,rel,h,dv2⟩:=M;have P:=g.keep k _ gk st.fk Y (by simp);have ga2:=g.keep a _ st.ga st.E5 W (by simp);have N:=g.free k _ gk st.fk (by simp);have fa2:=g.free a _ st.ga st.E5 (by simp);have hz':ks.length+(r.length+1)≤2000:=hz;have z64:2000≤sizeLine:=qj (Ke ⋯);refine listUpdate_at P rfl ?_ (by rw[qx];omega) (by rw[Array.size_push,qx];omega)
    obtain⟨c2,g2⟩:∃c2,(s2.heap.update k (Obj.mapSeq (·.push u))).get? k=some (seqObj "list" ((ks++[u]).toArray) c2):=by
     have ea:ks.toArray.push u=(ks++[u]).toArray:=by simp
     exact{_,by rw[←ea];exact get?_update_seq P (·.push u)}
    have sb:=Heap.SameBut.update s2.heap k (Obj.mapSeq (·.push u));refine G5 i O I ha hk U W Y l r G L (ks++[u]) (kvs++[v]) (J++[d]) H2 _ rv (by simpa using hl) (λm y' d' H' Z h1 h2 h3 h4=>hsp (m+1) y' d' H' Z (by simpa using h1) (by simpa using h2) h3 h4) (by rw[List.length_append,List.length_singleton];omega) {?_,?_,os2.trans st.os,F,st.same.trans h,fa2,N,(sb.2 a U).trans ga2,{c2,g2},?_,?_} λHn f n j T hl'=>fin Hn f n j ?_ ?_
    ·exact(st.un.trans g).later λb o t e=>(sb.2 b (qd (zc t hk))).trans e
    ·exact S.other (λb u' t e=>(sb.2 b t).trans e) N
    ·exact st.vals.append (.cons rel .nil)
    ·exact Lp dv2 (st.dv.same h)
    ·rw[jn]at T
     exact T
    ·rw[hl',qm,zi,qr]
     omega
def PM{y:Around}{a c:Addr}{r:Nat}{E:Value->Shared->Prop}{P:PySem.Fin->Shared->Prop}{q:Hp}{s':Shared}{ks:List Value}{kvs:List V}{ds:List PyData}{st:SortSt}{out:List Value}{k:List V}(v:↑s≤c)(p:↑s≤a)(n:a≠c)(S:L_ X H s a c r q s' ks kvs ds)(hz:ks.length≤2000)(B:out.length≤2000)(g:(arrOf st).map (·.2)=out.toArray)(hf:failedOf st=none)(j:aA k out)(l:∀i H2,Un (ib X.stack) [] H H2 s.heap i.heap->dm X.prog X.w H2 i.heap->i.os=s.os->AllBare i.gens->ab H H2->H2 a=some (.lst k)->P (.done (.ret .none)) i):wpAny (model X.prog X.w) y (ksk_tail a false r (.ref c) st) P E s':=by
 obtain⟨A,x⟩:=S.gk;have t:2000≤sizeLine:=qj (Ke ⋯);unfold ksk_tail
 try dsimp only
 rw[g];have m:=Heap.SameBut.update s'.heap c (Obj.mapSeq λ_=>(#[]:Array Value));have d:=(m.2 a n).trans S.ga;refine qq (listUpdate_at x rfl (qq (wpAny_letGo (qq (seqEpoch_at d rfl (qq (listUpdate_at d rfl ?_ (zd _) (by show out.toArray.size≤_;rw[qx];omega))))))) (by rw[qx];omega) (zd _));rw[hf]
 simp only[bne_self_eq_false,Bool.false_eq_true,if_false]
 have h:=Heap.SameBut.update (s'.heap.update c (Obj.mapSeq λ_=>(#[]:Array Value))) a (Obj.mapSeq λ_=>out.toArray);obtain⟨c2,z⟩:∃c2,((s'.heap.update c (Obj.mapSeq λ_=>(#[]:Array Value))).update a (Obj.mapSeq λ_=>out.toArray)).get? a=some (seqObj "list" out.toArray c2):={_,get?_update_seq d λ_=>out.toArray};refine qs (l _ (upd q a (.lst k)) ?_ ?_ S.os S.bare (S.same.trans (ab.new S.E5)) aG)
 ·refine(S.un.later λb o f e=>?_).adopt p S.E5
  have h1:b≠c:=qd (zc f v);have h2:b≠a:=qd (zc f p);exact(h.2 b h2).trans ((m.2 b h1).trans e)
 ·refine dm.adopt ((S.a6.other (λb u f e=>(m.2 b f).trans e) S.fk).other (λb u f e=>(h.2 b f).trans e) S.E5) S.E5 {?_,out,c2,j,z}
  rw[j.length];omega
def II{Q:VK}{vs:List Value}{ys:List V}{ds:List PyData}{t:Nat}{h1:Heap}{a:Nat}(o:∀(s':Shared) (F:Hp) (x:Value) (y:V) (Q:VK),ik X.prog X.w X.K X.mg X.base X.A.in1.in1 X.stack s' F->Un (ib X.stack) [] H F s.heap s'.heap->ab H F->RelV y x->sp [y] F Q E0->codeAny (model X.prog X.w) X.A.in1.in1 (.call (.ref fa) {[x],[]}) (CR ia X.stack X.prog X.w F s' Q E0) s')(hu:X.A.units+3+61<cLine)(I:Inv X pins σ H s)(rv:aA ys vs)(u:ds.length=ys.length)(hk:KeysAre ds t)(L:kj ys.length ds)(Y:∀(m:Nat) y d H' (Q':VK),ys[m]?=some y->ds[m]?=some d->ab H H'->(∀l Z,ab H' l->DV l Z d->Q' Z l)->sp [y] H' Q' E0)(q:∀q H' ix,H q=none->ab H H'->fS ds ix->H' q=some (.lst (ix.map λi=>ys.getD i .aT))->Q (.ref q) H')(x1:kz s.heap h1)(o1:h1.get? a=some (seqObj "list" vs.toArray 0))(B:↑s≤a) :
  wpAny (model X.prog X.w) X.A.in1 (holding [Value.ref a] (call (.builtin "list.sort") [.ref a] [(Str.ofString "key",.ref fa)]) >>= λ_=>ret (.ref a)) (λc s'=>∃v,c=.done (.ret v)/\EP X pins σ Q v s') X.xe { s with heap:=h1 }:=by
 have h64:=L.1;have hl:=rv.length
 have hz:ys.length≤sizeLine:=by rw[sizeLine_eq];omega
 have zl:vs.length≤sizeLine:=()
 refine qq (qG (wpAny_call_entry_kw slot_list_sort {_,o1,U} entry_list_sort ?_ (ksk_l1 _ _)));show wpAny (model X.prog X.w) X.A.in1.in1 (Builtin.«list.sort» {[.ref a],[(Str.ofString "key",.ref fa)]}) _ _ _;rw[ksk_t1];unfold ksk_tree;obtain⟨j,o2⟩:∃j,(h1.update a (Obj.mapSeq λ_=>(#[]:Array Value))).get? a=some (seqObj "list" #[] j):={_,get?_update_seq o1 λ_=>#[]};have x2:kz s.heap (h1.update a (Obj.mapSeq λ_=>(#[]:Array Value))):=x1.upd B;refine qq (listItems_at o1 rfl (qq (listUpdate_at o1 rfl (qq (seqEpoch_at o2 rfl (qq (wpAny_newTuple (qq (wpAny_newList (qG ?_) (zd _))) zl)))) (by rw[qx];exact zl) (zd _))))
 have g:↑s≤((h1.update a (Obj.mapSeq λ_=>(#[]:Array Value))).push (seqObj "tuple" vs.toArray 0)).objs.size:=by
  rw[size_push',Heap.size_update];have:a<h1.objs.size:=qB o1;omega
 have r:a≠((h1.update a (Obj.mapSeq λ_=>(#[]:Array Value))).push (seqObj "tuple" vs.toArray 0)).objs.size:=by
  rw[size_push',Heap.size_update];have:a<h1.objs.size:=qB o1;omega
 have o3:(((h1.update a (Obj.mapSeq λ_=>(#[]:Array Value))).push (seqObj "tuple" vs.toArray 0)).push (seqObj "list" #[] 0)).get? a=some (seqObj "list" #[] j):=qC _ (qC _ o2);have p:(((h1.update a (Obj.mapSeq λ_=>(#[]:Array Value))).push (seqObj "tuple" vs.toArray 0)).push (seqObj "list" #[] 0)).get? ((h1.update a (Obj.mapSeq λ_=>(#[]:Array Value))).push (seqObj "tuple" vs.toArray 0)).objs.size=some (seqObj "list" #[] 0):=qD _ rfl;have x3:kz s.heap (((h1.update a (Obj.mapSeq λ_=>(#[]:Array Value))).push (seqObj "tuple" vs.toArray 0)).push (seqObj "list" #[] 0)):=(x2.trans (.push _ _)).trans (.push _ _);show wpAny (model X.prog X.w) X.A.in1.in1 (ksk_rest a (.ref fa) false vs.toArray j (.ref ((h1.update a (Obj.mapSeq λ_=>(#[]:Array Value))).push (seqObj "tuple" vs.toArray 0)).objs.size)) _ _ { s with heap:=((h1.update a (Obj.mapSeq λ_=>(#[]:Array Value))).push (seqObj "tuple" vs.toArray 0)).push (seqObj "list" #[] 0) };generalize ((h1.update a (Obj.mapSeq λ_=>(#[]:Array Value))).push (seqObj "tuple" vs.toArray 0)).objs.size=kS at g r p ⊢;generalize ((h1.update a (Obj.mapSeq λ_=>(#[]:Array Value))).push (seqObj "tuple" vs.toArray 0)).push (seqObj "list" #[] 0)=h3 at o3 p x3 ⊢
 have G:∀b,↑s≤b->b∉ib X.stack:=λb C hm=>by
  rcases qv.mp (I.gJ b hm) with z|z
  ·exact absurd (zc I.lt C) (by rw[z];exact zt _)
  ·exact I.rA C z
 have S0:L_ X H s a kS j H { s with heap:=h3 } [] [] []:={Un.kept x3,I.a6.kept x3,U,I.bare,ab.refl H,I.a6.fresh B,I.a6.fresh g,o3,{0,p},.nil,.nil};unfold ksk_rest;refine qq (wpAny_rule ?_)
 first
  |rw[List.forIn_toArray]
  |(rw[←Array.forIn_toList];simp only[List.toList_toArray])
 refine qq (G5 (R:=λf=>wpAny (model X.prog X.w) X.A.in1.in1 (do let keys ←Builtin.List.listItems (.ref kS);ksk_end a false vs.toArray j (.ref kS) keys) _ _ f) o rfl I B g r (G a B) (G kS g) (λx s' R' hx=>?_) vs ys ds [] [] [] H _ rv u Y (by rw[vd];omega) S0 λHn f ks kvs S h=>?_)
 ·refine qq (wpAny_attempt (qH hx (λZ s2 h2=>?_) λ_ _ z=>z.elim))
  exact qq (qH h2 (λ_ T h3=>qs h3) λ_ _ z=>z)
 ·rw[List.nil_append]at S
  rw[vd,vt]at h;obtain⟨ek,gk⟩:=S.gk
  have hkl:ks.length=ds.length:=by rw[h,u,hl]
  have I':Inv X pins σ Hn f:=I.lR S.os S.un S.a6 S.bare (λb z=>absurd z (by simp));obtain⟨as,ra⟩:=S.dv.reads I' S.vals;have W:=DI hk.one;refine qq (listItems_at gk rfl ?_)
  have c:∀(e:Array Nat),Arr vs.length (mx ds) e->∀st:SortSt,(arrOf st).map (·.2)=List.toArray (e.toList.map λi=>vs.getD i Value.none)->failedOf st=none->wpAny (model X.prog X.w) X.A.in1.in1 (ksk_tail a false j (.ref kS) st) (λc s'=>∃v,c=PySem.Fin.done (.ret v)/\wpAny (model X.prog X.w) X.A.in1 (ret (Value.ref a)) (λc s'=>∃v,c=.done (.ret v)/\EP X pins σ Q v s') X.xe s') X.xe f:=λe D st ho hf=>by
   have O:∀i∈e.toList,i<ys.length:=λi hi=>by
    have:=(D.1.toList.mem_iff).mp hi
    simp at this
    omega
   have P:e.size=vs.length:=by rw[D.1.size_eq];simp
   refine PM g B r S () (by rw[qa,zh,P];omega) ho hf (N7 rv _ O) λs2 H2 un N os J same e2=>?_;refine{_,U,qs {_,U,.ref a,H2,I.lR os un N J (λb z=>absurd z (by simp)),U,q a H2 e.toList (I.a6.fresh B) same (Mz (by rw[←hkl,h];exact D)) e2}}
  unfold ksk_end
  try dsimp only
  rw[qt ⋯]
  by_cases h2:vs.toArray.size<2
  ·rw[q0 h2,q0 h2]
   have n:vs.length<2:=by simpa using h2
   refine qq (qs ?_);rw[StateT.run_pure];refine qq (qs ?_);refine c _ (Q0 W n) _ ?_ rfl;show((ks.toArray.zip vs.toArray).map (·.2))=_;apply Array.toList_inj.mp;rw[Array.toList_map,Array.toList_zip];have j:List.map (·.2) (ks.zip vs)=vs:=List.map_snd_zip ()
   have e2:(List.toArray (List.range vs.length)).toList.map (λi=>vs.getD i Value.none)=vs:=by
    apply wm;intro i
    by_cases hi:i<vs.length
    ·simp[hi]
    ·simp[hi]
   show List.map (·.2) (ks.zip vs)=(List.toArray (List.range vs.length)).toList.map (λi=>vs.getD i Value.none);rw[j,e2]
  ·rw[qt h2,qt h2]
   have n:¬vs.length<2:=by simpa using h2
   obtain⟨κ,M,hqq⟩:=Oq (prog:=X.prog) (w:=X.w) (A:=X.A.in1.in1) ra hk () (by show X.A.units+1+1+60<cLine;omega);refine qq (qH (M (λk s'=>k=κ/\s'=f) {U,U}) ?_ λ_ _ z=>z.elim);rintro k' s' ⟨rfl,rfl⟩;rw[qt ⋯];refine qq (qH (Mt (E:=X.xe) (R:=λst T=>T=s'/\∃e,Arr vs.length (mx ds) e/\(arrOf st).map (·.2)=List.toArray (e.toList.map λi=>vs.getD i Value.none)/\failedOf st=none) W h (by have:=L.bR u W;rw[hl]at this;exact this) n hqq λst e a1 a2 a3=>{U,e,a1,a2,a3}) ?_ λ_ _ z=>z);rintro⟨⟨⟩,st⟩ T ⟨rfl,e,D,eo,hf⟩;exact c e D st eo hf
def QP{Q:VK}{us:List Value}{xs:List V}(b:∀(s':Shared) (c:Hp) (x:Value) (y:V) (Q:VK),ik X.prog X.w X.K X.mg X.base X.A.in1.in1 X.stack s' c->Un (ib X.stack) [] H c s.heap s'.heap->ab H c->RelV y x->sp [y] c Q E0->codeAny (model X.prog X.w) X.A.in1.in1 (.call (.ref fa) {[x],[]}) (CR ia X.stack X.prog X.w c s' Q E0) s')(l:X.A.units+3+61<cLine)(I:Inv X pins σ H s)(r:aA xs us)(n:qJ sp xs H Q) :
  wpAny (model X.prog X.w) X.A (call (.builtin "sorted") us [(Str.ofString "key",.ref fa)]) (EP X pins σ Q) X.xe s:=by
 obtain⟨p,ys,ds,t,rfl,k,f,o,d,e,q⟩:=n;have v:=d.1;obtain⟨u,rfl,z⟩:=vals1 r;cases z;obtain⟨vs,h,pl,hz⟩:=I.list k;have B:=h.length
 have g:vs.length≤sizeLine:=()
 refine call_function_entry_kw kind_sorted plain_sorted entry_sorted (ksk_s1 _ _) ?_;unfold Builtin.«sorted»;refine qq (m:=checkCount "sorted" 1 1 _) (qs (qq (collect_list pl.isList (qq (wpAny_newList ?_ g)) g)));have hsz:((s.heap.push (seqObj "list" #[] 0)).update ↑s (Obj.mapSeq (·++vs.toArray))).objs.size=↑s+1:=(Heap.size_update _ _ _).trans (size_push' _ _);have j:kz s.heap (((s.heap.push (seqObj "list" #[] 0)).update ↑s (Obj.mapSeq (·++vs.toArray))).push (seqObj "list" vs.toArray 0)):=((kz.push _ _).upd (qb _)).trans (.push _ _);have o1:(((s.heap.push (seqObj "list" #[] 0)).update ↑s (Obj.mapSeq (·++vs.toArray))).push (seqObj "list" vs.toArray 0)).get? (↑s+1)=some (seqObj "list" vs.toArray 0):=hsz▸qD _ rfl;show wpAny (model X.prog X.w) _ _ _ _ { s with heap:=((s.heap.push (seqObj "list" #[] 0)).update ↑s (Obj.mapSeq (·++vs.toArray))).push (seqObj "list" vs.toArray 0) };rw[hsz];generalize ((s.heap.push (seqObj "list" #[] 0)).update ↑s (Obj.mapSeq (·++vs.toArray))).push (seqObj "list" vs.toArray 0)=h1 at j o1 ⊢;have i:↑s≤↑s+1:=ye _;generalize ↑s+1=a at i o1 ⊢;exact II b l I h f o d e q j o1 i
def aZ.RB{k:Nat}(r:aZ (k+1) A):aZ k A.in1.in1 :=
 {r.hd,by have:=r.dp;show A.depth+3 * k+5<_;omega,by have:=r.un;show A.units+1+1+16 * k+200<_;omega,r.gd}
end
section
variable {X:Cx}
def OZ:∀{us:List Value},aA (a.map V.int) us->∃xs:List (Int×Tok),us=xs.map (λx=>Value.int x.1 x.2)/\xs.map (·.1)=a:=by
 induction a with
 |nil=>intro us r;cases r;exact{[],U,U}
 |cons n a c =>
  intro us r
  cases r with
  |cons d b =>
   obtain⟨t,rfl⟩:=d;obtain⟨xs,rfl,e⟩:=c b;exact{(n,t)::xs,U,by rw[qi,e]}
inductive Fn(xs:List V)(H:Hp)(Q:VK):Prop
 |mk(a ns:_)(_:xs=[.ref a])(_:aw H a (List.map V.int ns))(_:∀i,Q (.int i) H)
def OV(d:X.A.handled=none):bj X (.builtin "sum") (Fn):=by
 intro pins s σ H xs us Q I r h;obtain⟨a,j,rfl,c,q⟩:=h;obtain⟨u,rfl,i⟩:=vals1 r;cases i;obtain⟨b,g,p,hz⟩:=I.list c;obtain⟨ys,rfl,_⟩:=OZ g
 refine sum_intListG (xs:=ys.toArray) d (by
  have:=p.isList
  have e:intItems ys.toArray=(ys.map λx=>Value.int x.1 x.2).toArray:=by unfold intItems;simp
  rw[e]
  exact this) λh' tk t' f=>{.int _,H,I.kept f,{_,U},q _}
end
def ie(H H':Hp):Prop:=∀b xs,H b=some (.tup xs)->H' b=some (.tup xs)
section
variable {H H1 H':Hp}
mutual
theorem DT.bK(t:ie H H'):∀{x:V} {d:PyData},DT H x d->DT H' x d
 |_,_,.aT=>.aT
 |_,_,.bl b=>.bl b
 |_,_,.int i=>.int i
 |_,_,.str z=>.str z
 |_,_,.tup e h=>.tup (t _ _ e) (cn.bK t h)
theorem cn.bK(t:ie H H'):∀{x:List V} {d:List PyData},cn H x d->cn H' x d
 |_,_,.nil=>.nil
 |_,_,.cons a b=>.cons (DT.bK t a) (cn.bK t b)
end
end
def del(H:Hp)(p:Addr):Hp:=λb=>if b=p then none else H b
def i3:del H p p=none:=q0 rfl
def jW(h:b≠p):del H p b=H b:=qt h
def rX(h:H b=none):del H p b=none:=by
 by_cases e:b=p
 ·subst e;exact i3
 ·rw[jW e];exact h
def ab.tM(s:ab H0 H):ab (del H0 p) (del H p):=λb u q=>by
 by_cases e:b=p
 ·subst e;rw[i3]at q;cases q
 ·rw[jW e]at q ⊢;exact s b u q
def nS(K:PySem.W.Frag)(x:Str):Addr:=match tabIn K x with
 |some (_,P)=>P
 |none=>0
def NP(K:PySem.W.Frag)(x:Str):Addr:=match tabIn K x with
 |some (c,_)=>c
 |none=>0
section
variable {X:Cx}{pins:List (Addr×Obj)}{σ:St}{H:Hp}{s:Shared}
def Inv.OB(I:Inv X pins σ H s){b:Addr}(a:↑s≤b):b∉ib X.stack:=λc=>by
 rcases qv.mp (I.gJ b c) with z|z
 ·exact absurd (zc I.lt a) (by rw[z];exact zt _)
 ·exact I.rA a z
end
section
variable {X:Cx}{tg:Expr}
theorem GF(r:aA xs us):∀ix:List Nat,aA (ix.filterMap λi=>xs[i]?) (ix.filterMap λi=>us[i]?)
 |[]=>.nil
 |i::ix=>by
  have t:=GF r ix
  cases e:xs[i]? with
  |none =>
   have a:us[i]?=none:=by
    rw[jv]at e ⊢;rw[←r.length];exact e
   rw[jw e,jw a];exact t
  |some x =>
   obtain⟨u,a,b⟩:=r.get e;rw[yz e,yz a];exact .cons b t
inductive CH(Q:VK)(x:V)(o:Option Int)(H2:Hp):Prop
 |mk(k:Int)(_:o=some k)(_:0<k)(_:∃a xs,x=.ref a/\aw H2 a xs/\∀p H' ys,H2 p=none->ab H2 H'->(∀y∈ys,y∈xs)->ys.length≤xs.length->H' p=some (.lst ys)->Q (.ref p) H')
def LJ(te:TE)(a:TO):TE:=λσ H Q=>te σ H λx H1=>a σ H1 λo H2=>CH Q x o H2
def NR{e:Expr}{st:Expr}{te:TE}{n:TO}{pos p2:Pos}(D:PE X e te)(g:PO X (some st) n):PE X (.Subscript e (.Slice none none (some st) p2) pos) (LJ te n):=by
 refine{?_};intro pins s σ H Q I h;refine Subscript_ (a8 (D pins s σ H _ I h) λv K ⟨x,H1,L,M,C⟩=>?_);refine wpAny_Slice ?_;rw[evalPart_none];refine qs ?_;refine qs ?_;refine a8 (g pins K σ H1 _ L C) λvs d ⟨o,G,t,ps,k,J,N,u⟩=>?_;subst J;obtain⟨a,xs,rfl,p,q⟩:=u;have j:Inv X pins σ G { d with heap:=d.heap.push { cls:=.type "slice",data:=.fields #[.none,.none,vs] } }:=t.kept (t':=d.toks) λb F q=>qC _ q;cases M;obtain⟨c,r,l,hz⟩:=j.list p;have f:=r.length;show wpAny (model X.prog X.w) X.A (subscriptTail e (.Slice none none (some st) p2) (.ref a) (.ref ↑d)) (EP X pins σ Q) X.xe { d with heap:=d.heap.push { cls:=.type "slice",data:=.fields #[.none,.none,vs] } };refine tail_any (ops:=[.ref a,.ref ↑d]) l.isList.typeIs slot_list_getitem.lookup ?_ (by with_unfolding_all rfl);refine wpAny_getItem_list_slice l.isList (Heap.IsSliceOf.new ..) .none .none ps (by intro z;cases z;omega) ?_ (by rw[qx] <;> omega);have hf:=j.a6.fresh (qb _);have hsz:=slicePick_size_le c.toArray none none (some k);unfold slicePick at hsz ⊢;generalize sliceRange (sliceBounds none none (some k) c.toArray.size).1 (sliceBounds none none (some k) c.toArray.size).2.1 (sliceBounds none none (some k) c.toArray.size).2.2=ix at hsz ⊢
 have E:(λi:Nat=>c.toArray[i]?)=λi:Nat=>c[i]?:=by funext i;simp
 rw[E]at hsz ⊢;have m:=GF r ix;have lp:=m.length;rw[qx,qx,←lp,←f]at hsz;refine{.ref _,_,j.laid (t':=d.toks) (o:=.lst (ix.filterMap λi=>xs[i]?)) (λb F q=>qC _ q) (qb _) ?_,U,q _ _ _ hf (ab.new hf) (λy B=>?_) hsz aG}
 ·exact{qg hsz hz,_,0,m,qD _ rfl}
 ·obtain⟨i,_,e⟩:=yt.mp B
  exact qk e
inductive Fu(x y:V)(H:Hp)(Q:VK):Prop
 |mk(a b xs ys:_)(_:x=.ref a)(_:y=.ref b)(_:H a=some (.tup xs))(_:H b=some (.tup ys))(_:xs≠[])(_:xs.length+ys.length≤sizeLine)(_:∀p H',ab H H'->H' p=some (.tup (xs++ys))->Q (.ref p) H')
def O2:cw X (binaryOp .Add) Fu:=Kx.imp λ_ _ H _ ⟨a,b,xs,ys,h1,h2,c,e,g,f,q⟩=>{a,b,xs,ys,h1,h2,aH.of c,aH.of e,g,f,λz=>q a H (ab.refl _) (by rw[z,wo];exact c),λ_ p d=>q p _ (ab.new d) aG}
end
def cU(xs:List (Key×V)):List (Key×V)->List (Key×V)
 |[]=>xs
 |e::r=>cU (putK xs e.1 e.2) r
def fu(xs:List (Key×Value)):List (Key×Value)->List (Key×Value)
 |[]=>xs
 |e::r=>fu (stored xs e.1 e.2) r
def N0(ps:List (Key×V)):∀xs,(cU xs ps).length≤xs.length+ps.length:=by
 induction ps with
 |nil=>intro xs;exact qb _
 |cons e r a =>
  intro xs;have h1:=a (putK xs e.1 e.2);have h2:=sZ xs e.1 e.2;show(cU (putK xs e.1 e.2) r).length≤_;rw[qr];omega
def QJ(xs:List (Key×Value))(k:Key)(v:Value):(stored xs k v).length≤xs.length+1:=by
 unfold stored
 split <;> simp
theorem J1:∀{l:List (Key×V)} {m:List (Key×Value)},KV l m->∀{a:List (Key×V)} {b:List (Key×Value)},KV a b->KV (cU a l) (fu b m)
 |_,_,.nil,_,_,t=>t
 |_,_,.cons (a:=p) (b:=q) f t,a,b,t2=>by
  show KV (cU (putK a p.1 p.2) _) (fu (stored b q.1 q.2) _);rw[←f.1];exact J1 t (t2.put p.1 f.2)
theorem Kq:∀(ps xs:List (Key×V)),(ps.map (·.1)).Nodup->(∀e∈ps,∀x∈xs,x.1≠e.1)->cU xs ps=xs++ps
 |[],xs,_,_=>by rw[wo];rfl
 |e::r,xs,nd,h=>by
  rw[qi,zk]at nd
  have c:putK xs e.1 e.2=xs++[e]:=by
   unfold putK
   have:¬(xs.any λd=>decide (d.1=e.1))=true:=by
    rw[yi];rintro⟨x,a,z⟩;exact h e ql x a (qF z)
   rw[qt this]
  show cU (putK xs e.1 e.2) r=_;rw[c,Kq r (xs++[e]) nd.2 λy b x a=>?_,jn]
  ·rfl
  ·rcases qy.mp a with q|q
   ·exact h y (qo _ b) x q
   ·rw[zb.mp q]
    exact λz=>nd.1 (qf.mpr {y,b,z.symm})
section
variable {P:Program}{w:World}{A:Around}
def eF(P:Program)(w:World)(h:Heap)(v:Value)(e:Key×Value):Prop:=∃b a,v=.ref b/\h.IsTuple b #[a,e.2]/\(ag P w).is e.1 a=true
def eF.cR(p:eF P w h v e)(t:Mg h h'):eF P w h' v e:=by
 obtain⟨b,a,rfl,⟨o,h1,h2,c⟩,g⟩:=p;exact{b,a,U,{o,t _ _ h1 h2,h2,c},g}
def OU(hh:A.handled=none)(hu:A.units+1<cLine)(L:l≠I)(g:D≠I)(S:D≠l) :
  ∀(ps:List (Key×Value)) (i:Nat) (xs:List (Key×Value)) (s:Shared) (j:Int) (u:Tok),i+ps.length=items.size->s.heap.IsListIter I l i->s.heap.IsList l items->s.heap.DictOf (ag P w) D xs->xs.length+ps.length≤sizeLine →
   (∀(m:Nat) e,ps[m]?=some e->∃v,items[i+m]?=some v/\eF P w s.heap v e) →
   (∀s':Shared,(∀b o,b≠I->b≠D->s.heap.get? b=some o->s'.heap.get? b=some o)->s'.heap.DictOf (ag P w) D (fu xs ps)->(∃tk,s'={ s with heap:=s'.heap,toks:=tk })->R (.ok (.ret .none)) s') →
   codeAny (model P w) A (.builtin "dict.update.loop" {[.ref D,.ref I,.int j u,.none],[]}) R s:=by
 have W:=Walks.list (prog:=P) (w:=w) (A:=A.in1) (by simpa using hh) I l L items;intro ps
 induction ps with
 |nil =>
  intro i xs s j u hi d F hd hz K Z
  have x:i=items.size:=by simpa using hi
  subst x;refine codeAny_builtin L3 ?_;rw[Around.under_plainId rR _];show wpAny (model P w) A.in1 (pyNext (.ref I) >>= _) _ _ s;refine qq (W.done s _ _ {d,F} λh' tk H=>?_)
  have k:∀b o,b≠I->s.heap.get? b=some o->h'.get? b=some o:=λb o p e=>H b o (by simpa using p) e
  exact qq (qs (qs (Z {h',s.gens,s.drawn,tk,s.os} (λb o h1 _ e=>k b o h1 e) (hd.at λo e=>k D o g e) {tk,U})))
 |cons e ps ih =>
  intro i xs s j u hi d F hd hz K Z;refine codeAny_builtin L3 ?_;rw[Around.under_plainId rR _];show wpAny (model P w) A.in1 (pyNext (.ref I) >>= _) _ _ s;refine qq (W.item i s _ _ (by rw[qr]at hi;omega) {d,F} λv h' tk hv st H=>?_)
  have k:∀b o,b≠I->s.heap.get? b=some o->h'.get? b=some o:=λb o p e=>H b o (by simpa using p) e
  have ts:=M8 d k;obtain⟨v',h,pv⟩:=K 0 e rfl
  have ev:v'=v:=by
   rw[y0]at h;rw[hv]at h;exact(qE h).symm
  subst ev;have r:h'.DictOf (ag P w) D xs:=hd.at λo e=>k D o g e;have J:=pv.cR ts;obtain⟨b,X,rfl,p,ge⟩:=id J
  have hT:Shared.TypeIs ⟨h',s.gens,s.drawn,tk,s.os⟩ (.ref b) "tuple":=by
   obtain⟨o,h1,h2,_⟩:=p;exact{o,h1,h2}
  obtain⟨ob,B,hb2,nb,y⟩:=id p
  have pr:∀{Q:List Value->Shared->Prop} {E:Value->Shared->Prop},Q [X,e.2] ⟨h',s.gens,s.drawn,tk,s.os⟩->wpAny (model P w) A.in1 (Builtin.Dict.pairItems (.ref b)) Q E ⟨h',s.gens,s.drawn,tk,s.os⟩:=λ{Q E} q=>by
   unfold Builtin.Dict.pairItems;refine qq (wpAny_typeOf hT ?_);rw[q0 ⋯];exact qq (Q1 B y (qs q))
  refine qq (qG (qq (wpAny_tryCatch (pr ?_))));refine qG (wpAny_dictSet_pairs (hsz:=by rw[qr]at hz;omega) ge r λh2 hd2 f=>?_)
  have tD:Mg h' h2:=λb o Y c=>(f.2 b (λz=>by
   obtain⟨o',_,_,e2,t,_⟩:=r;rw[z,e2]at Y;cases Y;rw[t.1]at c
   exact absurd c ⋯)).trans Y
  refine qs {plainId_quiet rR _,ih (i+1) _ _ _ _ (by rw[qr]at hi;omega) ?_ ?_ hd2 ?_ (λm e2 O=>?_) λs' M T N=>?_}
  ·obtain⟨o,h1,a,V⟩:=st.1
   exact{o,(f.2 I (λz=>g z.symm)).trans h1,a,V}
  ·obtain⟨o,h1,a,n,V⟩:=st.2
   exact{o,(f.2 l (λz=>S z.symm)).trans h1,a,n,V}
  ·have:=QJ xs e.1 e.2
   rw[qr]at hz;omega
  ·obtain⟨v2,G,pv2⟩:=K (m+1) e2 (by simpa using O)
   exact{v2,by rw[←G];congr 1;omega,(pv2.cR ts).cR tD}
  ·refine Z s' (λb o h1 a t=>M b o h1 a ((f.2 b a).trans (k b o h1 t))) T ?_
   obtain⟨C,t⟩:=N;exact{C,by rw[t]}
def Ot{s:Shared}{l:Addr}{items:Array Value}{n:Nat}{k:Array (Option Value)}{E:Value->Shared->Prop}{Q:Value->Shared->Prop}{ps:List (Key×Value)}(p:A.handled=none)(D:A.units+3<cLine)(r:s.heap.get? l=some { cls:=.type "list",dict:=none,data:=.seq items n,slots:=k })(hn:ps.length=items.size)(hz:ps.length≤sizeLine)(B:∀(m:Nat) e,ps[m]?=some e->∃v,items[m]?=some v/\eF P w s.heap v e)(h:∀h' tk d,kz s.heap h'->↑s≤d->h'.DictOf (ag P w) d (fu [] ps)->Q (.ref d) { s with heap:=h',toks:=tk }):wpAny (model P w) A (call (.type "dict") [.ref l]) Q E s:=by
 refine callType_codes (Q₁:=λobj c=>obj=.ref ↑s/\c={ s with heap:=s.heap.push { cls:=.type "dict",data:=.dict #[] } }) F.kt_called_dict (F.kt_typeCall_dict_1 _) F.entry_dict_init (kt_code_dict_new _ {U,U}) ?_;rintro obj c ⟨rfl,rfl⟩;have new:(s.heap.push { cls:=.type "dict",data:=.dict #[] }).DictOf (ag P w) ↑s []:=Heap.DictOf.new _;have a:(s.heap.push { cls:=.type "dict",data:=.dict #[] }).get? l=some { cls:=.type "list",dict:=none,data:=.seq items n,slots:=k }:=qC _ r;have t:Shared.TypeIs { s with heap:=s.heap.push { cls:=.type "dict",data:=.dict #[] } } (.ref ↑s) "dict":=Heap.DictOf.typeIs (s:={ s with heap:=s.heap.push { cls:=.type "dict",data:=.dict #[] } }) new;refine{t,F.args_dict_init_2 _ _,?_};unfold Builtin.«dict.__init__»;refine qq ?_;unfold Builtin.Dict.selfAndRest;refine qq (wpAny_notOrdered_dict t (qs ?_));show wpAny (model P w) _ (Builtin.Dict.updateFrom "dict.__init__" ↑s (.ref l) [] .none) _ _ _;unfold Builtin.Dict.updateFrom;refine qq (wpAny_typeOf (show Shared.TypeIs { s with heap:=s.heap.push { cls:=.type "dict",data:=.dict #[] } } (.ref l) "list" from{_,a,U}) ?_);rw[q0 ⋯];refine qq (PQ a (by simpa using p) λh1 t1 f=>?_);rw[q0 (by rfl)];have g:h1.IsList l items:={_,f _ _ a,U,n,U};refine qq (wpAny_rule (qq (wpAny_pyIter_list g ?_)))
 have q:↑s<h1.objs.size:=by
  obtain⟨o,_,_,e,_⟩:=new;exact qB (f _ _ e)
 have y:l<h1.objs.size:=qB (f _ _ a);have z:l<↑s:=qB r
 have j:∀b o,s.heap.get? b=some o->b≠h1.objs.size/\b≠↑s:=λb o e=>by
  have:=qB e;exact{qd (yh this q),qd this}
 have i:Mg (s.heap.push { cls:=.type "dict",data:=.dict #[] }) (h1.push { cls:=.type "list_iterator",data:=.fields #[.ref l,.int 0 0] }):=λb o e _=>qC _ (f _ _ e);refine qs {plainId_quiet rR _,OU (A:=A.in1) (l:=l) (items:=items) (by simpa using p) (show A.units+1+1<cLine from ()) (Nat.ne_of_lt y) (Nat.ne_of_lt q) (Nat.ne_of_gt z) ps 0 [] _ _ _ (by rw[Nat.zero_add];exact hn) {_,qD _ rfl,U,U} (g.push _) (new.at λo e=>qC _ (f _ _ e)) (by simpa using hz) (λm e u=>?_) λs' x hd hs=>?_}
 ·obtain⟨v,C,pv⟩:=B m e u
  exact{v,by rw[vt];exact C,(pv.cR (λb o e _=>qC _ e)).cR i}
 ·obtain⟨tk,es⟩:=hs
  rw[es]at hd ⊢;exact{U,h _ tk _ (λb o e=>x b o (j b o e).1 (j b o e).2 (qC _ (f _ _ (qC _ e)))) (qb _) hd}
end
def rL(H:Hp):List V->List (Key×V)->Prop
 |[],[]=>True
 |y::ys,e::es=>(∃b,y=.ref b/\H b=some (.tup [kV e.1,e.2]))/\rL H ys es
 |_,_=>False
section
variable {X:Cx}{pins:List (Addr×Obj)}{σ:St}{H:Hp}{s:Shared}
theorem Kv(I:Inv X pins σ H s):∀{ys:List V} {us:List Value} {kvs:List (Key×V)},aA ys us->rL H ys kvs->∃ps,KV kvs ps/\ps.length=us.length/\∀(m:Nat) e,ps[m]?=some e->∃v,us[m]?=some v/\eF X.prog X.w s.heap v e
 |[],_,[],.nil,_=>{[],.nil,U,λm e z=>by cases z}
 |[],_,_::_,.nil,h=>h.elim
 |_::_,_,[],.cons _ _,h=>h.elim
 |y::ys,_,e::es,.cons r t,h=>by
  obtain⟨⟨b,rfl,g⟩,h2⟩:=h;obtain⟨ps,q,p2,p⟩:=Kv I t h2;cases r;obtain⟨c,i,⟨o,d,f,n,u⟩,_⟩:=I.tuple (aH.of g);obtain⟨A,x,rfl,l,j⟩:=i.two;refine{(e.1,x)::ps,.cons {U,j} q,by rw[qr,qr,p2],λm k a=>?_}
  cases m with
  |zero =>
   cases a;exact{_,U,b,A,U,{o,d,f,n,u},iN l}
  |succ m =>
   obtain⟨v,h1,h2⟩:=p m k (by simpa using a);exact{v,by simpa using h1,h2}
inductive Ep(xs:List V)(H:Hp)(Q:VK):Prop
 |mk(p ys kvs:_)(_:xs=[.ref p])(_:aw H p ys)(_:rL H ys kvs)(_:ys.length≤2000)(_:∀q H',H q=none->ab H H'->H' q=some (.dK (cU [] kvs))->Q (.ref q) H')
def M9(C:X.A.handled=none)(w:X.A.units+3<cLine):bj X (.type "dict") (Ep):=by
 intro pins s σ H xs us Q I r h;obtain⟨p,ys,kvs,rfl,k,y,hz,q⟩:=h;obtain⟨u,rfl,t⟩:=vals1 r;cases t;obtain⟨j,i,⟨o,n,e,c1,c2,f⟩,_⟩:=I.list k;obtain⟨B,dict,b,F⟩:=o;dsimp only at c1 c2 f;subst c1 c2 f;obtain⟨ps,c,p2,D⟩:=Kv I i y;have E:=i.length
 have J:2000≤sizeLine:=⋯
 refine Ot C w e (by rw[qx];exact p2) () (λm l a=>?_) λh' tk d x hd g=>?_
 ·obtain⟨v,h1,h2⟩:=D m l a
  exact{v,by simpa using h1,h2}
 ·have fr:H d=none:=I.a6.fresh hd
  have z:=N0 kvs [];have G:=KV.length c;refine{.ref d,upd H d (.dK (cU [] kvs)),I.laid x hd {?_,?_,_,J1 c .nil,g},U,q d _ fr (ab.new fr) aG}
  ·rw[vd]at z
   omega
  ·exact beq_eq_false_iff_ne.mpr (Ne.symm (qd (zc I.iZ hd)))
end
section
variable {prog:Program}{w:World}{A:Around}{E:Value->Shared->Prop}{s:Shared}
def Oo(hs:(d==sysModules)=false)(c:s.heap.get? d=some od)(f:od.ExactDict)(b:od.data=.dict es ep)(g:Q (.ref ↑s) { s with heap:=s.heap.push { cls:=.type "dict_keyiterator",data:=.fields #[.ref d,.int 0 0,.int es.size 0,.int ep 0] } }):wpAny (model prog w) A (pyIter (.ref d)) Q E s:=by
 have e:s.TypeIs (.ref d) "dict":={od,c,f.1};refine wpAny_pyIter_slot e F.slot_dict_iter (qI F.slot_dict_iter e F.entry_dict_iter ?_ (F.args_dict_iter_1 _));unfold Builtin.«dict.__iter__» Builtin.Dict.dictSlotNone;refine qq (qq (wpAny_notOrdered_dict e ?_));refine qs (a:=Value.ref d) ?_;show wpAny _ _ (Builtin.Dict.showsAll d >>= _) _ _ s;unfold Builtin.Dict.showsAll;rw[qt (by rw[hs];decide)];refine qq (qs (qq (wpAny_dictEntries c b (qq (wpAny_dictEpoch c b ?_)))));exact qq (wpAny_newObj_type (qs {_,U,"dict_keyiterator",_,{_,qD _ rfl,U},F.slot_dict_keyiterator_next.lookup,by simpa[rawInt] using g}))
def IX(l:A.handled=none)(c:s.heap.IsKeyIter it d i n ep)(g:s.heap.get? d=some od)(f:od.data=.dict es ep)(hn:es.size=n)(h1:∀(hi:i<es.size) h',h'.IsKeyIter it d (i+1) n ep->Heap.SameBut it s.heap h'->Q (some es[i].key) { s with heap:=h' })(h2:es.size≤i->∀h',Heap.ExtBut it s.heap h'->Q none { s with heap:=h' }):wpAny (model prog w) A (pyNext (.ref it)) Q E s:=by
 obtain⟨o,j,k,hd⟩:=id c;subst hn;unfold pyNext
 refine qq (wpAny_attempt (wpAny_callSpecial?_slot (name:=Str.ofString "__next__") c.typeIs F.slot_dict_keyiterator_next
  (qI F.slot_dict_keyiterator_next c.typeIs F.entry_dict_keyiterator_next ?_ (F.args_dict_keyiterator_next_1 _))))
 refine qq (qs (qq (qq ?_)))
 first|refine qq (wpAny_typeNameOfWhole_keyiter c.typeIs (qs ?_))|refine qq (wpAny_typeNameOf_keyiter c.typeIs (qs ?_))
 refine qq (wpAny_fieldsOf j hd ?_)
 simp only[show Builtin.Dict_items.ownsTuple "dict_keyiterator"=false from ⋯,Bool.false_eq_true,if_false]
 show wpAny _ _ (if(Value.ref d==Value.none)=true then _ else _) _ _ s;rw[qt (show ¬((Value.ref d==Value.none)=true) from qp)];refine qq (qs (qq (wpAny_dictEntries g f ?_)));rw[qt (by simp)];refine qq (qs (qq (wpAny_dictEpoch g f ?_)));rw[qt (by simp)];refine qs ?_
 by_cases hi:i<es.size
 ·simp only[show ¬((i:Int)<0) from (),if_false,Int.toNat_natCast,Array.getElem?_eq_getElem hi]
  refine qq ?_
  first|refine qq (wpAny_typeNameOfWhole_keyiter c.typeIs (qs ?_))|refine qq (wpAny_typeNameOf_keyiter c.typeIs (qs ?_))
  refine qq (wpAny_isOneOf_keyiter c.typeIs ?_);show wpAny _ _ (setField (.ref it) 1 (rawInt ((i:Int)+1)) >>= _) _ _ s;refine qq (wpAny_setField j hd (by simp) ?_)
  have e:(s.heap.update it (Obj.mapFields (·.setIfInBounds 1 (rawInt ((i:Int)+1))))).IsKeyIter it d (i+1) es.size ep :=
   {_,Heap.get?_update_self _ j (Obj.isFreed_of_fields (Obj.data_mapFields hd _)),(Obj.cls_mapFields ..).trans k,by rw[Obj.data_mapFields hd];simp[rawInt]}
  refine qq (qG (qq (wpAny_isOneOf_keyiter (s:={ s with heap:=s.heap.update it (Obj.mapFields (·.setIfInBounds 1 (rawInt ((i:Int)+1)))) }) e.typeIs ?_)));show wpAny _ _ (pure es[i].key) _ _ _;exact qs (qs {_,U,qs (h1 hi _ e (Heap.SameBut.update ..))})
 ·have h:es.size≤i:=()
  simp only[show ¬((i:Int)<0) from (),if_false,Int.toNat_natCast,Array.getElem?_eq_none h]
  refine qq ?_
  first|refine qq (wpAny_typeNameOfWhole_keyiter c.typeIs (qs ?_))|refine qq (wpAny_typeNameOf_keyiter c.typeIs (qs ?_))
  show wpAny _ _ (setField (.ref it) 0 .none >>= _) _ _ s;refine qq (wpAny_setField j hd (by simp) ?_);show wpAny _ _ (newExc (.type "StopIteration") [] >>= _) _ _ _;refine qq ?_
  simp only[newExc,newTuple]
  refine qq (wpAny_newObj_type ?_ (by size_fits));refine qq (m:=firstArgMember _ _) (wpAny_of_eq (a:=Value.none) (by first|rfl|(simp only[firstArgMember];rfl)) ?_);refine wpAny_newObj_type ?_ (by size_fits)
  simp only[raiseNew]
  refine qq (wpAny_handled ?_);rw[show A.in1.handled=none from l];refine qq (qs (wpAny_throw ?_));refine qq (wpAny_isInstance (T:="StopIteration") (b:=true) {_,qD _ rfl,U} isSubtype_stop ?_);exact qs (h2 h _ (((Heap.SameBut.update ..).extBut.push _).push _))
end
theorem G6{α β:Type}{F:α->β->Prop}:∀{l₁:List α} {l₂:List β},Paired F l₁ l₂->∀(i:Nat) (h1:i<l₁.length) (h2:i<l₂.length),F l₁[i] l₂[i]
 |_,_,.cons r _,0,_,_=>r
 |_,_,.cons _ t,i+1,h1,h2=>G6 t i (gv h1) (gv h2)
section
variable {X:Cx}{pins:List (Addr×Obj)}{σ:St}{H:Hp}{s:Shared}
def Inv.tj(I:Inv X pins σ H s)(e:H a=some (.dG kvs))(j:s.heap.get? a=some o):Inv X pins σ (upd H a (.eD o (.dG kvs))) s:=by
 refine I.un (t':=s.toks) (h':=s.heap) {λb f q _ _ _=>q,λb f q _ _ _=>{f.slots,q},λb f q n _=>?_,λb f q _=>{f,q},λb xs q=>?_,λb f u q=>?_,λb ps q=>?_,λb f xs q n=>q} λb u q=>?_
 ·rw[aD (λz=>by rw[z,e]at n;cases n)];exact n
 ·rw[aD (λz=>by rw[z,e]at q;cases q)];exact q
 ·rw[aD (λz=>by rw[z,e]at q;cases q)];exact q
 ·exact{#[],by rw[aD (λz=>by rw[z,e]at q;cases q),q];simp}
 ·have g:∀c {d:Addr},H c=some (.own d)->(upd H a (.eD o (.dG kvs))) c=some (.own d):=λc d q=>by rw[aD (λz=>by rw[z,e]at q;cases q)];exact q
  have i:∀c xs,H c=some (.tup xs)->(upd H a (.eD o (.dG kvs))) c=some (.tup xs):=λc xs q=>by rw[aD (λz=>by rw[z,e]at q;cases q)];exact q
  by_cases h:b=a
  ·subst h
   rw[aG]at q;cases q;exact{j,(show aQ X.prog X.w H s.heap b (.dG kvs) from I.a6 b _ e).cR (λ_ _ _ q=>q) (λc q=>g c q) i}
  ·rw[aD h]at q
   exact(I.a6 b u q).cR (λ_ _ _ q=>q) (λc q=>g c q) i
end
def N8{xa:List (KD×Value×Value)}(h:Paired (GP H) b xa):aA (b.map (·.2.2)) (xa.map (·.2.2))/\xa.map (·.1)=b.map (·.1):=by
 induction h with
 |nil=>exact{.nil,U}
 |cons a _ c=>exact{.cons a.2.2.2 c.1,by rw[qi,qi,c.2,a.1]}
section
variable {prog:Program}{w:World}{A:Around}{E:Value->Shared->Prop}{s:Shared}
def Q6(p:A.handled=none)(n:it≠d)(a:od.data=.dict es ep) :
  WalksS prog w A it [it,d] [it] Eq es.size (λj v=>(es[j]?).map (·.key)=some v) (λi s=>s.heap.IsKeyIter it d i es.size ep/\s.heap.get? d=some od) where
 sub:=λb l=>by rw[zb.mp l];exact ql
 grefl:=λ_=>rfl
 gtrans:=λ_ _ _ h1 h2=>h1.trans h2
 frame:=λi s h' tk ⟨⟨o,e,c,r⟩,g⟩ _ k=>{{o,k it ql o e,c,r},k d (qo _ ql) od g}
 item:=λi s Q E hi ⟨st,g⟩ k=>IX p st g a rfl (λf h' m q=>k _ _ (by rw[zp f];rfl) {m,(q.2 d n.symm).trans g} {λb o l e=>(q.2 b (λz=>l (by rw[z];exact ql))).trans e,U,U,U,qb _}) λz=>absurd hi ()
 done:=λs Q E ⟨st,g⟩ k=>IX p st g a rfl (λf=>absurd f ()) λ_ h' t=>k _ {λb o l e=>t b o (λz=>l (by rw[z];exact ql)) e,U,U,U,qb _}
 self:=λi s Q E ⟨st,_⟩ h=>wpAny_pyIter_keyiter st h
def Qh{es:Array DictEntry}{a:Array Value}(h:ItemsOf (λj v=>(es[j]?).map (·.key)=some v) a es.size):a.toList=es.toList.map (·.key):=by
 apply wm;intro j
 by_cases b:j<a.size
 ·have c:j<es.size:=by rw[←h.1];exact b
  have:=h.2 j a[j] (zp b);rw[zu,zp b,qh,zu];exact this.symm
 ·have c:¬j<es.size:=by rw[←h.1];exact b
  rw[vy (by rw[zh];omega),vy (by rw[qa,zh];omega)]
end
def Inv.moved{X:Cx}{pins:List (Addr×Obj)}{σ:St}{H:Hp}{s s':Shared}(I:Inv X pins σ H s)(m:Moved [] Eq s s'):Inv X pins σ H s':=by
 have e:s'={ s with heap:=s'.heap,toks:=s'.toks }:=by
  obtain⟨h1,h2,c,a,d⟩:=m;cases s;cases s';cases h2;cases c;cases a;rfl
 rw[e]
 exact I.kept (t':=s'.toks) λb o q=>m.heap b o (by simp) q
section
variable {X:Cx}
def Nv{xa:List (KD×Value×Value)}(h:Paired (GP H) b xa):aA (b.map (·.2.1)) (xa.map (·.2.1)):=by
 induction h with
 |nil=>exact .nil
 |cons a _ c=>exact .cons a.2.2.1 c
end
def oD(Ps:List Addr)(M:Addr->Option (List V))(H:Hp):Prop:=∀b,(b∈Ps/\H b=some (.kA #[]))\/(b∉Ps/\∃xs,M b=some xs/\H b=some (.tup xs))\/(b∉Ps/\M b=none/\(H b=none\/∃o xs,H b=some (.eD o (.lst xs))))
def nO(K:PySem.W.Frag):Bool:=K.all λp=>match p.2.cls,p.2.data with
 |.type t,.seq ..=>!(t=="list")
 |_,_=>true
def NN{K:PySem.W.Frag}{a:Addr}{us:Array Value}{n:Nat}(h:nO K=true)(e:K.lookup a=some { cls:=.type "list",data:=.seq us n }):False:=by
 have:=zm.mp h _ (PySem.W.mem_of_lookupK e);have h2:(!(("list":String)=="list"))=true:=this;exact absurd h2 ⋯
section
variable {prog:Program}{w:World}{A:Around}{E:Value->Shared->Prop}{s:Shared}
def Ek{it t:Addr}(a:s.heap.IsTupleIter it t i)(g:s.heap.IsTuple t items)(e:items[i]?=some x)(h:∀h',h'.IsTupleIter it t (i+1)->Heap.SameBut it s.heap h'->Q x { s with heap:=h' }):wpAny (model prog w) A (Builtin.SmallTypes.nextOf (.ref it)) Q E s:=by
 obtain⟨⟨o,b,f,hd⟩,⟨k,d,_,j,c⟩⟩:=And.intro (id a) g;unfold Builtin.SmallTypes.nextOf;refine qq (wpAny_callSpecial?_slot a.typeIs F.slot_tuple_iterator_next (qI F.slot_tuple_iterator_next a.typeIs F.entry_tuple_iterator_next ?_ (F.args_tuple_iterator_next_1 _)));show wpAny _ _ (field (.ref it) 0 >>= _) _ _ s;refine qq (wpAny_field b hd (x:=.ref t) rfl ?_);show wpAny _ _ (if(Value.ref t==Value.none)=true then _ else _) _ _ s;rw[qt (λz:(Value.ref t==Value.none)=true=>qp z)];show wpAny _ _ (field (.ref it) 1 >>= _) _ _ s;refine qq (wpAny_field b hd (x:=.int i 0) rfl ?_);show wpAny _ _ (seqItems? (.ref t) >>= _) _ _ s;refine qq (wpAny_seqItems d c ?_)
 simp only[Int.toNat_natCast,e]
 refine qq (wpAny_setField b hd (by simp) (qs {x,U,qs (h _ {_,Heap.get?_update_self _ b (Obj.isFreed_of_fields (Obj.data_mapFields hd _)),(Obj.cls_mapFields ..).trans f,?_} (Heap.SameBut.update ..))}));rw[Obj.data_mapFields hd]
 simp[rawInt]
def Nr{it t:Addr}(h:A.handled=none)(b:s.heap.IsTupleIter it t i)(k:s.heap.IsTuple t items)(g:items[i]?=none)(j:∀h' e,Heap.ExtBut it s.heap h'->(∃o,h'.get? e=some o/\o.cls=.type "StopIteration")->E (.ref e) { s with heap:=h' }):wpAny (model prog w) A (Builtin.SmallTypes.nextOf (.ref it)) Q E s:=by
 obtain⟨⟨o,d,l,hd⟩,⟨p,f,_,n,c⟩⟩:=And.intro (id b) k;unfold Builtin.SmallTypes.nextOf;refine qq (wpAny_callSpecial?_slot b.typeIs F.slot_tuple_iterator_next (qI F.slot_tuple_iterator_next b.typeIs F.entry_tuple_iterator_next ?_ (F.args_tuple_iterator_next_1 _)));show wpAny _ _ (field (.ref it) 0 >>= _) _ _ s;refine qq (wpAny_field d hd (x:=.ref t) rfl ?_);show wpAny _ _ (if(Value.ref t==Value.none)=true then _ else _) _ _ s;rw[qt (λz:(Value.ref t==Value.none)=true=>qp z)];show wpAny _ _ (field (.ref it) 1 >>= _) _ _ s;refine qq (wpAny_field d hd (x:=.int i 0) rfl ?_);show wpAny _ _ (seqItems? (.ref t) >>= _) _ _ s;refine qq (wpAny_seqItems f c ?_)
 simp only[Int.toNat_natCast,g]
 refine qq (wpAny_rule (qq (wpAny_setField d hd (by simp) ?_)));show wpAny _ _ (newExc (.type "StopIteration") [] >>= _) _ _ _;refine qq ?_
 simp only[newExc,newTuple]
 refine qq (wpAny_newObj_type (qq (m:=firstArgMember _ _) (wpAny_of_eq (a:=Value.none) (by first|rfl|(simp only[firstArgMember];rfl)) (wpAny_newObj_type ?_ (by size_fits)))) (by size_fits))
 simp only[raiseNew]
 refine qq (wpAny_handled ?_);rw[show A.in1.handled=none from h];refine qq (qs (wpAny_throw (j _ _ (((Heap.SameBut.update ..).extBut.push _).push _) {_,qD _ rfl,U})))
def DL(f:A.handled=none)(it t:Addr)(e:t≠it)(items:Array Value):Draws prog w A it [it,t] items.size (λi v=>items[i]?=some v) (λi h=>h.IsTupleIter it t i/\h.IsTuple t items) where
 live:=λ_ _ ⟨⟨o,d,_⟩,_⟩=>{o,d}
 frame:=λ_ _ _ ⟨⟨o,d,r⟩,⟨o2,c,j⟩⟩ k=>{{o,k it ql o d,r},{o2,k t (qo _ ql) o2 c,j}}
 item:=λi s Q E hi st l=>Ek st.1 st.2 (x:=items[i]) (zp hi) λh' b a=>l _ h' s.toks (zp hi) {b,st.2.extBut a.extBut e} a
 done:=λs Q E st g=>Nr f st.1 st.2 (by simp) g
structure Fd(z TI TO i1 i2:Addr)(f1 f2:List Addr):Prop where
 t1:TI≠z
 t2:TI≠TO
 t3:TI≠i1
 t4:TI≠i2
 o1:TO≠z
 o2:TO≠i1
 o3:TO≠i2
 a1:i1≠z
 a2:i2≠z
 a3:i1≠i2
 g1:∀b∈f1,b≠z/\b≠TO/\b≠i2
 g2:∀b∈f2,b≠z/\b≠TO/\b≠i1
variable {z TI TO i1 i2:Addr}{f1 f2:List Addr}{n1 n2 k1 k2:Nat}{P1 P2:Nat->Value->Prop}{S1 S2:Nat->Heap->Prop}{a b:Value}
def M'{Q:Value->Shared->Prop}(D:Draws prog w A i1 f1 n1 P1 S1)(F:Draws prog w A i2 f2 n2 P2 S2)(Z:Fd z TI TO i1 i2 f1 f2)(hz:IsZip s.heap z TI TO .none)(K:IsPair s.heap TI (.ref i1) (.ref i2))(J:IsPair s.heap TO a b)(h1:k1<n1)(h2:k2<n2)(M:S1 k1 s.heap)(N:S2 k2 s.heap)(hQ:∀x y h' tk,P1 k1 x->P2 k2 y->IsZip h' z TI TO (rawInt ↑s)->IsPair h' TO x y->S1 (k1+1) h'->S2 (k2+1) h'->IsPair h' ↑s x y->(∀c o,c≠z->c≠TO->c≠i1->c≠i2->s.heap.get? c=some o->h'.get? c=some o)->Q (.ref ↑s) { s with heap:=h',toks:=tk }) :
  wpAny (model prog w) A (Builtin.«zip.__next__» {[.ref z],[]}) (λR s'=>∃v,R=.done (.ret v)/\Q v s') E s:=by
 show wpAny _ _ (field (.ref z) 2 >>= _) _ _ _;refine qq (wpAny_field hz rfl (x:=.bool false) rfl ?_);show wpAny _ _ (field (.ref z) 3 >>= _) _ _ _;refine qq (wpAny_field hz rfl (x:=.ref TI) rfl (qq (wpAny_seqItems K rfl ?_)));show wpAny _ _ (Builtin.SmallTypes.ownedTupleIsFree (.ref z) >>= _) _ _ _;refine qq ?_;unfold Builtin.SmallTypes.ownedTupleIsFree;refine qq (wpAny_field hz rfl (x:=.none) rfl (qs ?_))
 simp only[if_true]
 refine qq (wpAny_rule (qq (wpAny_field hz rfl (x:=.ref TO) rfl (qq (wpAny_setField_rec hz (by simp) λH1 i t=>qq ?_)))));have i:IsZip H1 z TI TO .ellipsis:=i
 simp only[List.zipIdx_cons,List.zipIdx_nil,List.forIn_cons,List.forIn_nil]
 refine qq (qq (wpAny_onRaise ?_));show wpAny _ _ (Builtin.SmallTypes.nextOf (.ref i1) >>= _) _ _ _;refine qq (D.item k1 _ _ _ h1 (D.frame _ _ _ M λc d o e=>t.extBut c o (Z.g1 c d).1 e) λx H2 tk px P p=>qs ?_);have B:IsPair H2 TO a b:=p.extBut _ _ Z.o2 (t.extBut _ _ Z.o1 J);refine qq (wpAny_seqItems B rfl (qq (wpAny_updateSeq_pair B λW j q=>qq (wpAny_letGo (qs ?_)))));have j:IsPair W TO x b:=j;refine qq (qq (wpAny_onRaise ?_));show wpAny _ _ (Builtin.SmallTypes.nextOf (.ref i2) >>= _) _ _ _;have H:S2 k2 W:=F.frame _ _ _ N λc d o e=>q.extBut c o (Z.g2 c d).2.1 (p.extBut c o (Z.g2 c d).2.2 (t.extBut c o (Z.g2 c d).1 e));refine qq (F.item k2 _ _ _ h2 H λy H4 tk2 py I l=>qs ?_);have m:IsPair H4 TO x b:=l.extBut _ _ Z.o3 j;refine qq (wpAny_seqItems m rfl (qq (wpAny_updateSeq_pair m λf g n=>qq (wpAny_letGo (qs (qs ?_))))));have g:IsPair f TO x y:=g;refine qq (wpAny_seqItems g rfl (qq (wpAny_newTuple ?_)))
 have sz:f.objs.size=↑s:=by rw[n.1,l.1,q.1,p.1,t.1]
 have u:IsZip f z TI TO .ellipsis:=n.extBut _ _ Z.o1.symm (l.extBut _ _ Z.a2.symm (q.extBut _ _ Z.o1.symm (p.extBut _ _ Z.a1.symm i)));have k5:∀c o,c≠z->c≠TO->c≠i1->c≠i2->s.heap.get? c=some o->f.get? c=some o:=λc o c1 c2 S O e=>n.extBut _ _ c2 (l.extBut _ _ O (q.extBut _ _ c2 (p.extBut _ _ S (t.extBut _ _ c1 e))));have G:S1 (k1+1) f:=D.frame _ _ _ P λc d o e=>n.extBut c o (Z.g1 c d).2.1 (l.extBut c o (Z.g1 c d).2.2 (q.extBut c o (Z.g1 c d).2.1 e));have L:S2 (k2+1) f:=F.frame _ _ _ I λc d o e=>n.extBut c o (Z.g2 c d).2.1 e;have V:z<f.objs.size:=qB u;show wpAny _ _ (Builtin.SmallTypes.ownedTupleHandOut (.ref z) (.ref f.objs.size) >>= _) _ _ _;refine qq ?_;unfold Builtin.SmallTypes.ownedTupleHandOut;have T:IsZip (f.push { cls:=.type "tuple",data:=.seq #[x,y] }) z TI TO .ellipsis:=qC _ u;refine qq (wpAny_setField_rec T (by simp) λH7 k Y=>?_);have k:IsZip H7 z TI TO (rawInt f.objs.size):=k;refine wpAny_setField_rec k (by simp) λC h X=>?_;have h:IsZip C z TI TO (rawInt f.objs.size):=h;have up:∀c o,c≠z->f.get? c=some o->C.get? c=some o:=λc o c1 e=>X.extBut _ _ c1 (Y.extBut _ _ c1 (qC _ e));have r:IsPair C f.objs.size x y:=X.extBut _ _ (zg V) (Y.extBut _ _ (zg V) (qD _ rfl));rw[sz]at h r;refine qs {_,U,?_};show Q (.ref f.objs.size) _;rw[sz];exact hQ x y C _ px py h (up _ _ Z.o1 g) (D.frame _ _ _ G λc d o e=>up c o (Z.g1 c d).1 e) (F.frame _ _ _ L λc d o e=>up c o (Z.g2 c d).1 e) r λc o c1 c2 S O e=>up c o c1 (k5 c o c1 c2 S O e)
def M2(v:Draws prog w A i1 f1 n1 P1 S1)(K:Draws prog w A i2 f2 n2 P2 S2)(Z:Fd z TI TO i1 i2 f1 f2)(hz:IsZip s.heap z TI TO .none)(y:IsPair s.heap TI (.ref i1) (.ref i2))(u:IsPair s.heap TO a b)(p:k1=n1\/(k1<n1/\k2=n2))(C:S1 k1 s.heap)(D:S2 k2 s.heap)(J:∀h' tk e,(∀c o,c≠z->c≠TO->c≠i1->c≠i2->s.heap.get? c=some o->h'.get? c=some o)->(∃o,h'.get? e=some o/\o.cls=.type "StopIteration")->E (.ref e) { s with heap:=h',toks:=tk }) :
  wpAny (model prog w) A (Builtin.«zip.__next__» {[.ref z],[]}) Q E s:=by
 show wpAny _ _ (field (.ref z) 2 >>= _) _ _ _;refine qq (wpAny_field hz rfl (x:=.bool false) rfl ?_);show wpAny _ _ (field (.ref z) 3 >>= _) _ _ _;refine qq (wpAny_field hz rfl (x:=.ref TI) rfl (qq (wpAny_seqItems y rfl ?_)));show wpAny _ _ (Builtin.SmallTypes.ownedTupleIsFree (.ref z) >>= _) _ _ _;refine qq ?_;unfold Builtin.SmallTypes.ownedTupleIsFree;refine qq (wpAny_field hz rfl (x:=.none) rfl (qs ?_))
 simp only[if_true]
 refine qq (wpAny_rule (qq (wpAny_field hz rfl (x:=.ref TO) rfl (qq (wpAny_setField_rec hz (by simp) λH1 g n=>qq ?_)))));have g:IsZip H1 z TI TO .ellipsis:=g
 simp only[List.zipIdx_cons,List.zipIdx_nil,List.forIn_cons,List.forIn_nil]
 refine qq (qq (wpAny_onRaise ?_));show wpAny _ _ (Builtin.SmallTypes.nextOf (.ref i1) >>= _) _ _ _;have j:S1 k1 H1:=v.frame _ _ _ C λc i o e=>n.extBut c o (Z.g1 c i).1 e;rcases p with e1|⟨h1,e2⟩
 ·subst e1
  refine qq (v.done _ _ _ j λH2 e H p=>?_);obtain⟨B,d,f⟩:=p;have m:IsZip H2 z TI TO .ellipsis:=H _ _ Z.a1.symm g
  have ne:e≠z:=λx=>by subst x;rw[m]at d;cases d;simp at f
  exact wpAny_setField_rec m (by simp) λF _ h=>J F _ e (λc o c1 _ G _ q=>h.extBut _ _ c1 (H _ _ G (n.extBut _ _ c1 q))) {B,h.extBut _ _ ne d,f}
 ·subst e2
  refine qq (v.item k1 _ _ _ h1 j λx H2 tk S O r=>qs ?_);have l:IsPair H2 TO a b:=r.extBut _ _ Z.o2 (n.extBut _ _ Z.o1 u);refine qq (wpAny_seqItems l rfl (qq (wpAny_updateSeq_pair l λF M h=>qq (wpAny_letGo (qs ?_)))));refine qq (qq (wpAny_onRaise ?_));show wpAny _ _ (Builtin.SmallTypes.nextOf (.ref i2) >>= _) _ _ _;have t:S2 k2 F:=K.frame _ _ _ D λc i o e=>h.extBut c o (Z.g2 c i).2.1 (r.extBut c o (Z.g2 c i).2.2 (n.extBut c o (Z.g2 c i).1 e));refine qq (K.done _ _ _ t λP e L p=>?_);obtain⟨B,d,f⟩:=p;have k:IsZip P z TI TO .ellipsis:=L _ _ Z.a2.symm (h.extBut _ _ Z.o1.symm (r.extBut _ _ Z.a1.symm g))
  have ne:e≠z:=λx=>by subst x;rw[k]at d;cases d;simp at f
  exact wpAny_setField_rec k (by simp) λR _ I=>J R _ e (λc o c1 c2 G N q=>I.extBut _ _ c1 (L _ _ N (h.extBut _ _ c2 (r.extBut _ _ G (n.extBut _ _ c1 q))))) {B,I.extBut _ _ ne d,f}
def Od(p:Draws prog w A.in1 i1 f1 n1 P1 S1)(m:Draws prog w A.in1 i2 f2 n2 P2 S2)(Z:Fd z TI TO i1 i2 f1 f2)(hz:IsZip s.heap z TI TO .none)(d:IsPair s.heap TI (.ref i1) (.ref i2))(e:IsPair s.heap TO a b)(h1:k1<n1)(h2:k2<n2)(f:S1 k1 s.heap)(g:S2 k2 s.heap)(n:∀x y h' tk,P1 k1 x->P2 k2 y->IsZip h' z TI TO (rawInt ↑s)->IsPair h' TO x y->S1 (k1+1) h'->S2 (k2+1) h'->IsPair h' ↑s x y->(∀c o,c≠z->c≠TO->c≠i1->c≠i2->s.heap.get? c=some o->h'.get? c=some o)->Q (some (.ref ↑s)) { s with heap:=h',toks:=tk }) :
  wpAny (model prog w) A (pyNext (.ref z)) Q E s:=by
 have h:s.TypeIs (.ref z) "zip":={_,hz,U};unfold pyNext;exact qq (wpAny_attempt (wpAny_callSpecial?_slot h F.slot_zip_next (qI F.slot_zip_next h F.entry_zip_next (M' p m Z hz d e h1 h2 f g λx y h' tk k p2 j q r i l t=>qs (n x y h' tk k p2 j q r i l t)) (F.args_zip_next_1 _))))
def Q7(n:Draws prog w A.in1 i1 f1 n1 P1 S1)(m:Draws prog w A.in1 i2 f2 n2 P2 S2)(Z:Fd z TI TO i1 i2 f1 f2)(hz:IsZip s.heap z TI TO .none)(d:IsPair s.heap TI (.ref i1) (.ref i2))(f:IsPair s.heap TO a b)(l:k1=n1\/(k1<n1/\k2=n2))(g:S1 k1 s.heap)(h:S2 k2 s.heap)(q:∀h' tk,(∀c o,c≠z->c≠TO->c≠i1->c≠i2->s.heap.get? c=some o->h'.get? c=some o)->Q none { s with heap:=h',toks:=tk }) :
  wpAny (model prog w) A (pyNext (.ref z)) Q E s:=by
 have i:s.TypeIs (.ref z) "zip":={_,hz,U};unfold pyNext;refine qq (wpAny_attempt (wpAny_callSpecial?_slot i F.slot_zip_next (qI F.slot_zip_next i F.entry_zip_next (M2 n m Z hz d f l g h λh' tk e k ⟨o,p,j⟩=>?_) (F.args_zip_next_1 _))));exact qq (wpAny_isInstance (T:="StopIteration") (b:=true) {o,p,j} isSubtype_stop (qs (q h' tk k)))
end
abbrev ku(c:String)(l:Addr):Obj:={ cls:=.type c,data:=.fields #[.ref l,.int 0 0] }
abbrev Mb(c1:String)(h:Heap)(a:Addr):Heap:=h.push (ku c1 a)
abbrev Me(c1 c2:String)(h:Heap)(a b:Addr):Heap:=(Mb c1 h a).push (ku c2 b)
abbrev Mf(c1 c2:String)(h:Heap)(a b:Addr):Heap:=(Me c1 c2 h a b).push { cls:=.type "tuple",data:=.seq #[.ref h.objs.size,.ref (Mb c1 h a).objs.size] }
abbrev tY(c1 c2:String)(h:Heap)(a b:Addr):Heap:=(Mf c1 c2 h a b).push { cls:=.type "tuple",data:=.seq #[.none,.none] }
abbrev rn(c1 c2:String)(h:Heap)(a b:Addr):Heap:=(tY c1 c2 h a b).push { cls:=.type "zip",data:=.fields #[.none,.bool false,.bool false,.ref (Me c1 c2 h a b).objs.size,.ref (Mf c1 c2 h a b).objs.size] }
def M4(a b:Addr)(xs ys:Array Value):Meets (Builtin.«zip.__new__» {[.type "zip",.ref a,.ref b],[]}) (λ_ R s=>s.heap.IsList a xs/\s.heap.IsTuple b ys ∧
      R (.ok (.ret (.ref (tY "list_iterator" "tuple_iterator" s.heap a b).objs.size))) { s with heap:=rn "list_iterator" "tuple_iterator" s.heap a b }) :=
 .of_wp λprog w A R s h=>by
  obtain⟨e,g,d,tk,f⟩:=s;obtain⟨a1,a2,h⟩:=h;have c:=sub_zip;have j:Heap.IsList (Shared.heap ⟨e,g,d,tk,f⟩) a xs:=a1;have i:Heap.IsTuple (Shared.heap ⟨e.push (ku "list_iterator" a),g,d,tk,f⟩) b ys:=Heap.IsTuple.push a2 _
  wp_walk using wpAny_pyIter_list j,wpAny_pyIter_tuple i
  exact{_,U,h}
def O'(a b:Addr)(xs ys:Array Value):Meets (Builtin.«zip.__new__» {[.type "zip",.ref a,.ref b],[]}) (λ_ R s=>s.heap.IsTuple a xs/\s.heap.IsTuple b ys ∧
      R (.ok (.ret (.ref (tY "tuple_iterator" "tuple_iterator" s.heap a b).objs.size))) { s with heap:=rn "tuple_iterator" "tuple_iterator" s.heap a b }) :=
 .of_wp λprog w A R s h=>by
  obtain⟨e,g,d,tk,f⟩:=s;obtain⟨a1,a2,h⟩:=h;have c:=sub_zip;have j:Heap.IsTuple (Shared.heap ⟨e,g,d,tk,f⟩) a xs:=a1;have i:Heap.IsTuple (Shared.heap ⟨e.push (ku "tuple_iterator" a),g,d,tk,f⟩) b ys:=Heap.IsTuple.push a2 _
  wp_walk using wpAny_pyIter_tuple j,wpAny_pyIter_tuple i
  exact{_,U,h}
section
variable {prog:Program}{w:World}{A:Around}{E:Value->Shared->Prop}{s:Shared}
def Nu{R1 R2:Heap->Prop}(M:Meets (Builtin.«zip.__new__» {[.type "zip",.ref a,.ref b],[]}) (λ_ R s=>R1 s.heap/\R2 s.heap/\R (.ok (.ret (.ref (tY c1 c2 s.heap a b).objs.size))) { s with heap:=rn c1 c2 s.heap a b }))(r:R1 s.heap)(q:R2 s.heap)(h:∀h',IsZip h' (↑s+4) (↑s+2) (↑s+3) .none->IsPair h' (↑s+2) (.ref ↑s) (.ref (↑s+1))->IsPair h' (↑s+3) .none .none →
   h'.get? ↑s=some (ku c1 a)->h'.get? (↑s+1)=some (ku c2 b)->(∀c o,s.heap.get? c=some o->h'.get? c=some o)->Q (.ref (↑s+4)) { s with heap:=h' }) :
  wpAny (model prog w) A (call (.type "zip") [.ref a,.ref b]) Q E s:=by
 refine callType_new F.called_zip ⋯ (F.typeCall_zip_2 _ _) (F.newCall_zip_2 _ _) (λobj=>F.args_object_init_3 obj _ _) F.entry_zip_new M {r,q,?_};have d:(Mb c1 s.heap a).objs.size=↑s+1:=Heap.size_push ..
 have f:(Me c1 c2 s.heap a b).objs.size=↑s+2:=by rw[Heap.size_push,d]
 have i:(Mf c1 c2 s.heap a b).objs.size=↑s+3:=by rw[Heap.size_push,f]
 have k:(tY c1 c2 s.heap a b).objs.size=↑s+4:=by rw[Heap.size_push,i]
 have p:∀{h:Heap} {c:Addr} {o o':Obj},h.get? c=some o->(h.push o').get? c=some o:=λe=>qC _ e;have g:(rn c1 c2 s.heap a b).get? (tY c1 c2 s.heap a b).objs.size=some _:=qD _ rfl;have j:(rn c1 c2 s.heap a b).get? (Mf c1 c2 s.heap a b).objs.size=some _:=p (qD _ rfl);have m:(rn c1 c2 s.heap a b).get? (Me c1 c2 s.heap a b).objs.size=some _:=p (p (qD _ rfl));have l:(rn c1 c2 s.heap a b).get? (Mb c1 s.heap a).objs.size=some _:=p (p (p (qD _ rfl)));have n:(rn c1 c2 s.heap a b).get? ↑s=some _:=p (p (p (p (qD _ rfl))));show _/\_;rw[f,i,k]at g;rw[d,f]at m;rw[i]at j;rw[d]at l;rw[k];exact{{_,g,U},h _ g m j n l λc o x=>p (p (p (p (p x))))}
end
def my(H:Hp)(t:Bool)(a:Addr)(xs:List V):Prop:=match t with|true=>aH H a xs|false=>aw H a xs
def oS(t:Bool)(h:Heap)(a:Addr)(xs:Array Value):Prop:=match t with|true=>h.IsTuple a xs|false=>h.IsList a xs
def iS(t:Bool)(h:Heap)(i a:Addr)(k:Nat):Prop:=match t with|true=>h.IsTupleIter i a k|false=>h.IsListIter i a k
def cS(t:Bool):String:=match t with|true=>"tuple_iterator" |false=>"list_iterator"
section
variable {X:Cx}{pins:List (Addr×Obj)}{σ:St}{H:Hp}{s:Shared}
def Inv.mr{t:Bool}(I:Inv X pins σ H s)(h:my H t a xs):∃b:List Value,aA xs b/\oS t s.heap a b.toArray/\a<↑s:=by
 cases t with
 |false =>
  obtain⟨b,r,p,_⟩:=I.list h;exact{b,r,p.isList,by obtain⟨_,e,_⟩:=p.isList;exact qB e}
 |true =>
  obtain⟨b,r,p,_⟩:=I.tuple h;exact{b,r,p,by obtain⟨_,e,_⟩:=p;exact qB e}
def Inv.j2{t:Bool}(I:Inv X pins σ H s)(h:my H t a xs)(h':my H t a ys):xs=ys:=by
 cases t with
 |false=>exact I.hZ h h'
 |true=>exact I.iP h h'
end
def iS.obj{t:Bool}{k:Nat}(e:iS t h i a k):∃o,h.get? i=some o/\∀v,o.data≠.cell v:=by
 cases t <;> (obtain⟨o,e,_,d⟩:=e;exact{o,e,λv z=>by rw[d]at z;cases z})
def iS.to{t:Bool}{k:Nat}(e:iS t h i a k)(kk:∀o,h.get? i=some o->h'.get? i=some o):iS t h' i a k:=by
 cases t <;> (obtain⟨o,e,r⟩:=e;exact{o,kk o e,r})
def L'(b:A.handled=none)(t:Bool)(it l:Addr)(a:l≠it)(items:Array Value):Draws prog w A it [it,l] items.size (λi v=>items[i]?=some v) (λi h=>iS t h it l i/\oS t h l items):=by
 cases t with
 |false=>exact Draws.list b it l a items
 |true=>exact DL b it l a items
def D9(t1 t2:Bool)(a b:Addr):It :=
 {λi H=>∃xs ys x y,my H t1 a xs/\my H t2 b ys/\xs[i]?=some x/\ys[i]?=some y,
  λi H v H'=>∃p x y,H p=none/\(∀xs,my H t1 a xs->xs[i]?=some x)/\(∀ys,my H t2 b ys->ys[i]?=some y)/\v=.ref p/\H'=upd H p (.tup [x,y]),
  λi H=>∃xs ys,my H t1 a xs/\my H t2 b ys/\i=min xs.length ys.length}
def Qd{P:Program}{w:World}{K:PySem.W.Frag}{es:List Expr}{k:Nat}{tp:Pos}(t1 t2:Bool)(z TI TO i1 i2 a b:Addr)(n1:a≠i1)(n2:b≠i2)(Z:Fd z TI TO i1 i2 [i1,a] [i2,b]) :
  Turn P w K (.Tuple es k tp) (D9 t1 t2 a b) [z,TI,TO,i1,i2] z (λi h=>IsZip h z TI TO .none/\IsPair h TI (.ref i1) (.ref i2)/\(∃u v,IsPair h TO u v)/\iS t1 h i1 a i/\iS t2 h i2 b i) where
 mem:=by simp
 obj:=λi h st c d=>by
  obtain⟨h1,h2,⟨u,v,r⟩,p,t⟩:=st
  simp only[List.mem_cons,List.not_mem_nil,or_false]at d
  rcases d with rfl|rfl|rfl|rfl|rfl
  ·exact⟨_,h1,λv z=>by cases z⟩
  ·exact⟨_,h2,λv z=>by cases z⟩
  ·exact⟨_,r,λv z=>by cases z⟩
  ·exact p.obj
  ·exact t.obj
 keep:=λi h h' st kk=>by
  obtain⟨h1,h2,⟨u,v,r⟩,p,t⟩:=st;exact{kk z (by simp) _ h1,kk TI (by simp) _ h2,{u,v,kk TO (by simp) _ r},p.to λo q=>kk i1 (by simp) o q,t.to λo q=>kk i2 (by simp) o q}
 item:=by
  intro X Y hw R d i pins s σ H E I hf st O;subst Y hw R;obtain⟨xs,ys,x,y,j,n,hx,hy⟩:=O;obtain⟨g,r1,S,z1⟩:=I.mr j;obtain⟨f,T,p2,z2⟩:=I.mr n;obtain⟨u1,B,N⟩:=r1.get hx;obtain⟨u2,mm,L⟩:=T.get hy;obtain⟨h1,h2,⟨u,v,r⟩,p,t⟩:=st;have hd:=I.ok.hd d;have M:=L' (prog:=X.prog) (w:=X.w) (A:=X.A.in1) hd t1 i1 a n1 g.toArray;have V:=L' (prog:=X.prog) (w:=X.w) (A:=X.A.in1) hd t2 i2 b n2 f.toArray
  have l1:i<g.toArray.size:=by have:=(List.getElem?_eq_some_iff.mp B).1;simpa using this
  have l2:i<f.toArray.size:=by have:=(List.getElem?_eq_some_iff.mp mm).1;simpa using this
  refine Od M V Z h1 h2 r l1 l2 {p,S} {t,p2} λD C h' tk J F a1 a2 a3 a4 a5 a7=>?_
  have e1:D=u1:=by
   have J:g.toArray[i]?=some D:=J;rw[y7,B]at J;exact(qE J).symm
  have e2:C=u2:=by
   have F:f.toArray[i]?=some C:=F;rw[y7,mm]at F;exact(qE F).symm
  subst e1 e2;refine{_,U,wpAny_letOwnedTupleGo_zip (s:={ s with heap:=h',toks:=tk }) a1 λm b1 bs=>?_}
  have I1:Inv X pins σ H { s with heap:=m,toks:=tk }:=I.gH (t':=tk) hf λc o d q=>bs.extBut c o (λe=>d (by simp[e])) (a7 c o (λe=>d (by simp[e])) (λe=>d (by simp[e])) (λe=>d (by simp[e])) (λe=>d (by simp[e])) q)
  have Q:z<↑s:=qB h1;have eT:m.get? ↑s=some { cls:=.type "tuple",data:=.seq #[D,C] }:=bs.extBut _ _ (zg Q) a5;have nT:H ↑s=none:=I.a6.fresh (qb _);have u4:∀o,h'.get? i1=some o->m.get? i1=some o:=λo q=>bs.extBut _ _ Z.a1 q;have u5:∀o,h'.get? i2=some o->m.get? i2=some o:=λo q=>bs.extBut _ _ Z.a2 q;refine{.ref ↑s,upd H ↑s (.tup [x,y]),I.kl I1 (qb _) nT {?_,[D,C],.cons N (.cons L .nil),{_,eT,U,_,U}},U,{_,x,y,nT,λl G=>by rw[I.j2 G j];exact hx,λl G=>by rw[I.j2 G n];exact hy,U,U},{b1,?_,{D,C,bs.extBut _ _ Z.o1 a2},a3.1.to u4,a4.1.to u5},λc d=>?_}
  ·show 2≤sizeLine
   decide
  ·exact bs.extBut _ _ Z.t1 (a7 _ _ Z.t1 Z.t2 Z.t3 Z.t4 h2)
  ·obtain⟨o,q⟩:∃o,s.heap.get? c=some o:=by
    simp only[List.mem_cons,List.not_mem_nil,or_false]at d
    rcases d with rfl|rfl|rfl|rfl|rfl
    ·exact⟨_,h1⟩
    ·exact⟨_,h2⟩
    ·exact⟨_,r⟩
    ·obtain⟨o,q,_⟩:=p.obj;exact{o,q}
    ·obtain⟨o,q,_⟩:=t.obj;exact{o,q}
   rw[aD (qd (qB q))];exact(hf c d).1
 done:=by
  intro X Y hw R d i pins s σ H E I hf st O;subst Y hw R;obtain⟨xs,ys,j,n,G⟩:=O;obtain⟨g,r1,S,z1⟩:=I.mr j;obtain⟨f,T,p2,z2⟩:=I.mr n;obtain⟨h1,h2,⟨u,v,r⟩,p,t⟩:=st;have hd:=I.ok.hd d;have M:=L' (prog:=X.prog) (w:=X.w) (A:=X.A.in1) hd t1 i1 a n1 g.toArray;have V:=L' (prog:=X.prog) (w:=X.w) (A:=X.A.in1) hd t2 i2 b n2 f.toArray;have e1:=r1.length;have e2:=T.length
  refine Q7 (k1:=i) (k2:=i) M V Z h1 h2 r ?_ {p,S} {t,p2} λh' tk kk=>{U,I.gH (t':=tk) hf λc o d q=>kk c o (λe=>d (by simp[e])) (λe=>d (by simp[e])) (λe=>d (by simp[e])) (λe=>d (by simp[e])) q}
  rw[qx,qx];omega
 self:=λ_ _ _ _ _ st h=>wpAny_pyIter_zip st.1 h
def Qu(h1:a<n)(h2:b<n):Fd (n+4) (n+2) (n+3) n (n+1) [n,a] [n+1,b]:=by
 have f:a<n:=h1;have e:b<n:=h2;refine{?_,?_,?_,?_,?_,?_,?_,?_,?_,?_,λc d=>?_,λc d=>?_}
 case refine_11 =>
  simp only[List.mem_cons,List.not_mem_nil,or_false]at d
  rcases d with rfl|rfl
  ·exact⟨qd (wx ⋯),qd (wx ⋯),qd (wx ⋯)⟩
  ·exact⟨qd (ym _ f),qd (ym _ f),qd (ym _ f)⟩
 case refine_12 =>
  simp only[List.mem_cons,List.not_mem_nil,or_false]at d
  rcases d with rfl|rfl
  ·exact⟨qd (wy ⋯ n),qd (wy ⋯ n),zg (wx ⋯)⟩
  ·exact⟨qd (ym _ e),qd (ym _ e),qd e⟩
 ·exact qd (wy ⋯ n)
 ·exact qd (wy ⋯ n)
 ·exact zg (wx ⋯)
 ·exact zg (wy ⋯ n)
 ·exact qd (wy ⋯ n)
 ·exact zg (wx ⋯)
 ·exact zg (wy ⋯ n)
 ·exact qd (wx ⋯)
 ·exact qd (wy ⋯ n)
 ·exact qd (wx ⋯)
section
variable {X:Cx}
inductive CY(t1 t2:Bool)(R:It->Hp->Prop)(vs:List V)(H1:Hp):Prop
 |mk(a b:_)(_:vs=[.ref a,.ref b])(_:(∃xs,my H1 t1 a xs))(_:(∃ys,my H1 t2 b ys))(_:R (D9 t1 t2 a b) H1)
def lK(t1 t2:Bool)(ta:TA):TI:=λσ H R=>ta σ H λvs H1=>CY t1 t2 R vs H1
def Ap{k:Nat}(M:∀f d xs ys,Meets (Builtin.«zip.__new__» {[.type "zip",.ref f,.ref d],[]}) (λ_ R s=>oS t1 s.heap f xs/\oS t2 s.heap d ys/\R (.ok (.ret (.ref (tY (cS t1) (cS t2) s.heap f d).objs.size))) { s with heap:=rn (cS t1) (cS t2) s.heap f d }))(E:Gl X "zip")(L:X.mg "zip"=none)(F:PA X [a,b] ta)(hs:starEach [a,b] X.env=(false,eval a X.env)::starEach [b] X.env:=by rfl)(z:(backTo pos (starEach [b] X.env)).any (·.1)=false:=by rfl):PI X (.Tuple es k tp) (.Call (.Name "zip" p) [a,b] [] pos) (lK t1 t2 ta):=by
 refine{?_};intro pins s σ H R I h;refine Call_ (i4 I E L boot_zip (PyProof.Rows.callWith_type1 (a8 (F pos pins s σ H _ I h) λus m ⟨vs,H1,u,P,J⟩=>?_) hs z));obtain⟨f,d,e,⟨xs,x⟩,⟨ys,y⟩,q⟩:=J;subst e;obtain⟨S,T,rfl,v,w⟩:=P.two;cases v;cases w;obtain⟨i,N,G,r⟩:=u.mr x;obtain⟨g,O,p2,o⟩:=u.mr y;refine Nu (c1:=cS t1) (c2:=cS t2) (R1:=λh=>oS t1 h f i.toArray) (R2:=λh=>oS t2 h d g.toArray) (M f d i.toArray g.toArray) G p2 λh' a1 a2 Q B K D=>wpAny_pyIter_zip a1 ?_;have C:Inv X pins σ H1 { m with heap:=h' }:=u.kept (t':=m.toks) D
 have j:∀(t:Bool) (c l:Addr),h'.get? c=some (ku (cS t) l)->iS t h' c l 0:=λt c l e=>by cases t <;> exact{_,e,U,U}
 refine{_,[↑m+4,↑m+2,↑m+3,↑m,↑m+1],_,_,H1,U,C,Qd t1 t2 _ _ _ _ _ f d (qd r) (qd (zr o)) (Qu r o),{a1,a2,{_,_,Q},j t1 _ _ B,j t2 _ _ K},λc A=>?_,q}
 have n:↑m≤c:=by
  simp only[List.mem_cons,List.not_mem_nil,or_false]at A
  rcases A with rfl|rfl|rfl|rfl|rfl
  ·exact vq _ _
  ·exact vq _ _
  ·exact vq _ _
  ·exact qb _
  ·exact vq _ _
 exact u.kJ n (u.a6.fresh n)
def Qa{k:Nat}(d:Gl X "zip")(f:X.mg "zip"=none)(e:PA X [a,b] ta)(hs:starEach [a,b] X.env=(false,eval a X.env)::starEach [b] X.env:=by rfl)(c:(backTo pos (starEach [b] X.env)).any (·.1)=false:=by rfl):PI X (.Tuple es k tp) (.Call (.Name "zip" p) [a,b] [] pos) (lK false true ta):=Ap (t1:=false) (t2:=true) M4 d f e hs c
def HL{k:Nat}(d:Gl X "zip")(f:X.mg "zip"=none)(e:PA X [a,b] ta)(hs:starEach [a,b] X.env=(false,eval a X.env)::starEach [b] X.env:=by rfl)(c:(backTo pos (starEach [b] X.env)).any (·.1)=false:=by rfl):PI X (.Tuple es k tp) (.Call (.Name "zip" p) [a,b] [] pos) (lK true true ta):=Ap (t1:=true) (t2:=true) O' d f e hs c
end
def rF{fr:List (Str×Nat)}{g:TG}(c:Nat->List V->Hp->Prop)(D:c 0 [] H)(A:∀i zs H,c i zs H->my H t1 a xs/\my H t2 b ys)(hz:xs.length≤sizeLine)(hs:∀i x y zs H' p (n:V->Hp->Prop) (s:Hp->Prop),xs[i]?=some x->ys[i]?=some y->c i zs H'->H' p=none->(∀v l,c (i+1) (zs++[v]) l->n v l)->(∀d,c (i+1) zs d->s d) →
   g (.ref p) (bc own fr σ) (upd H' p (.tup [x,y])) λh H2=>o h H2 λb d=>if b=true then te h d n else s d)(hd:∀H' p zs,c (min xs.length ys.length) zs H'->zs.length≤xs.length->H' p=none->Q (.ref p) (upd H' p (.lst zs))):l6 own fr g o te σ Q (D9 t1 t2 a b) H:=by
 refine{λi m zs H=>m=min xs.length ys.length - i/\i≤min xs.length ys.length/\zs.length≤i/\c i zs H,{min xs.length ys.length,U,zd _,zd _,D},?_};rintro i m zs H ⟨rfl,hi,E,p⟩;obtain⟨j,k⟩:=A _ _ H p
 by_cases f:i<min xs.length ys.length
 ·have h1:i<xs.length:=()
  have h2:i<ys.length:=()
  refine .inr {{xs,ys,xs[i],ys[i],j,k,qc h1,qc h2},(),λv H' y=>?_};obtain⟨r,x,z,hn,u,w,rfl,rfl⟩:=y
  refine hs i x z zs H r _ _ (u xs j) (w ys k) p hn (λv l C=>{min xs.length ys.length - (i+1),(),U,f,?_,C}) λd B=>{min xs.length ys.length - (i+1),(),U,f,(),B}
  rw[qm,zi];omega
 ·have e:i=min xs.length ys.length:=()
  exact .inl {{xs,ys,j,k,e},λq t=>hd H q zs (by rw[←e];exact p) () t}
section
variable {prog:Program}{w:World}{A:Around}{E:Value->Shared->Prop}
abbrev xF(xs:Array Value)(c:Nat):Obj:={ cls:=.type "list",dict:=none,data:=.seq xs c,slots:=#[] }
def Nd{I S:Addr}{T wr:List Addr}{St:Nat->Heap->Prop}(W:Walks prog w A.in1 I T wr n P St)(x:Nat->Nat->Bool)(C:CmpOf prog w A.in1 .Gt P x)(u:S∉T)(d:Value) :
  ∀(k i:Nat) (s:Shared) (bs:Array Value) (c:Nat),n - i=k->i≤n->St i s.heap->s.heap.get? S=some (xF bs c)->((i=0/\bs=#[])\/∃j v,i=j+1/\bs=#[v,v]/\P (argBest x j) v) →
   (∀v h' tk,(n=0/\v=d)\/(0<n/\P (argBest x (n - 1)) v)->(∀b o,b∉S::wr->s.heap.get? b=some o->h'.get? b=some o)->R (.ok (.ret v)) { s with heap:=h',toks:=tk }) →
   codeAny (model prog w) A (.builtin "max.loop" {[.ref I,.none,.ref S],[(Str.ofString "default",d)]}) R s:=by
 have D:S∉wr:=λh=>u (W.sub _ h)
 have g:(toString "max"++toString ".loop":String) = "max.loop":=⋯
 have O:∀{b:Addr},b∉S::wr->S≠b:=λa h=>a (by rw[h];exact ql)
 have K:∀{b:Addr},b∉S::wr->b∉wr:=λa h=>a (qo _ h);intro k
 induction k with
 |zero =>
  intro i s bs c X hi t G a y
  have E:i=n:=()
  refine codeAny_builtin F.entry_max_loop ?_;rw[Around.under_plainId F.plain_max_loop _];show wpAny _ A.in1 (seqItems? (.ref S) >>= _) _ _ s;refine qq (wpAny_seqItems G rfl ?_);show wpAny _ A.in1 (tryCatch (pyNext (.ref I)) _ >>= _) _ _ s;refine qq (wpAny_tryCatch (W.done s _ _ (E▸t) λh' tk q=>?_));rcases a with⟨V,rfl⟩|⟨j,v,M,rfl,z⟩
  ·show wpAny _ A.in1 (rule _ >>= _) _ _ _
   refine qq (wpAny_rule (qs ?_));exact y d h' tk (.inl {(),U}) λb o a e=>q b o (K a) e
  ·have f:=q S _ D G
   show wpAny _ A.in1 (updateSeq S (λ_=>#[]) >>= _) _ _ _;refine qq (wpAny_updateSeq (s:={ s with heap:=h',toks:=tk }) f rfl (qq (wpAny_letGo (qs ?_))));exact y v _ tk (.inr {(),by rw[←E,M];exact z}) λb o a e=>(Heap.get?_update_other _ _ (O a)).trans (q b o (K a) e)
 |succ k Q =>
  intro i s bs c X hi t G a y
  have N:i<n:=()
  refine codeAny_builtin F.entry_max_loop ?_;rw[Around.under_plainId F.plain_max_loop _];show wpAny _ A.in1 (seqItems? (.ref S) >>= _) _ _ s;refine qq (wpAny_seqItems G rfl ?_);show wpAny _ A.in1 (tryCatch (pyNext (.ref I)) _ >>= _) _ _ s;refine qq (wpAny_tryCatch (W.item i s _ _ N t λv h' tk z p q=>?_));have f:=q S _ D G;rcases a with⟨V,rfl⟩|⟨j,L,M,rfl,H⟩
  ·show wpAny _ A.in1 (updateSeq S (λ_=>#[v,v]) >>= _) _ _ _
   refine qq (wpAny_updateSeq (s:={ s with heap:=h',toks:=tk }) f rfl ?_);rw[g];refine qs {plainId_quiet F.plain_max_loop _,Q (i+1) _ #[v,v] _ () () (W.frame _ _ _ p λb r o e=>?_) (Heap.get?_update_self _ f rfl) (.inr {0,v,(),U,by rw[V]at z;exact z}) λB h2 m J l=>?_}
   ·exact(Heap.get?_update_other _ _ (λh:S=b=>u (by rw[h];exact r))).trans e
   ·exact y B h2 m J λb o a e=>l b o a ((Heap.get?_update_other _ _ (O a)).trans (q b o (K a) e))
  ·show wpAny _ A.in1 (tryCatch (holding [v,v] (richCompare .Gt v L >>= _)) _ >>= _) _ _ _
   refine qq (wpAny_tryCatch (qG (qq (C i (argBest x j) v L _ _ _ z H ?_))));refine qq (qG (wpAny_truthy_bool (qq (wpAny_letGo (qs ?_)))))
   cases a:x i (argBest x j) with
   |true =>
    simp only[if_true]
    refine qq (wpAny_updateSeq (s:={ s with heap:=h',toks:=tk }) f rfl (qq (wpAny_letGo ?_)));rw[g];refine qs {plainId_quiet F.plain_max_loop _,Q (i+1) _ #[v,v] _ () () (W.frame _ _ _ p λb r o e=>?_) (Heap.get?_update_self _ f rfl) (.inr {i,v,U,U,?_}) λB h2 m J l=>?_}
    ·exact(Heap.get?_update_other _ _ (λh:S=b=>u (by rw[h];exact r))).trans e
    ·subst M
     simp only[argBest,a,if_true]
     exact z
    ·exact y B h2 m J λb o a e=>l b o a ((Heap.get?_update_other _ _ (O a)).trans (q b o (K a) e))
   |false =>
    simp only[Bool.false_eq_true,if_false]
    refine qq (wpAny_letGo ?_);rw[g];refine qs {plainId_quiet F.plain_max_loop _,Q (i+1) { s with heap:=h',toks:=tk } #[L,L] c () () p f (.inr {i,L,U,U,?_}) λB h2 m J l=>?_}
    ·subst M
     simp only[argBest,a,Bool.false_eq_true,if_false]
     exact H
    ·exact y B h2 m J λb o a e=>l b o a (q b o (K a) e)
end
def N_(a v:Value):argsOk "max" {[a],[(Str.ofString "default",v)]}:=by unfold argsOk;kernel_rfl
def Qj{prog:Program}{w:World}{A:Around}{E:Value->Shared->Prop}{s:Shared}{id:String}{b:Builtin}{a:List Value}{d:List (Str×Value)}{Q:Value->Shared->Prop}(k:builtinKind id=none)(l:plainId id=true)(m:entryFor table id=some b)(n:argsOk id {a,d})(j:wpAny (model prog w) A.in1 (b {a,d}) (λi s'=>match i with
   |.done f=>(match(Except.ok f:Result) with|.ok (.ret v)=>Q v s' |.ok _=>False|.error e=>E e s')
   |.again c'=>c'.quiet=true/\codeAny (model prog w) A c' (λr s'=>match r with|.ok (.ret v)=>Q v s' |.ok _=>False|.error e=>E e s') s') E s) :
  wpAny (model prog w) A (call (.builtin id) a d) Q E s:=by
 refine wpAny_call (codeAny_call_builtin l m ?_)
 simp only[checkBuiltinCall,k]
 cases c:Manifest.signature? id with
 |none=>exact qs j
 |some h =>
  have g:Bind.checkArgs id h ⟨a,d⟩=pure Unit.unit:=by simpa only[argsOk,c] using n
  simp only[g]
  exact qs j
section
variable {X:Cx}
inductive zO(Q:VK)(vs:List V)(d:V)(H2:Hp):Prop
 |mk(p ns:_)(_:vs=[.ref p])(_:aw H2 p (List.map V.int ns))(_:(ns=[]->Q d H2))(_:∀m,m∈ns->(∀k∈ns,k≤m)->Q (.int m) H2)
def Lw(t:TA)(td:TE):TE:=λσ H Q=>t σ H λvs H1=>td σ H1 λd H2=>zO Q vs d H2
def Nl{t:TA}(K:X.calm=true)(Z:Gl X x)(hm:X.mg x=none)(J:bootBuiltins x=some (.builtin "max"))(ha:PA X [e] t)(hd:PE X L td)(hn:x≠"__name__":=by decide)(G:(x==("__debug__":Str))=false:=by decide)(N:starEach [e] X.env=(false,eval e X.env)::starEach [] X.env:=by rfl) :
  PE X (.Call (.Name x p) [e] [{some "default",L,kp}] pos) (Lw t td):=by
 refine{?_};intro pins s σ H Q I h;refine wpAny_Call_Name_kw (i4 I Z hm J ?_ hn G);refine callWith_kw (a8 (ha pos pins s σ H _ I h) λus s1 ⟨vs,H1,I1,r1,q1⟩=>kws_cons (a8 (hd pins s1 σ H1 _ I1 q1) λdv a ⟨d,H2,m,rd,W⟩=>kws_nil ?_)) (by rw[N];rfl) (by rw[N];rfl);obtain⟨l,k,rfl,V,T,q⟩:=W;obtain⟨u,rfl,Y⟩:=vals1 r1;cases Y;obtain⟨n,rv,pl,hz⟩:=m.list V;obtain⟨ps,e1,R⟩:=PV rv
 have hsz:ps.length=k.length:=by rw[←R,qa]
 have hI:a.heap.IsList l (intItems ps.toArray):=by
  have:intItems ps.toArray=n.toArray:=by unfold intItems;rw[e1];simp
  rw[this];exact pl.isList
 have g:l<↑a:=by obtain⟨_,e,_⟩:=hI;exact qB e
 have f:(toString "max"++toString ".loop":String) = "max.loop":=⋯
 refine Qj F.kind_max F.plain_max F.entry_max (N_ _ _) ?_;show wpAny _ X.A.in1 (Builtin.Builtins.bindParams "max" ["key","default"] 0 {[],[(Str.ofString "default",dv)]} >>= _) _ _ a;refine qq (wpAny_of_eq (show Builtin.Builtins.bindParams "max" ["key","default"] 0 {[],[(Str.ofString "default",dv)]}=pure [none,some dv] from rfl) ?_);refine qq (qs ?_);refine qq (wpAny_pyIter_list hI (qq (wpAny_newObj_type ?_)));rw[f];have D:(a.heap.push (ku "list_iterator" l)).objs.size=↑a+1:=Heap.size_push ..;have C:∀b o,a.heap.get? b=some o->((a.heap.push (ku "list_iterator" l)).push (xF #[] 0)).get? b=some o:=λb o e=>qC _ (qC _ e);have M:((a.heap.push (ku "list_iterator" l)).push (xF #[] 0)).IsListIter ↑a l 0:={_,qC _ (qD _ rfl),U,U};have B:((a.heap.push (ku "list_iterator" l)).push (xF #[] 0)).get? (a.heap.push (ku "list_iterator" l)).objs.size=some (xF #[] 0):=qD _ rfl;refine qs {plainId_quiet F.plain_max_loop _,?_};show codeAny _ X.A (.builtin "max.loop" {[.ref ↑a,.none,.ref (a.heap.push (ku "list_iterator" l)).objs.size],[(Str.ofString "default",dv)]}) _ { a with heap:=(a.heap.push (ku "list_iterator" l)).push (xF #[] 0) };rw[D]at B ⊢;generalize (a.heap.push (ku "list_iterator" l)).push (xF #[] 0)=h2 at C M B ⊢;have hd:=m.ok.hd K;have Wk:=Walks.list (prog:=X.prog) (w:=X.w) (A:=X.A.in1) hd ↑a l (qd g) (intItems ps.toArray)
 have P:∀j,numAt ps.toArray j=k.getD j 0:=λj=>by rw[numAt_eq];simp only[List.toList_toArray];rw[R]
 have sz:(intItems ps.toArray).size=k.length:=by rw[←hsz];simp[intItems]
 refine Nd Wk (λi j=>decide (numAt ps.toArray i>numAt ps.toArray j)) (CmpOf.ints_gt (numAt ps.toArray) (λ_ _=>intItems_at)) (S:=↑a+1) (λz=>?_) dv _ 0 { a with heap:=h2 } #[] 0 rfl (zd _) {M,hI.at λo e=>C l o e} B (.inl {U,U}) λv h' tk J r=>?_
 ·simp only[List.mem_cons,List.not_mem_nil,or_false]at z
  rcases z with z|z
  ·exact absurd z (zg (z7 _))
  ·exact absurd z (zg (zr g))
 have kk:∀b o,a.heap.get? b=some o->h'.get? b=some o:=λb o e=>r b o (λz=>by
  have O:=qB e
  simp only[List.mem_cons,List.not_mem_nil,or_false]at z
  rcases z with z|z
  ·exact absurd z (qd (zr O))
  ·exact absurd z (qd O)) (C b o e)
 rcases J with⟨h0,rfl⟩|⟨h0,hP⟩
 ·exact⟨d,H2,m.kept kk,rd,T (gu.mp ())⟩
 ·obtain⟨y,rfl⟩:=intItems_at hP
  obtain⟨g1,g2⟩:=argBest_gt (numAt ps.toArray) ((intItems ps.toArray).size - 1)
  have c:argBest (λi j=>decide (numAt ps.toArray i>numAt ps.toArray j)) ((intItems ps.toArray).size - 1)<k.length:=()
  refine{.int _,H2,m.kept kk,{y,U},q _ ?_ λk' E=>?_}
  ·rw[P,qu,qc c]
   exact vg c
  ·obtain⟨j,hj,rfl⟩:=zv.mp E
   have:=g2 j ();rw[P j,qu,qc hj]at this;exact this
end
section
variable {prog:Program}{w:World}{A:Around}{E:Value->Shared->Prop}{s:Shared}
def IU(hs:(d==sysModules)=false)(b:s.heap.get? d=some od)(c:od.ExactDict)(e:Q (.ref ↑s) { s with heap:=s.heap.push { cls:=.type "dict_values",data:=.fields #[.ref d] } }):wpAny (model prog w) A (call (.builtin "dict.values") [.ref d]) Q E s:=by
 have a:s.TypeIs (.ref d) "dict":={od,b,c.1};refine qI F.slot_dict_values a F.entry_dict_values ?_ (F.args_dict_values_1 _);unfold Builtin.«dict.values»;refine qq ?_;unfold Builtin.Dict.noArgs;refine qq (wpAny_notOrdered_dict a ?_);show wpAny _ _ (pure d) _ _ s;refine qs ?_;show wpAny _ _ (Builtin.Dict.showsAll d >>= _) _ _ s;unfold Builtin.Dict.showsAll;rw[qt (by rw[hs];exact qp)];refine qq (qs ?_);exact qq (wpAny_newObj_type (qs {_,U,e}))
def Jo(f:s.heap.IsValuesView v d)(g:s.heap.get? d=some od)(a:od.data=.dict es ep)(i:Q (.ref ↑s) { s with heap:=s.heap.push { cls:=.type "dict_valueiterator",data:=.fields #[.ref d,.int 0 0,.int es.size 0,.int ep 0] } }) :
  wpAny (model prog w) A (pyIter (.ref v)) Q E s:=by
 obtain⟨j,e,h,c⟩:=id f;refine wpAny_pyIter_slot f.typeIs F.slot_dict_values_iter (qI F.slot_dict_values_iter f.typeIs F.entry_dict_values_iter ?_ (F.args_dict_values_iter_1 _));unfold Builtin.«dict_values.__iter__»;refine qq (qs ?_);refine qq ?_;unfold Builtin.Dict_items.dictOf;refine qq (wpAny_field e c (x:=.ref d) rfl (qs ?_));refine qq ?_;unfold Builtin.Dict_items.newIterator;refine qq (wpAny_dictEntries g a ?_);refine qq (wpAny_dictEpoch g a ?_)
 have b:Builtin.Dict_items.ownsTuple "dict_valueiterator"=false:=⋯
 simp only[b,Bool.false_eq_true,if_false]
 refine wpAny_newObj_type (qs {_,U,"dict_valueiterator",_,{_,qD _ rfl,U},F.slot_dict_valueiterator_next.lookup,?_});simpa[rawInt] using i
def sH(l:A.handled=none)(c:s.heap.IsValIter it d i n ep)(g:s.heap.get? d=some od)(f:od.data=.dict es ep)(hn:es.size=n)(h1:∀(hi:i<es.size) h',h'.IsValIter it d (i+1) n ep->Heap.SameBut it s.heap h'->Q (some es[i].val) { s with heap:=h' })(h2:es.size≤i->∀h',Heap.ExtBut it s.heap h'->Q none { s with heap:=h' }):wpAny (model prog w) A (pyNext (.ref it)) Q E s:=by
 obtain⟨o,j,k,hd⟩:=id c;subst hn;unfold pyNext
 refine qq (wpAny_attempt (wpAny_callSpecial?_slot (name:=Str.ofString "__next__") c.typeIs F.slot_dict_valueiterator_next
  (qI F.slot_dict_valueiterator_next c.typeIs F.entry_dict_valueiterator_next ?_ (F.args_dict_valueiterator_next_1 _))))
 refine qq (qs (qq (qq ?_)))
 first|refine qq (wpAny_typeNameOfWhole_valiter c.typeIs (qs ?_))|refine qq (wpAny_typeNameOf_valiter c.typeIs (qs ?_))
 refine qq (wpAny_fieldsOf j hd ?_)
 simp only[show Builtin.Dict_items.ownsTuple "dict_valueiterator"=false from ⋯,Bool.false_eq_true,if_false]
 show wpAny _ _ (if(Value.ref d==Value.none)=true then _ else _) _ _ s;rw[qt (show ¬((Value.ref d==Value.none)=true) from qp)];refine qq (qs (qq (wpAny_dictEntries g f ?_)));rw[qt (by simp)];refine qq (qs (qq (wpAny_dictEpoch g f ?_)));rw[qt (by simp)];refine qs ?_
 by_cases hi:i<es.size
 ·simp only[show ¬((i:Int)<0) from (),if_false,Int.toNat_natCast,Array.getElem?_eq_getElem hi]
  refine qq ?_
  first|refine qq (wpAny_typeNameOfWhole_valiter c.typeIs (qs ?_))|refine qq (wpAny_typeNameOf_valiter c.typeIs (qs ?_))
  refine qq (wpAny_isOneOf_valiter c.typeIs ?_);show wpAny _ _ (setField (.ref it) 1 (rawInt ((i:Int)+1)) >>= _) _ _ s;refine qq (wpAny_setField j hd (by simp) ?_)
  have e:(s.heap.update it (Obj.mapFields (·.setIfInBounds 1 (rawInt ((i:Int)+1))))).IsValIter it d (i+1) es.size ep :=
   {_,Heap.get?_update_self _ j (Obj.isFreed_of_fields (Obj.data_mapFields hd _)),(Obj.cls_mapFields ..).trans k,by rw[Obj.data_mapFields hd];simp[rawInt]}
  refine qq (qG ?_);refine qq (wpAny_isOneOf_valiter (s:={ s with heap:=s.heap.update it (Obj.mapFields (·.setIfInBounds 1 (rawInt ((i:Int)+1)))) }) e.typeIs ?_);refine qq (wpAny_isOneOf_valiter (s:={ s with heap:=s.heap.update it (Obj.mapFields (·.setIfInBounds 1 (rawInt ((i:Int)+1)))) }) e.typeIs ?_);show wpAny _ _ (pure es[i].val) _ _ _;exact qs (qs {_,U,qs (h1 hi _ e (Heap.SameBut.update ..))})
 ·have h:es.size≤i:=()
  simp only[show ¬((i:Int)<0) from (),if_false,Int.toNat_natCast,Array.getElem?_eq_none h]
  refine qq ?_
  first|refine qq (wpAny_typeNameOfWhole_valiter c.typeIs (qs ?_))|refine qq (wpAny_typeNameOf_valiter c.typeIs (qs ?_))
  show wpAny _ _ (setField (.ref it) 0 .none >>= _) _ _ s;refine qq (wpAny_setField j hd (by simp) ?_);show wpAny _ _ (newExc (.type "StopIteration") [] >>= _) _ _ _;refine qq ?_
  simp only[newExc,newTuple]
  refine qq (wpAny_newObj_type ?_ (by size_fits));refine qq (m:=firstArgMember _ _) (wpAny_of_eq (a:=Value.none) (by first|rfl|(simp only[firstArgMember];rfl)) ?_);refine wpAny_newObj_type ?_ (by size_fits)
  simp only[raiseNew]
  refine qq (wpAny_handled ?_);rw[show A.in1.handled=none from l];refine qq (qs (wpAny_throw ?_));refine qq (wpAny_isInstance (T:="StopIteration") (b:=true) {_,qD _ rfl,U} isSubtype_stop ?_);exact qs (h2 h _ (((Heap.SameBut.update ..).extBut.push _).push _))
def MI:isSubtype (.type "dict_values") (.type "dict_values")=pure true:=by rw[isSubtype_type];kernel_rfl
def GZ:entryFor table "dict_valueiterator.__iter__"=some Builtin.«dict_keyiterator.__iter__»:=entryFor_alias (id':="dict_keyiterator.__iter__") (by kernel_rfl) rfl ∅ (by kernel_rfl)
def Ol(p:A.handled=none)(n:it≠d)(a:od.data=.dict es ep) :
  WalksS prog w A it [it,d] [it] Eq es.size (λj v=>(es[j]?).map (·.val)=some v) (λi s=>s.heap.IsValIter it d i es.size ep/\s.heap.get? d=some od) where
 sub:=λb l=>by rw[zb.mp l];exact ql
 grefl:=λ_=>rfl
 gtrans:=λ_ _ _ h1 h2=>h1.trans h2
 frame:=λi s h' tk ⟨⟨o,e,c,r⟩,g⟩ _ k=>{{o,k it ql o e,c,r},k d (qo _ ql) od g}
 item:=λi s Q E hi ⟨st,g⟩ k=>sH p st g a rfl (λf h' m q=>k _ _ (by rw[zp f];rfl) {m,(q.2 d n.symm).trans g} {λb o l e=>(q.2 b (λz=>l (by rw[z];exact ql))).trans e,U,U,U,qb _}) λz=>absurd hi ()
 done:=λs Q E ⟨st,g⟩ k=>sH p st g a rfl (λf=>absurd f ()) λ_ h' t=>k _ {λb o l e=>t b o (λz=>l (by rw[z];exact ql)) e,U,U,U,qb _}
 self:=λi s Q E ⟨st,_⟩ h=>by
  refine wpAny_pyIter_slot st.typeIs F.slot_dict_valueiterator_iter (qI F.slot_dict_valueiterator_iter st.typeIs GZ ?_ (F.args_dict_valueiterator_iter_1 _));show wpAny _ _ (ret (.ref _)) _ _ s;exact qs {_,U,"dict_valueiterator",_,st.typeIs,F.slot_dict_valueiterator_next.lookup,h}
def Nn{es:Array DictEntry}{a:Array Value}(h:ItemsOf (λj v=>(es[j]?).map (·.val)=some v) a es.size):a.toList=es.toList.map (·.val):=by
 apply wm;intro j
 by_cases b:j<a.size
 ·have c:j<es.size:=by rw[←h.1];exact b
  have:=h.2 j a[j] (zp b);rw[zu,zp b,qh,zu];exact this.symm
 ·have c:¬j<es.size:=by rw[←h.1];exact b
  rw[vy (by rw[zh];omega),vy (by rw[qa,zh];omega)]
end
section
variable {X:Cx}{pins:List (Addr×Obj)}{σ:St}{H:Hp}{s:Shared}
def DO(hd:o.data=.dict es ep)(I:Inv X pins σ H s)(e:H a=some (.eD o (.dG kvs))):s.heap.get? a=some o/\es.size=kvs.length/\∀i (hi:i<es.size) (f:i<kvs.length),RelV kvs[i].2.2 es[i].val:=by
 obtain⟨j,_,_,xs,d,o',k,l,c,_,b,h,_⟩:s.heap.get? a=some o/\aQ X.prog X.w H s.heap a (.dG kvs):=I.a6 a _ e;rw[j]at c;cases c;rw[hd]at b;injection b with b _;subst b
 have n:es.toList.length=kvs.length:=by rw[h,qa,d.length]
 refine{j,by simpa using n,λi hi f=>?_}
 have g:i<xs.length:=by rw[←d.length];exact f
 have m:es[i].val=xs[i].2.2:=by
  have h1:es.toList[i]?=some es[i]:=by simp[hi]
  rw[h,qh,qc g]at h1;rw[←qE h1];rfl
 rw[m];exact(G6 d i f g).2.2.2
end
def kG(a:Addr)(o:Obj)(kvs:List (KD×V×V)):It :=
 {λi H=>H a=some (.eD o (.dG kvs))/\i<kvs.length,λi H x H'=>H'=H/\∃e,kvs[i]?=some e/\x=e.2.2,λi H=>H a=some (.eD o (.dG kvs))/\kvs.length≤i}
def NC{P:Program}{w:World}{K:PySem.W.Frag}{tg:Expr}(a it:Addr){o:Obj}{es:Array DictEntry}{ep:Nat}{kvs:List (KD×V×V)}(hd:o.data=.dict es ep):Turn P w K tg (kG a o kvs) [it] it (λi h=>h.IsValIter it a i kvs.length ep) where
 mem:=by simp
 obj:=λi h st b g=>by
  have e:b=it:=by simpa using g
  subst e;obtain⟨o,e,c,d⟩:=st;exact{o,e,λv z=>by rw[d]at z;cases z}
 keep:=λi h h' ⟨o,e,r⟩ k=>{o,k it (by simp) o e,r}
 item:=by
  intro X D hw u m i pins s σ H E I hf st t;subst D hw u;obtain⟨y,hi⟩:=t;obtain⟨x,q,l⟩:=DO hd I y;obtain⟨C,f1,f2,n,p,B⟩:=hf it (by simp)
  refine sH (I.ok.hd m) st x hd q (λf h' j J=>?_) λz=>absurd hi ()
  have L:Inv X pins σ H { s with heap:=h' }:=I.turned (t':=s.toks) (λb o g e=>(J.2 b g).trans e) C f1 n p B;obtain⟨M,e,c,d⟩:=id j;exact{es[i].val,U,iM (s:={ s with heap:=h' }) e c d ⋯ {kvs[i].2.2,H,L,l i f hi,{U,kvs[i],qc hi,U},j,λb g=>(hf b g).1}}
 done:=by
  intro X D hw u m i pins s σ H E I hf st t;subst D hw u;obtain⟨y,hi⟩:=t;obtain⟨x,q,l⟩:=DO hd I y;obtain⟨C,f1,f2,n,p,B⟩:=hf it (by simp);exact sH (I.ok.hd m) st x hd q (λf=>absurd f ()) λ_ h' G=>{U,I.turned (t':=s.toks) (λb o g e=>G b o g e) C f1 n p B}
 self:=λA i s Q E st h=>by
  refine wpAny_pyIter_slot st.typeIs F.slot_dict_valueiterator_iter (qI F.slot_dict_valueiterator_iter st.typeIs GZ ?_ (F.args_dict_valueiterator_iter_1 _));show wpAny _ _ (ret (.ref it)) _ _ s;exact qs {_,U,"dict_valueiterator",_,st.typeIs,F.slot_dict_valueiterator_next.lookup,h}
inductive rY(R:It->Hp->Prop)(x:V)(H1:Hp):Prop
 |mk(a kvs:_)(_:x=.ref a)(_:((H1 a=some (.dG kvs)/\∀o,R (kG a o kvs) (upd H1 a (.eD o (.dG kvs))))\/∃o,H1 a=some (.eD o (.dG kvs))/\R (kG a o kvs) H1))
def zz(tl:TE):TI:=λσ H R=>tl σ H λx H1=>rY R x H1
section
variable {X:Cx}
def NJ{tl:TE}(B:PE X l tl)(g:attributeBase l "values" X.env (eval l X.env)=eval l X.env:=by rfl)(d:(apos.endLine==cpos.line)=true:=by rfl):PI X tg (.Call (.Attribute l "values" apos) [] [] cpos) (zz tl):=by
 refine{?_};intro pins s σ H R I h;refine wpAny_Call_method0_late g d (a8 (B pins s σ H _ I h) λv c ⟨x,H1,u,E,C⟩=>?_);obtain⟨a,kvs,e,q⟩:=C;subst e;cases E
 obtain⟨H2,o,p,y,A⟩:∃(H2:Hp) (o:Obj),Inv X pins σ H2 c/\H2 a=some (.eD o (.dG kvs))/\R (kG a o kvs) H2:=by
  rcases q with⟨k,q⟩|⟨o,k,q⟩
  ·obtain⟨_,_,xs,_,o,es,ep,f,_⟩:=(show aQ X.prog X.w H1 c.heap a (.dG kvs) from u.a6 a _ k)
   exact{_,o,u.tj k f,aG,q o}
  ·exact{_,o,u,k,q}
 obtain⟨f,_,t,xs,_,o',es,ep,i,m,hd,_,_⟩:c.heap.get? a=some o/\aQ X.prog X.w H2 c.heap a (.dG kvs):=p.a6 a _ y;rw[f]at i;cases i;obtain⟨_,j,_⟩:=DO hd p y;refine{"dict","dict.values",PySem.F.plainAttrs_dict,PySem.F.slot_dict_values,PySem.F.type_dict_values,{o,f,m.1},λb z=>?_,Calls.callWith_builtin rfl (PySem.evalArgs_none (IU t f m ?_))}
 ·cases z
  exact{o,f,m.2.1}
 have r:(c.heap.push { cls:=.type "dict_values",data:=.fields #[.ref a] }).get? a=some o:=qC _ f;refine Jo (s:={ c with heap:=c.heap.push { cls:=.type "dict_values",data:=.fields #[.ref a] } }) (v:=↑c) {_,qD _ rfl,U,U} r hd ?_;have n:Inv X pins σ H2 { c with heap:=c.heap.push { cls:=.type "dict_values",data:=.fields #[.ref a] } }:=p.kept (t':=c.toks) λb o e=>qC _ e;refine{(c.heap.push { cls:=.type "dict_values",data:=.fields #[.ref a] }).objs.size,[(c.heap.push { cls:=.type "dict_values",data:=.fields #[.ref a] }).objs.size],_,_,H2,U,n.kept (t':=c.toks) λb o e=>qC _ e,NC a _ hd,{_,qD _ rfl,U,by rw[j];rfl},λb D=>?_,A}
 have e:b=(c.heap.push { cls:=.type "dict_values",data:=.fields #[.ref a] }).objs.size:=by simpa using D
 subst e;exact n.kJ (qb _) (n.a6.fresh (qb _))
end
def OP{a:Addr}{o:Obj}{kvs:List (KD×V×V)}{g:TG}{tb:TS}{D:Ends}{σ:St}{H:Hp}(b:Nat->St->Hp->Prop)(l:b 0 σ H)(h:∀i σ H,b i σ H->H a=some (.eD o (.dG kvs)))(hs:∀i e σ H,kvs[i]?=some e->b i σ H->g e.2.2 σ H λc H2=>tb { D with nx:=b (i+1),ct:=b (i+1),bk:=D.nx } c H2)(hd:∀σ H,b kvs.length σ H->D.nx σ H) :
  ∃W:Nat->Nat->St->Hp->Prop,(∃m,W 0 m σ H)/\∀i m σ H,W i m σ H →
   ((kG a o kvs).stop i H/\D.nx σ H)\/((kG a o kvs).go i H/\∃N:St->Hp->Prop,(∀σ' H',N σ' H'->∃f,f<m/\W (i+1) f σ' H')/\∀x H',(kG a o kvs).vl i H x H'->g x σ H' λc H2=>tb { D with nx:=N,ct:=N,bk:=D.nx } c H2):=by
 refine{λi m σ H=>m=kvs.length - i/\i≤kvs.length/\b i σ H,{kvs.length,U,zd _,l},?_};rintro i m σ H ⟨rfl,hi,p⟩
 by_cases d:i<kvs.length
 ·refine .inr {{h i σ H p,d},b (i+1),λσ' H' j=>{kvs.length - (i+1),(),U,d,j},?_}
  rintro x H' ⟨rfl,e,k,rfl⟩;exact hs i e σ H' k p
 ·have e:i=kvs.length:=()
  exact .inl {{h i σ H p,()},hd σ H (by rw[←e];exact p)}
section
variable {prog:Program}{w:World}{A:Around}{E:Value->Shared->Prop}{s:Shared}
def OG(N:A.handled=none)(O:s.heap.IsValuesView v d)(I:s.heap.get? d=some od)(i:od.data=.dict es ep)(hz:es.size≤sizeLine)(P:∀s',Moved [] Eq s s'->Q (es.toList.map (·.val)) s'):wpAny (model prog w) A (collect (.ref v)) Q E s:=by
 unfold collect;refine qq (wpAny_runValue (codeAny_builtin F.entry_proto_collect ?_));rw[Around.under_plainId F.plain_proto_collect _];show wpAny _ A.in1 (newList [] >>= λl=>again (.builtin "list.__iadd__" {[l,.ref v],[]})) _ _ s;refine qq (wpAny_newObj_type ?_);refine qs {plainId_quiet F.plain_list_iadd _,codeAny_builtin F.entry_list_iadd ?_};rw[Around.under_plainId F.plain_list_iadd _];have y:(s.heap.push { cls:=.type "list",data:=.seq ([]:List Value).toArray }).get? d=some od:=qC _ I;obtain⟨G,g,m,K⟩:=id O;have L:v<↑s:=qB g;have M:Shared.TypeIs { s with heap:=s.heap.push { cls:=.type "list",data:=.seq ([]:List Value).toArray } } (.ref v) "dict_values":={G,qC _ g,m}
 have k:d<↑s:=by
  rcases yx d ↑s with h|h
  ·exact h
  ·exfalso
   have:s.heap.get? d=none:=by
    unfold Heap.get?;rw[jx h]
   rw[this]at I;cases I
 have h1:Builtin.List.listSameRef (.ref ↑s) (.ref v)=false:=by
  show(↑s==v)=false;exact beq_eq_false_iff_ne.mpr (zg L)
 show wpAny _ A.in1 (Builtin.List.listExtendWith (.ref ↑s) (.ref v) (.ref ↑s)) _ _ _;unfold Builtin.List.listExtendWith;refine qq (wpAny_typeOf M ?_);rw[qt (by rw[h1];decide)];refine qq (Jo (v:=v) {G,qC _ g,m,K} y i ?_);refine qq (qG ?_);generalize c:(s.heap.push { cls:=.type "list",data:=.seq ([]:List Value).toArray }).push { cls:=.type "dict_valueiterator",data:=.fields #[.ref d,.int 0 0,.int es.size 0,.int ep 0] }=h2
 have H:h2.get? d=some od:=by rw[←c];exact qC _ y
 have D:h2.get? v=some G:=by rw[←c];exact qC _ (qC _ g)
 have p:Shared.TypeIs { s with heap:=h2 } (.ref v) "dict_values":={G,D,m};unfold Builtin.List.listLengthHint;refine qq (wpAny_specialOf (name:=Str.ofString "__len__") p F.slot_dict_values_len.lookup ?_);generalize C:("dict_values.__len__":String)=id0
 wp_delta
 rw[show splitId id0=some ("dict_values","__len__") from by subst C;decide +kernel];subst C;refine qq (wpAny_isInstance (T:="dict_values") (b:=true) p MI ?_);rw[qt ⋯]
 wp_delta
 rw[q0 ∅];refine qq (wpAny_typeOf p (qs ?_));rw[q0 ∅]
 have x:h2.get? ↑s=some { cls:=.type "list",data:=.seq ([]:List Value).toArray }:=by rw[←c];exact qC _ (qD _ rfl)
 refine qq (wpAny_rule (qq ?_));unfold Builtin.List.listTouch;refine qq (listUpdate_at x rfl ?_);obtain⟨c1,n⟩:∃c1,(h2.update ↑s (Obj.mapSeq (·.push Value.none))).get? ↑s=some (seqObj "list" #[Value.none] c1):={_,get?_update_seq x _};have f:∀b o,b≠↑s->h2.get? b=some o->(h2.update ↑s (Obj.mapSeq (·.push Value.none))).get? b=some o:=λb o j e=>(Heap.get?_update_other _ _ (λz=>j z.symm)).trans e;generalize h2.update ↑s (Obj.mapSeq (·.push Value.none))=h3 at n f;refine listUpdate_at (s:={ s with heap:=h3 }) n rfl ?_;obtain⟨c2,u⟩:∃c2,(h3.update ↑s (Obj.mapSeq (·.pop))).get? ↑s=some (seqObj "list" #[] c2):={_,get?_update_seq n _};have a:∀b o,b≠↑s->h2.get? b=some o->(h3.update ↑s (Obj.mapSeq (·.pop))).get? b=some o:=λb o j e=>(Heap.get?_update_other _ _ (λz=>j z.symm)).trans (f b o j e);show wpAny _ _ _ _ _ { s with heap:=h3.update ↑s (Obj.mapSeq (·.pop)) };generalize h3.update ↑s (Obj.mapSeq (·.pop))=h4 at u a;have hsz:(s.heap.push { cls:=.type "list",data:=.seq ([]:List Value).toArray }).objs.size=↑s+1:=size_push' _ _
 have q:h2.get? (↑s+1)=some { cls:=.type "dict_valueiterator",data:=.fields #[.ref d,.int 0 0,.int es.size 0,.int ep 0] }:=by rw[←c,←hsz];exact qD _ rfl
 show wpAny _ _ (again (Code.builtin "list.extend.loop" {[Value.ref ↑s,Value.ref (s.heap.push { cls:=.type "list",data:=.seq ([]:List Value).toArray }).objs.size,Value.ref ↑s],[]})) _ _ _;rw[hsz];have W:=Ol (prog:=prog) (w:=w) (A:=A.in1) (it:=↑s+1) (d:=d) (od:=od) (es:=es) (ep:=ep) N (zg (zr k)) i;refine qs {plainId_quiet F.plain_extend_loop _,codeAny_extend_loopS W hz ↑s (λz=>?_) _ es.size 0 { s with heap:=h4 } #[] c2 rfl (zd _) {{_,a _ _ (y9 _) q,U,U},a _ _ (qd k) H} u (ItemsOf.nil _) λs' r R B J t=>?_}
 ·simp only[List.mem_cons,List.not_mem_nil,or_false]at z
  rcases z with z|z
  ·exact y9 _ z.symm
  ·exact zg k z
 ·show wpAny _ A (load ↑s >>= _) _ _ s'
  refine qq (wpAny_load J ?_);show wpAny _ _ (pure r.toList) Q E s';rw[Nn t];refine qs (P s' {λb o _ e=>?_,B.gens,B.drawn,B.os,B.toks})
  have j:b<↑s:=by
   rcases yx b ↑s with h|h
   ·exact h
   ·exfalso
    have:s.heap.get? b=none:=by
     unfold Heap.get?;rw[jx h]
    rw[this]at e;cases e
  refine B.heap b o (λz=>?_) (a b o (qd j) ?_)
  ·simp only[List.mem_cons,List.not_mem_nil,or_false]at z
   rcases z with z|z
   ·exact qd j z
   ·exact qd (zr j) z
  ·rw[←c]
   exact qC _ (qC _ e)
end
inductive rS(sp:Sp)(Q:VK)(x:V)(H1:Hp):Prop
 |mk(a kvs ds t:_)(_:x=.ref a)(_:Rd H1 a (.dG kvs))(_:ds.length=kvs.length)(_:KeysAre ds t)(_:kj kvs.length ds)(_:(∀(m:Nat) y d H' (Q':VK),(kvs.map (·.2.2))[m]?=some y->ds[m]?=some d->ab H1 H'->(∀H'' kv,ab H' H''->DV H'' kv d->Q' kv H'')->sp [y] H' Q' E0))(_:∀q H' ix,H1 q=none->ab H1 H'->fS ds ix->H' q=some (.lst (ix.map λi=>(kvs.map (·.2.2)).getD i .aT))->Q (.ref q) H')
def nG(sp:Sp)(tl:TE):TE:=λσ H Q=>tl σ H λx H1=>rS sp Q x H1
section
variable {X:Cx}{k:Nat}{fa:Addr}{fd:FuncData}{ps:List Str}{sp:Sp}
def Q2{tl:TE}(F:cE X.prog X.w X.K X.mg X.base ia k fa fd ps sp)(T:aZ (k+1) X.A)(L:X.calm=true)(hg:Gl X x)(hm:X.mg x=none)(hv:bootBuiltins x=some (.builtin "sorted"))(E:Gl X y)(D:X.mg y=some (.ref fa))(hb:Binds X.K fd ps [])(S:ps.length=1)(hl:PE X l tl)(hn:x≠"__name__":=by decide)(J:(x==("__debug__":Str))=false:=by decide)(B:(y==("__debug__":Str))=false:=by decide)(i:attributeBase l "values" X.env (eval l X.env)=eval l X.env:=by rfl)(g:(apos.endLine==cpos.line)=true:=by rfl)(n:starEach [.Call (.Attribute l "values" apos) [] [] cpos] X.env=[(false,eval (.Call (.Attribute l "values" apos) [] [] cpos) X.env)]:=by rfl) :
  PE X (.Call (.Name x p) [.Call (.Attribute l "values" apos) [] [] cpos] [{some "key",.Name y yp,kp}] pos) (nG sp tl):=by
 refine{?_};intro pins s σ H Q I h;refine wpAny_Call_Name_kw (i4 I hg hm hv ?_ hn J);refine callWith_kw ?_ (by rw[n];rfl) (by rw[n];rfl);rw[n];refine Calls.spliced_cons ?_;refine wpAny_Call_method0_late i g (a8 (hl pins s σ H _ I h) λv d ⟨x,H1,P,R,q1⟩=>?_);obtain⟨a,kvs,ds,t,e,rd,O,hk,r,j,q⟩:=q1;subst e;cases R;obtain⟨_,N,xs,Y,o,es,ep,u,f,hd,W,_⟩:aQ X.prog X.w H1 d.heap a (.dG kvs):=rd.ok P.a6
 have c:es.size=kvs.length:=by
  have:es.toList.length=kvs.length:=by rw[W,qa,Y.length]
  simpa using this
 refine{"dict","dict.values",PySem.F.plainAttrs_dict,PySem.F.slot_dict_values,PySem.F.type_dict_values,{o,u,f.1},λb z=>?_,Calls.callWith_builtin rfl (PySem.evalArgs_none (IU N u f ?_))}
 ·cases z
  exact{o,u,f.2.1}
 have G:(d.heap.push { cls:=.type "dict_values",data:=.fields #[.ref a] }).get? a=some o:=qC _ u;have V:Inv X pins σ H1 { d with heap:=d.heap.push { cls:=.type "dict_values",data:=.fields #[.ref a] } }:=P.kept (t':=d.toks) λb o e=>qC _ e;refine Calls.spliced_nil (kws_cons (oQ V E D (kws_nil ?_) B));have M:=r.1
 have zl:(es.toList.map (·.val)).length≤sizeLine:=by rw[qa,zh,c,sizeLine_eq];omega
 refine call_function_entry_kw kind_sorted plain_sorted entry_sorted (ksk_s1 _ _) ?_;unfold Builtin.«sorted»;refine qq (m:=checkCount "sorted" 1 1 _) (qs (qq (OG (s:={ d with heap:=d.heap.push { cls:=.type "dict_values",data:=.fields #[.ref a] } }) (P.ok.hd L) (v:=↑d) {_,qD _ rfl,U,U} G hd (by rw[c,sizeLine_eq];omega) λs' m=>qq (wpAny_newList ?_ zl))));have Z:=V.moved m
 have rv:aA (kvs.map (·.2.2)) (es.toList.map (·.val)):=by
  rw[W,zj];exact(N8 Y).1
 refine II (λs' Hm x y Q C _ _ R j=>F.run X.A.in1.in1 X.stack s' Hm {[x],[]} [x] [y] Q E0 T.RB C (by
  have:=hb s' [x] (C.mod.uV.keeps λb o e=>(C.bs b o e).1) (by rw[S];rfl)
  simpa using this) (.cons R .nil) j) (by have:=T.un;omega) Z rv (by rw[O,List.length_map]) hk (by rw[List.length_map];exact r) j q (.push _ _) (qD _ rfl) (Nat.le_refl _)
end
structure Ma(K:PySem.W.Frag)(C:Addr)(m:Str)(f:Addr):Prop where
 me:mF K C m f
 gf:specialIn K (.ref f) "__get__"=some (some (.builtin "function.__get__"))
 tk:takesIn K (.ref f)=some false
 cp:copiedNames.contains m=false
section
variable {X:Cx}{pins:List (Addr×Obj)}{σ:St}{H:Hp}{s:Shared}{a C dx g:Addr}{fs:List (Str×V)}{m:Str}{A:Around}{E:Value->Shared->Prop}
def Pa(I:Inv X pins σ H s)(e:H a=some (.ins C dx fs))(c:j_ X.K C)(k:Ma X.K C m g)(l:fs.lookup m=none)(h:∀s',Inv X pins σ H s'->s'.heap.get? ↑s=some (methodObj (.ref g) (.ref a))->Q (.ref ↑s) s'):wpAny (model X.prog X.w) A (getAttr (.ref a) m b) Q E s:=by
 obtain⟨mA,O,r,_,_,_⟩:=pU I.a6 e;have hn:mA m=none:=dP.none_of (by rw[←l];exact r m);obtain⟨od,J,d⟩:=O.look;refine get_bind I.f5 J (plainGet_of (c.get m)).1 (findObj_fn c.hd k.me.at_ k.gf k.tk k.cp (by rw[d,hn])) (plainGet_of (c.get m)).2 ?_;refine wpAny_call (fn_get (s:={ s with toks:=s.toks+1 }) I.f5 (beq_iff_eq.mp k.me.fn) (handed_on rfl (h _ ?_ (qD _ rfl))));exact I.kept (t':=s.toks+1) λb o e=>qC _ e
end
inductive sQ(C:Addr)(m:Str)(sp:Sp)(H:Hp)(Q:VK)(vs:List V)(x:V)(H2:Hp):Prop
 |mk(a dx fs:_)(_:x=.ref a)(_:H2 a=some (.ins C dx fs))(_:fs.lookup m=none)(_:qJ (λws H Q E=>sp (.ref a::ws) H Q E) vs H2 Q)
def pO(C:Addr)(m:Str)(sp:Sp)(t:TA)(ta:TE):TE:=λσ H Q=>t σ H λvs H1=>ta σ H1 λx H2=>sQ C m sp H Q vs x H2
section
variable {X:Cx}{k:Nat}{g C:Addr}{fd:FuncData}{ps:List Str}{sp:Sp}
def QN{t:TA}(F:cE X.prog X.w X.K X.mg X.base ia k g fd ps sp)(z:aZ (k+1) X.A)(J:Gl X x)(U:X.mg x=none)(V:bootBuiltins x=some (.builtin "sorted"))(c:j_ X.K C)(Y:Ma X.K C m g)(S:Binds X.K fd ps [])(r:ps.length=2)(M:PA X [e] t)(O:PE X o ta)(hn:x≠"__name__":=by decide)(j:(x==("__debug__":Str))=false:=by decide)(u:attributeBase o m X.env (eval o X.env)=eval o X.env:=by rfl)(B:starEach [e] X.env=(false,eval e X.env)::starEach [] X.env:=by rfl):PE X (.Call (.Name x p) [e] [{some "key",.Attribute o m apos,kp}] pos) (pO C m sp t ta):=by
 refine{?_};intro pins s σ H Q I h;refine wpAny_Call_Name_kw (i4 I J U V ?_ hn j);refine callWith_kw (a8 (M pos pins s σ H _ I h) λus W ⟨vs,H1,Z,q,R⟩=>kws_cons (Ka u (a8 (O pins W σ H1 _ Z R) λv D ⟨x,H2,i,T,a,dx,fs,ex,P,l,G⟩=>?_))) (by rw[B];rfl) (by rw[B];rfl);subst ex;obtain rfl:v=Value.ref a:=T;refine Pa i P c Y l λs3 E d=>kws_nil ?_;have hf:H2 ↑D=none:=i.a6.fresh (qb _);have N:=i.OB (qb ↑D);refine QP (λs' L x y Q f un same q n=>?_) (by have:=z.un;omega) E q G;refine ks_codeAny_call_bound (un.keep _ _ d hf N (by simp)) (F.run X.A.in1.in1 X.stack s' L {[.ref a,x],[]} [.ref a,x] [.ref a,y] Q E0 z.RB f ?_ (.cons rfl (.cons q .nil)) n);have:=S s' [.ref a,x] (f.mod.uV.keeps λb o e=>(f.bs b o e).1) (by rw[r];rfl);simpa using this
end
section
variable {prog:Program}{w:World}{A:Around}{E:Value->Shared->Prop}{s:Shared}
def Qx(M:A.handled=none)(hs:(d==sysModules)=false)(u:s.heap.get? d=some od)(H:od.ExactDict)(g:od.data=.dict es ep)(hz:es.size≤sizeLine)(N:∀s' l c,Moved [] Eq s s'->s'.heap.get? ↑s=some { cls:=.type "list",dict:=none,data:=.seq l c,slots:=#[] }->l.toList=es.toList.map (·.key)->Q (.ref ↑s) s') :
  wpAny (model prog w) A (call (.type "list") [.ref d]) Q E s:=by
 refine callType_codes (Q₁:=λobj f=>obj=.ref ↑s/\f={ s with heap:=s.heap.push { cls:=.type "list",data:=.seq #[] } }) F.called_list (F.typeCall_list_1 _) F.entry_list_init
  (code_list_new _ {U,U}) λobj f m=>?_
 obtain⟨rfl,rfl⟩:=m;have y:(s.heap.push { cls:=.type "list",data:=.seq #[] }).get? ↑s=some { cls:=.type "list",data:=.seq #[] }:=qD _ rfl;refine{{_,y,U},F.args_list_init_2 _ _,?_};have a:d<↑s:=qB u;generalize B:s.heap.push { cls:=.type "list",data:=.seq #[] }=h1 at y
 have k1:∀b o,s.heap.get? b=some o->h1.get? b=some o:=λb o e=>by rw[←B];exact qC _ e
 show wpAny _ A.in1.in1 (do let old ←Builtin.List.listItems (.ref ↑s);Builtin.List.listUpdate (.ref ↑s) (λ_=>#[]);letGo old.toList.reverse;Builtin.List.listExtendWith (.ref ↑s) (.ref d) .none) _ _ { s with heap:=h1 };refine qq ?_;unfold Builtin.List.listItems;refine qq (wpAny_seqItems (s:={ s with heap:=h1 }) y rfl (qs ?_));show wpAny _ A.in1.in1 (updateSeq ↑s (λ_=>#[]) >>= λ_=>letGo (#[]:Array Value).toList.reverse >>= λ_=>Builtin.List.listExtendWith (.ref ↑s) (.ref d) .none) _ _ { s with heap:=h1 };refine qq (wpAny_updateSeq (s:={ s with heap:=h1 }) y rfl ?_);have v:=Heap.get?_update_self (Obj.mapSeq (λ_=>(#[]:Array Value))) y rfl
 have k2:∀b o,s.heap.get? b=some o->(h1.update ↑s (Obj.mapSeq (λ_=>(#[]:Array Value)))).get? b=some o :=
  λb o e=>(Heap.get?_update_other _ _ (zg (qB e))).trans (k1 b o e)
 have x:(h1.update ↑s (Obj.mapSeq (λ_=>(#[]:Array Value)))).objs.size=↑s+1:=by rw[Heap.size_update,←B,Heap.size_push]
 show wpAny _ _ _ _ _ { s with heap:=h1.update ↑s (Obj.mapSeq (λ_=>(#[]:Array Value))) };generalize h1.update ↑s (Obj.mapSeq (λ_=>(#[]:Array Value)))=h2 at v k2 x;refine qq (wpAny_letGo ?_);have I:Shared.TypeIs { s with heap:=h2 } (.ref d) "dict":={od,k2 _ _ u,H.1}
 have O:Builtin.List.listSameRef (.ref ↑s) (.ref d)=false:=by
  show(↑s==d)=false;exact beq_eq_false_iff_ne.mpr (zg a)
 unfold Builtin.List.listExtendWith;refine qq (wpAny_typeOf I ?_);rw[qt (by rw[O];decide)];refine qq (Oo (s:={ s with heap:=h2 }) hs (k2 _ _ u) H g ?_);refine qq (qG ?_);show wpAny _ _ _ _ _ { s with heap:=h2.push { cls:=.type "dict_keyiterator",data:=.fields #[.ref d,.int 0 0,.int es.size 0,.int ep 0] } };have i:(h2.push { cls:=.type "dict_keyiterator",data:=.fields #[.ref d,.int 0 0,.int es.size 0,.int ep 0] }).IsKeyIter h2.objs.size d 0 es.size ep:={_,qD _ rfl,U,U};have n:∀b o,h2.get? b=some o->(h2.push { cls:=.type "dict_keyiterator",data:=.fields #[.ref d,.int 0 0,.int es.size 0,.int ep 0] }).get? b=some o:=λb o e=>qC _ e;generalize h2.push { cls:=.type "dict_keyiterator",data:=.fields #[.ref d,.int 0 0,.int es.size 0,.int ep 0] }=h3 at i n;have j:Shared.TypeIs { s with heap:=h3 } (.ref d) "dict":={od,n _ _ (k2 _ _ u),H.1};unfold Builtin.List.listLengthHint;refine qq (wpAny_specialOf (name:=Str.ofString "__len__") j F.slot_dict_len.lookup ?_);generalize D:("dict.__len__":String)=id0
 wp_delta
 rw[show splitId id0=some ("dict","__len__") from by subst D;decide +kernel];subst D;refine qq (wpAny_isInstance (T:="dict") j PySem.F.sub_dict_dict ?_);rw[qt ⋯]
 wp_delta
 rw[q0 ∅];refine qq (wpAny_typeOf j (qs ?_));rw[q0 ∅];have p:=n _ _ v;refine qq (wpAny_rule (qq ?_));unfold Builtin.List.listTouch;refine qq (listUpdate_at (s:={ s with heap:=h3 }) p rfl ?_);obtain⟨c1,k⟩:∃c1,(h3.update ↑s (Obj.mapSeq (·.push Value.none))).get? ↑s=some (seqObj "list" #[Value.none] c1):={_,get?_update_seq p _};have K:∀b o,b≠↑s->h3.get? b=some o->(h3.update ↑s (Obj.mapSeq (·.push Value.none))).get? b=some o:=λb o h e=>(Heap.get?_update_other _ _ (λz=>h z.symm)).trans e;show wpAny _ _ _ _ _ { s with heap:=h3.update ↑s (Obj.mapSeq (·.push Value.none)) };generalize h3.update ↑s (Obj.mapSeq (·.push Value.none))=h4 at k K;refine listUpdate_at (s:={ s with heap:=h4 }) k rfl ?_;obtain⟨c2,t⟩:∃c2,(h4.update ↑s (Obj.mapSeq (·.pop))).get? ↑s=some (seqObj "list" #[] c2):={_,get?_update_seq k _};have G:∀b o,b≠↑s->h3.get? b=some o->(h4.update ↑s (Obj.mapSeq (·.pop))).get? b=some o:=λb o h e=>(Heap.get?_update_other _ _ (λz=>h z.symm)).trans (K b o h e);show wpAny _ _ _ _ _ { s with heap:=h4.update ↑s (Obj.mapSeq (·.pop)) };generalize h4.update ↑s (Obj.mapSeq (·.pop))=h5 at t G;show wpAny _ _ (again (Code.builtin "list.extend.loop" {[Value.ref ↑s,Value.ref h2.objs.size,Value.none],[]})) _ _ _;rw[x]at i ⊢;have W:=Q6 (prog:=prog) (w:=w) (A:=A.in1.in1) (it:=↑s+1) (d:=d) (od:=od) (es:=es) (ep:=ep) M (zg (zr a)) g;obtain⟨S,P,R,L⟩:=i;refine qs {plainId_quiet F.plain_extend_loop _,codeAny_extend_loopS W hz ↑s (λz=>?_) _ es.size 0 { s with heap:=h5 } #[] c2 rfl (zd _) {{S,G _ _ (y9 _) P,R,L},G _ _ (qd a) (n _ _ (k2 _ _ u))} t (ItemsOf.nil _) λs' q V C J r=>?_}
 ·simp only[List.mem_cons,List.not_mem_nil,or_false]at z
  rcases z with z|z
  ·exact y9 _ z.symm
  ·exact zg a z
 ·refine⟨U,N s' q V ⟨λb o _ e=>?_,C.gens,C.drawn,C.os,C.toks⟩ J (Qh r)⟩
  have h:b<↑s:=qB e;refine C.heap b o (λz=>?_) (G b o (qd h) (n _ _ (k2 _ _ e)))
  simp only[List.mem_cons,List.not_mem_nil,or_false]at z
  rcases z with z|z
  ·exact qd h z
  ·exact qd (zr h) z
end
inductive Ed(xs:List V)(H1:Hp)(Q:VK):Prop
 |mk(a kvs:_)(_:xs=[.ref a])(_:Rd H1 a (.dG kvs))(_:kvs.length≤1000)(_:∀p H',H1 p=none->ab H1 H'->H' p=some (.lst (kvs.map (·.2.1)))->Q (.ref p) H')
section
variable {X:Cx}
def M3(B:X.A.handled=none):bj X (.type "list") Ed:=by
 intro pins s σ H xs us Q I r h;obtain⟨a,kvs,rfl,C,hz,q⟩:=h;obtain⟨u,rfl,w⟩:=vals1 r;cases w;obtain⟨_,i,F,k,o,es,ep,y,l,d,j,n,hn⟩:=jH I C
 have f:es.size=kvs.length:=by
  have:es.toList.length=kvs.length:=by rw[j,qa,k.length]
  simpa using this
 refine Qx B i y l d (by rw[f,sizeLine_eq];omega) λs' g c m D z=>?_
 have t:s'={ s with heap:=s'.heap,toks:=s'.toks }:=by
  obtain⟨G,E,v,x,J⟩:=m;cases s';cases E;cases v;cases x;rfl
 have hf:=I.a6.fresh (a:=↑s) (qb _)
 have p:Inv X pins σ (upd H ↑s (.lst (kvs.map (·.2.1)))) s':=by
  rw[t];refine I.laid (t':=s'.toks) (h':=s'.heap) (λb u e=>m.heap b u (by simp) e) (Nat.le_refl _) {?_,g.toList,c,?_,by simpa using D}
  ·show(kvs.map (·.2.1)).length≤sizeLine
   rw[qa,sizeLine_eq];omega
  ·rw[z,j,zj]
   exact Nv k
 exact{.ref _,_,p,U,q _ _ hf (ab.new hf) aG}
end
section
variable {X:Cx}{a b e:Expr}{ta tb te:TE}{es:List Expr}{t:TA}{pos p:Pos}
def Mo(X:Cx)(i:Nat)(x:Str)(k:NameKind):Prop:=(X.N[i]?,X.env.scope.names.lookup x,(x==("__debug__":Str)),(x==("__classdict__":Str)))=(some x,some k,false,false)
def vv(i:Nat)(h:Mo X i x .local:=by exact rfl):PE X (.Name x pos) (pI i):=pv i (congrArg (·.1) h) (.inl (congrArg (·.2.1) h)) (congrArg (·.2.2.1) h) (congrArg (·.2.2.2) h)
def vc(i:Nat)(h:Mo X i x .cell:=by exact rfl):PE X (.Name x pos) (pI i):=pv i (congrArg (·.1) h) (.inr (.inl (congrArg (·.2.1) h))) (congrArg (·.2.2.1) h) (congrArg (·.2.2.2) h)
def mu(X:Cx)(e:Expr):Prop:=∀es,starEach (e::es) X.env=(false,eval e X.env)::starEach es X.env
def a1(b:PE X a ta)(h:mu X a:=by exact λ_=>rfl):PA X [a] (iR ta l_):=CP b kH (h _)
def a2(d:PE X a ta)(c:PE X b tb)(h:mu X a:=by exact λ_=>rfl)(h2:mu X b:=by exact λ_=>rfl):PA X [a,b] (iR ta (iR tb l_)):=CP d (a1 c h2) (h _)
def ac{t:TA}(c:PE X a ta)(b:PA X es t)(h:mu X a:=by exact λ_=>rfl):PA X (a::es) (iR ta t):=CP c b (h _)
def xt(b:PE X a ta):PE X (.Subscript a (.Constant (.int i) j p) pos) (p_ (D_) ta (tC (.int i))):=fX Jh b aj (λ_ _=>rfl)
def xl(b:PE X a ta):PE X (.Subscript a (.Constant (.int i) j p) pos) (p_ (xr) ta (tC (.int i))):=fX Cy b aj (λ_ _=>rfl)
def xa(d:PE X a ta)(c:PE X b tb)(hs:gC b:=by exact λ_ _=>rfl):PE X (.Subscript a b pos) (p_ (Jx) ta tb):=fX Ax d c hs
def xi(d:PE X a ta)(c:PE X b tb)(hs:gC b:=by exact λ_ _=>rfl):PE X (.Subscript a b pos) (p_ (xr) ta tb):=fX Cy d c hs
def xu(d:PE X a ta)(c:PE X b tb)(hs:gC b:=by exact λ_ _=>rfl):PE X (.Subscript a b pos) (p_ (D_) ta tb):=fX Jh d c hs
def ce(d:cw X (compareOp op) r)(e:PE X a ta)(c:PE X b tb)(f:behindInMarks op b=false:=by exact rfl):PE X (.Compare a [op] [b] pos) (p_ r ta tb):=Pm d e c f
def ck(d:cw X (compareOp op) r)(e:PE X a ta)(c:PE X b tb)(f:behindInMarks op b=false:=by exact rfl):PT X (.Compare a [op] [b] pos) (rf (p_ r ta tb)):=O1 d e c f
structure bz(P:Program)(w:World)(K:PySem.W.Frag)(mg:Str->Option Value)(base:Heap)(k:Nat)(x:Str)(ps:List Str)(sp:Sp):Prop where
 out:∃f fd,cE P w K mg base ia k f fd ps sp/\mg x=some (.ref f)/\PySem.W.keepIn K (.ref f)=true/\Binds K fd ps []
variable {k n:Nat}{x:Str}{ps:List Str}{sp:Sp}
def cl(F:bz X.prog X.w X.K X.mg X.base k x ps sp)(g:aZ n X.A)(l:PA X (e::es) t)(i:k≤n:=by decide)(d:Gl X x:=by exact rfl)(b:(x==("__debug__":Str))=false:=by exact rfl)(h:mu X e:=by exact λ_=>rfl)(c:(backTo pos (starEach es X.env)).any (·.1)=false:=by exact rfl) :
  PE X (.Call (.Name x p) (e::es) [] pos) (ug sp [] E0 t):=by
 obtain⟨f,fd,F,m,a,j⟩:=F.out;exact Nt F (g.mono i) d m a j .nil jK l b (h _) c
def cb{id:String}{r:List V->Hp->VK->Prop}(d:bj X (.builtin id) r)(i:X.mg x=none)(h:bootBuiltins x=some (.builtin id))(g:PA X (e::es) t)(c:Gl X x:=by exact rfl)(hn:x≠"__name__":=by decide)(a:(x==("__debug__":Str))=false:=by exact rfl)(f:mu X e:=by exact λ_=>rfl)(b:(backTo pos (starEach es X.env)).any (·.1)=false:=by exact rfl):PE X (.Call (.Name x p) (e::es) [] pos) (Io r t):=Na d c i h g hn a (f _) b
def cy(d:bj X (.type T) r)(h:X.mg x=none)(i:bootBuiltins x=some (.type T))(g:PA X (e::es) t)(c:Gl X x:=by exact rfl)(hn:x≠"__name__":=by decide)(a:(x==("__debug__":Str))=false:=by exact rfl)(f:mu X e:=by exact λ_=>rfl)(b:(backTo pos (starEach es X.env)).any (·.1)=false:=by exact rfl):PE X (.Call (.Name x p) (e::es) [] pos) (Io r t):=Oj d c h i g hn a (f _) b
def sn(b:X.N.Nodup)(i:Nat)(c:PE X e te)(hi:X.N[i]?=some x:=by exact rfl)(a:X.env.scope.names.lookup x=some .local:=by exact rfl)(hs:swapsWith e (some (.Name x pos')) pos.line X.env=pure false:=by exact rfl):PS X (.Assign [.Name x pos'] e pos) (m9 te (cB i)):=F7 b hi (.inl a) c hs (.inr a)
def sm(b:X.N.Nodup)(i:Nat)(c:PE X e te)(hi:X.N[i]?=some x:=by exact rfl)(a:X.env.scope.names.lookup x=some .cell:=by exact rfl)(hs:swapsWith e (some (.Name x pos')) pos.line X.env=pure false:=by exact rfl)(hf:X.fn x=true:=by exact rfl):PS X (.Assign [.Name x pos'] e pos) (m9 te (cB i)):=F7 b hi (.inr a) c hs (.inl hf)
def gn(b:X.N.Nodup)(i:Nat)(hi:X.N[i]?=some x:=by exact rfl)(a:X.env.scope.names.lookup x=some .local:=by exact rfl):PG X (.Name x pos) (cB i):=dF b hi (.inl a) (.inr a)
def gm(b:X.N.Nodup)(i:Nat)(hi:X.N[i]?=some x:=by exact rfl)(a:X.env.scope.names.lookup x=some .cell:=by exact rfl)(hf:X.fn x=true:=by exact rfl):PG X (.Name x pos) (cB i):=dF b hi (.inr a) (.inl hf)
def gt{k:Nat}(h:zQ X es u)(b:X.calm=true:=by exact rfl)(hn:(assignEach es X.env).length=n:=by exact rfl)(a:(assignEach es X.env).findIdx? (·.1)=none:=by exact rfl):PG X (.Tuple es k pos) (AU n u):=mG b h hn a
def fo{tg a:Expr}{b:List Stmt}{c:TI}{g:TG}{tb:TS}(hi:PI X tg a c)(d:PG X tg g)(h:kr X b tb)(f:PassesOwn (model X.prog X.w) X.A X.env X.xe:=by exact PassesOwn.never)(e:X.calm=true:=by exact rfl)(hs:∀x,foldedSetIterable a X.env x=pure x:=by exact λ_=>rfl):PS X (.For tg a b [] pos) (FA c g tb):=Aa f e hi d h hs
def il{tl:TE}(a:PE X l tl):PI X tg l (wG tl):=Pe a
def iu{tl:TE}(a:PE X l tl):PI X tg l (Gj tl):=yW a
def bm{o:Expr}{to:TE}{name:Str}{T id:String}{apos:Pos}{r:V->List V->Hp->VK->Prop}(g:PlainAttrs T)(slot:Slot T name id)(f:typeOf (.builtin id)=pure (.type "method_descriptor"))(i:B4 X id r)(j:PE X o to)(h:PA X (e::es) t)(b:attributeBase o name X.env (eval o X.env)=eval o X.env:=by exact rfl)(d:((backTo pos (starEach (e::es) X.env)).all (λx=>!x.1)&&(backToKw pos (keywordEach [] X.env)).all (λx=>x.1.isSome)&&decide ((e::es).length+([]:List Keyword).length+(if([]:List Keyword).isEmpty then 0 else 1)<30))=true:=by exact rfl)(c:(apos.endLine==pos.line)=true:=by exact rfl)(hs:mu X e:=by exact λ_=>rfl)(a:(backTo pos (starEach es X.env)).any (·.1)=false:=by exact rfl) :
  PE X (.Call (.Attribute o name apos) (e::es) [] pos) (Mv T r to t):=Je g slot f i j h b d c (hs _) a
def ap{to:TE}(f:PE X o to)(d:PA X [e] t)(a:attributeBase o "append" X.env (eval o X.env)=eval o X.env:=by exact rfl)(hs:mu X e:=by exact λ_=>rfl)(c:((backTo pos (starEach [e] X.env)).all (λx=>!x.1)&&(backToKw pos (keywordEach [] X.env)).all (λx=>x.1.isSome)&&decide (([e]:List Expr).length+([]:List Keyword).length+(if([]:List Keyword).isEmpty then 0 else 1)<30))=true:=by exact rfl)(b:(apos.endLine==pos.line)=true:=by exact rfl):PS X (.Expr (.Call (.Attribute o "append" apos) [e] [] pos) p2) (tQ (Mv "list" lX to t)) :=
 CO (bm PySem.F.plainAttrs_list PySem.F.slot_list_append PySem.F.type_list_append PB f d a c b hs rfl)
def RZ{y:Str}:[y].Nodup:=zk.mpr {yw,wj}
def R9(a:aZ n X.A):cw X (compareOp .Eq) (sR 64 false):=AI (IS a)
def Au(a:aZ n X.A):cw X (compareOp .NotEq) (sR 64 true):=El (IS a)
def R6(a:aZ n X.A):cw X (compareOp .NotIn) (KR 63 true):=MH (PR a)
def L9:cw X (compareOp .In) (L7 false):=N2
def R8:cw X (compareOp .NotIn) (L7 true):=QA
def RO(a:X.calm=true:=by exact rfl):bj X (.builtin "sum") (Ii 1000000):=MN 1000000 a
def Se(a:aZ n X.A):B4 X "list.index" (iW 61):=OH (Gr a)
def RQ(a:aZ n X.A):B4 X "list.count" (lD 61):=MV (Gr a)
def RW{tl:TE}(F:bz X.prog X.w X.K X.mg X.base k y ps sp)(m:aZ n X.A)(r:X.mg x=none)(u:bootBuiltins x=some (.builtin "sorted"))(v:PE X l tl)(o:k+1≤n:=by decide)(h:X.calm=true:=by exact rfl)(j:Gl X x:=by exact rfl)(e:Gl X y:=by exact rfl)(i:ps.length=1:=by exact rfl)(hn:x≠"__name__":=by decide)(c:(x==("__debug__":Str))=false:=by exact rfl)(d:(y==("__debug__":Str))=false:=by exact rfl)(b:attributeBase l "values" X.env (eval l X.env)=eval l X.env:=by exact rfl)(a:(apos.endLine==cpos.line)=true:=by exact rfl) :
  PE X (.Call (.Name x p) [.Call (.Attribute l "values" apos) [] [] cpos] [{some "key",.Name y s,kp}] pos) (nG sp tl):=by
 obtain⟨f,fd,F,g,t,q⟩:=F.out;exact Q2 F (m.mono o) h j r u e g q i v hn c d b a rfl
def l0{y:Str}{f:Pos}{a d:Expr}{e:List Expr}{b:Scope}{g:TI}{h:TT}{te:TE}(hi:PI X (.Name y f) a g)(l:∀s H c,tx (aU X [y] b [] s H c) e h)(k:∀s H c,PE (aU X [y] b [] s H c) d te)(j:X.calm=true:=by exact rfl)(S:fO b:=by exact{U,∅,∅})(C:jO X b [] []:=by exact fU ∅)(i:∀s H c,PG (aU X [y] b [] s H c) (.Name y f) (cB 0):=by exact λ_ _ _=>dF (RZ) rfl (.inl rfl) (.inr rfl))(hs:∀x,foldedSetIterable a X.env x=pure x:=by exact λ_=>rfl) :
  PE X (.ListComp d [{.Name y f,a,e,0}] b pos) (Ml [y] [] g (cB 0) h te):=l4 (own:=[y]) (fr:=[]) j hi S C i (λ_=>kX rfl) l k hs
def vK(a:Scope)(N:List Str)(fr:List (Str×Nat)){y:Str}{q:Pos}{d j:Expr}{k:List Expr}{b:Scope}{r:TI}{o:TT}{te:TE}(hi:PI X (.Name y q) d r)(u:∀s H m,tx (aU X (y::fr.map (·.1)) b (pf X.env b.names []) s H m) k o)(z:∀s H m,PE (aU X (y::fr.map (·.1)) b (pf X.env b.names []) s H m) j te)(t:X.calm=true:=by exact rfl)(S:fO b:=by exact{U,∅,∅})(h1:X.env.scope=a:=by exact rfl)(h2:X.N=N:=by exact rfl)(w:∀x,X.env.kindOf x=some .cell->∃c,X.env.cells.lookup x=some c:=by exact λ_ h=>l8 h)(f:∀y∈b.names,y.2≠.cell:=by decide +kernel)(g:∀y∈b.names,y.2=.free->a.names.lookup y.1=some .cell:=by decide +kernel)(i:∀p∈fr,N[p.2]?=some p.1/\a.names.lookup p.1=some .cell/\(relabel b { scope:=a,locals:=0,globals:=0,cells:=[] }).names.lookup p.1=some .cell:=by decide +kernel)(n:(y::fr.map (·.1)).Nodup:=by decide +kernel)(v:(relabel b { scope:=a,locals:=0,globals:=0,cells:=[] }).names.lookup y=some .local:=by decide +kernel)(hs:∀x,foldedSetIterable d X.env x=pure x:=by exact λ_=>rfl) :
  PE X (.ListComp j [{.Name y q,d,k,0}] b pos) (Ml [y] fr r (cB 0) o te):=by
 have l:(relabel b X.env).names.lookup y=some .local:=by
  have e:relabel b X.env=relabel b { scope:=a,locals:=0,globals:=0,cells:=[] }:=by
   unfold relabel Env.kindOf;rw[h1]
  rw[e];exact v
 exact l4 (own:=[y]) (fr:=fr) t hi S (rT a N h1 h2 w f g i) (λ_ _ _=>dF n rfl (.inl l) (.inr l)) (λ_=>kX rfl) u z hs
end
section
variable {X:Cx}{a b e o:Expr}{ta tb te to:TE}{es:List Expr}{t:TA}{pos p apos:Pos}{k n:Nat}{x m f:Str}{ps:List Str}{sp:Sp}{C:Addr}{bb:Bool}
inductive wN(C:Addr)(f:Str)(Q:VK)(x:V)(H:Hp):Prop
 |mk(a dx:Addr)(fs:List (Str×V))(v:V)(h0:x=.ref a)(h1:H a=some (.ins C dx fs))(h2:fs.lookup f=some v)(h3:Q v H)
def IG(C:Addr)(f:Str)(ta:TE):TE:=λσ H Q=>ta σ H λx H1=>wN C f Q x H1
def fd(c:j_ X.K C)(j:cJ X.K C f)(g:PE X a ta)(b:attributeBase a f X.env (eval a X.env)=eval a X.env:=by exact rfl):PE X (.Attribute a f pos) (IG C f ta):=by
 refine{?_};intro pins s σ H Q I h;refine Ka b (a8 (g pins s σ H _ I h) λu o ⟨x,H1,i,d,a,dx,fs,v,ex,k,l,q⟩=>?_);subst ex;obtain rfl:u=Value.ref a:=d;exact PN i k c j l λp n e m=>{v,H1,e,m,q}
end
section
variable {X:Cx}{a b e o:Expr}{ta tb te to tv:TE}{es:List Expr}{t:TA}{pos p apos:Pos}{k n:Nat}{x m f:Str}{ps:List Str}{sp:Sp}{C:Addr}{bb:Bool}
inductive Dy(C:Addr)(f:Str)(D:Ends)(σ:St)(y x:V)(H:Hp):Prop
 |mk(a dx:Addr)(fs:List (Str×V))(h0:x=.ref a)(h1:H a=some (.ins C dx fs))(h2:fs.length<1000)(h3:D.nx σ (upd H a (.ins C dx (cQ f y fs))))
def Jb(C:Addr)(f:Str)(ta tv:TE):TS:=λD σ H=>tv σ H λy H1=>ta σ H1 λx H2=>Dy C f D σ y x H2
def sf(c:j_ X.K C)(r:cJ X.K C f)(n:PE X o ta)(p:PE X e tv)(hs:swapsWith e (some (.Attribute o f pos')) pos.line X.env=pure false:=by exact rfl):PS X (.Assign [.Attribute o f pos'] e pos) (Jb C f ta tv):=by
 refine{?_};intro pins s σ H D I h;refine plainObj_wpAny_Assign_Attribute (a8 (p pins s σ H _ I h) λu g ⟨y,H1,t,d,q⟩=>a8 (n pins g σ H1 _ t q) λb z ⟨x,H2,k,m,a,dx,fs,ex,v,l,j⟩=>?_) hs;subst ex;obtain rfl:b=Value.ref a:=m;exact Pd k v c r l d λw i=>{σ,_,i,j}
structure lA(P:Program)(w:World)(K:PySem.W.Frag)(mg:Str->Option Value)(base:Heap)(k:Nat)(C:Addr)(m:Str)(ps:List Str)(sp:Sp)(bb:Bool):Prop where
 out:∃f fd,cE P w K mg base ia k f fd ps sp/\mF K C m f/\Binds K fd ps []/\(bb=true->Ma K C m f)
structure Nj(P:Program)(w:World)(K:PySem.W.Frag)(mg:Str->Option Value)(base:Heap)(k:Nat)(C:Addr)(ps:List Str)(sp:Sp):Prop where
 out:∃f fd,cE P w K mg base ia k f fd ps sp/\Mk K C f/\Binds K fd ps []
def me(c:j_ X.K C)(F:lA X.prog X.w X.K X.mg X.base k C m ps sp bb)(d:aZ n X.A)(l:PE X o to)(i:PA X (e::es) t)(g:k≤n:=by decide)(a:mu X e:=by exact λ_=>rfl)(b:(backTo pos (starEach es X.env)).any (·.1)=false:=by exact rfl)(p:eval (.Call (.Attribute o m apos) (e::es) [] pos) X.env=(do
   let ov ←eval o X.env
   standAt apos.atName
   let(f,first) ←holding [ov] (getMethod ov m pl)
   callWith pos f first (backTo pos (starEach (e::es) X.env)) (backToKw pos (keywordEach [] X.env))):=by exact rfl):PE X (.Call (.Attribute o m apos) (e::es) [] pos) (lW C m sp [] E0 to t):=by
 obtain⟨f,fd,F,j,h,_⟩:=F.out;exact PJ l c j F (d.mono g) h .nil jK i (a _) b p
def Nq(c:j_ X.K C)(F:lA X.prog X.w X.K X.mg X.base k C m ps sp bb)(a:aZ n X.A)(g:PE X o to)(b:k≤n:=by decide)(h:eval (.Call (.Attribute o m apos) [] [] pos) X.env=(do
   let ov ←eval o X.env
   standAt apos.atName
   let(f,first) ←holding [ov] (getMethod ov m pl)
   callWith pos f first (backTo pos (starEach [] X.env)) (backToKw pos (keywordEach [] X.env))):=by exact rfl):PE X (.Call (.Attribute o m apos) [] [] pos) (lW C m sp [] E0 to l_):=by
 obtain⟨f,fd,F,e,d,_⟩:=F.out;exact Nc g c e F (a.mono b) d .nil jK h
def mc(F:Nj X.prog X.w X.K X.mg X.base k C ps sp)(d:aZ n X.A)(l:X.mg x=some (.ref C))(j:PA X (e::es) t)(h:k+1≤n:=by decide)(c:Gl X x:=by exact rfl)(a:(x==("__debug__":Str))=false:=by exact rfl)(g:mu X e:=by exact λ_=>rfl)(b:(backTo pos (starEach es X.env)).any (·.1)=false:=by exact rfl) :
  PE X (.Call (.Name x p) (e::es) [] pos) (uu C sp [] E0 t):=by
 obtain⟨f,fd,F,M,i⟩:=F.out;exact OY M F (d.mono h) c l i .nil jK j a (g _) b
def Sa(c:j_ X.K C)(F:lA X.prog X.w X.K X.mg X.base k C m ps sp true)(h:aZ n X.A)(s:X.mg x=none)(u:bootBuiltins x=some (.builtin "sorted"))(r:PA X [e] t)(v:PE X o to)(l:k+1≤n:=by decide)(g:Gl X x:=by exact rfl)(a:ps.length=2:=by exact rfl)(hn:x≠"__name__":=by decide)(b:(x==("__debug__":Str))=false:=by exact rfl)(d:attributeBase o m X.env (eval o X.env)=eval o X.env:=by exact rfl)(i:mu X e:=by exact λ_=>rfl) :
  PE X (.Call (.Name x p) [e] [{some "key",.Attribute o m apos,kp}] pos) (pO C m sp t to):=by
 obtain⟨f,fd,F,y,q,j⟩:=F.out;exact QN F (h.mono l) g s u c (j rfl) q a r v hn b d (i _)
end
structure MO(K:PySem.W.Frag)(C:Addr)(m q:Str)(bb:Bool)(st:Stmt):Prop where
 out:∃f fd,t8 K m q st f fd/\mF K C m f/\(bb=true->Ma K C m f)
section
variable {P:Program}{w:World}{K:PySem.W.Frag}{mg:Str->Option Value}{base:Heap}{m q:Str}{st:Stmt}{N ps:List Str}{k:Nat}{sp:Sp}{C:Addr}{bb:Bool}
def jP(F:MO K C m q bb st)(S:af N ps (aa st))(g:∀{kV c i:Value}{h:Option Addr}{a e:Value}(us:List Value),us.length=ps.length->bindArgs (PySem.W.fnOf m q (cV st) (bW st) (aa st) .none kV c i h a e) {us,[]}=pure (ps.zip us))(len:∀vs H Q E,sp vs H Q E->vs.length=ps.length)(b:∀(f:Addr) (a:Value) (A:Around) (outer:List Env) (s:Shared) (H:Hp) (vs:List V) (Q:VK) (E:XK),aZ k (A.deeper (envOfC q (aa st) ↑s f a))->sp vs H Q E →
   ∃t,kr (jF ia P w K mg base N q (aa st) f a A outer s H E).E_ (bW st) t/\t { nx:=λ_ H'=>Q .aT H',rt:=Q } (start N vs) H):lA P w K mg base (k+1) C m ps sp bb:=by
 obtain⟨f,fd,F,j,d⟩:=F.out;exact{f,fd,F.ok S len (b f),j,F.binds g,d}
def lA.init(F:lA P w K mg base k C "__init__" ps sp bb)(h1:PySem.W.makesIn K C=true)(h2:PySem.W.keepIn K (.ref C)=true):Nj P w K mg base k C ps sp:=by
 obtain⟨f,fd,F,a,b,_⟩:=F.out;exact{f,fd,F,{h1,a.at_,a.fn,h2},b}
end
inductive CX(K:PySem.W.Frag)(C:Addr):Prop
 |mk(z1:PySem.W.plainGet K C Str.empty=true)(z2:PySem.W.hasDictIn K C=true)(z3:PySem.W.plainOver K C=true)(z4:PySem.W.findIn K (.ref C) "__setattr__"=some (some (.builtin "object.__setattr__")))(z5:PySem.W.makesIn K C=true)(z6:PySem.W.keepIn K (.ref C)=true)
def CX.out{K:PySem.W.Frag}{C:Addr}(h:CX K C):j_ K C/\PySem.W.makesIn K C=true/\PySem.W.keepIn K (.ref C)=true:=by
 obtain⟨b,e,f,c,a,d⟩:=h;exact{{b,e,f,c},a,d}
inductive MX(K:PySem.W.Frag)(C:Addr)(n q:Str)(b:Bool)(s:Stmt):Prop
 |mk{a:Addr}{od an:Option Addr}{sl:Array (Option Value)}{oc kV dc pm cd ct:Value}(z1:PySem.W.findIn K (.ref C) n=some (some (.ref a)))(z2:K.lookup a=some ⟨oc,od,.func (PySem.W.fnOf n q (cV s) (bW s) (aa s) .none kV dc pm an cd ct),sl⟩)(z3:PySem.W.codeIn K cd q=true)(z4:PySem.W.keepIn K (.ref a)=true)(z5:PySem.W.isFn K (.ref a)=true)(z6:b=true->PySem.W.specialIn K (.ref a) "__get__"=some (some (.builtin "function.__get__"))/\PySem.W.takesIn K (.ref a)=some false)
def MX.mo{K:PySem.W.Frag}{C:Addr}{n q:Str}{b:Bool}{s:Stmt}(h:MX K C n q b s)(f:b=true->copiedNames.contains n=false):MO K C n q b s:=by
 obtain⟨d,g,i,a,c,e⟩:=h;exact{_,_,Ez (st:=s) g i a,{d,c,a},λh=>{{d,c,a},(e h).1,(e h).2,f h}}
structure FO(K:PySem.W.Frag)(mg:Str->Option Value)(x:Str)(st:Stmt):Prop where
 out:∃f fd,t8 K x x st f fd/\mg x=some (.ref f)
def ax{P:Program}{w:World}{K:PySem.W.Frag}{mg:Str->Option Value}{base:Heap}{x:Str}{st:Stmt}{N ps:List Str}{k:Nat}{sp:Sp}(F:FO K mg x st)(S:af N ps (aa st))(e:∀{kV c h:Value}{g:Option Addr}{a d:Value}(us:List Value),us.length=ps.length->bindArgs (PySem.W.fnOf x x (cV st) (bW st) (aa st) .none kV c h g a d) {us,[]}=pure (ps.zip us))(len:∀vs H Q E,sp vs H Q E->vs.length=ps.length)(b:∀(f:Addr) (a:Value) (A:Around) (outer:List Env) (s:Shared) (H:Hp) (vs:List V) (Q:VK) (E:XK),aZ k (A.deeper (envOfC x (aa st) ↑s f a))->sp vs H Q E →
   ∃t,kr (jF ia P w K mg base N x (aa st) f a A outer s H E).E_ (bW st) t/\t { nx:=λ_ H'=>Q .aT H',rt:=Q } (start N vs) H):bz P w K mg base (k+1) x ps sp:=by
 obtain⟨f,fd,F,i⟩:=F.out;exact{f,fd,F.ok S len (b f),i,F.kp,F.binds e}
inductive FX(K:PySem.W.Frag)(n:Str)(s:Stmt):Prop
 |mk{a:Addr}{od an:Option Addr}{sl:Array (Option Value)}{oc kV dc pm cd ct:Value}(z1:PySem.W.nsIn K mainGlobals n=some (some (.ref a)))(z2:K.lookup a=some ⟨oc,od,.func (PySem.W.fnOf n n (cV s) (bW s) (aa s) .none kV dc pm an cd ct),sl⟩)(z3:PySem.W.codeIn K cd n=true)(z4:PySem.W.keepIn K (.ref a)=true)
def FX.fo{K:PySem.W.Frag}{n:Str}{s:Stmt}{h:Heap}{mg:Str->Option Value}(f:FX K n s)(X:K.In h)(G:h.Ns mainGlobals mg):FO K mg n s:=by
 obtain⟨b,c,d,a⟩:=f;exact{_,_,Ez (st:=s) c d a,PySem.W.mg_of X G b}
structure rk(P:Program)(w:World)(K:PySem.W.Frag)(a:Addr)(kvs:List (Str×Addr)):Prop where
 sys:(a==sysModules)=false
 out:∃o es ep,K.lookup a=some o/\o.ExactDict/\o.data=.dict es ep/\KeysOf (ag P w) es/\Pairs (ag P w) es.toList (kvs.map λp=>((Sum.inr p.1:Key),Value.ref p.2))/\(kvs.map λp=>(Sum.inr p.1:Key)).Nodup
def fV(kvs:List (Str×Addr))(z:Str):Option Addr:=(kvs.find? λp=>decide (p.1=z)).map (·.2)
def wB:valueAt (kvs.map λp=>((Sum.inr p.1:Key),Value.ref p.2)) (Sum.inr z)=(fV kvs z).map Value.ref:=by
 unfold valueAt fV
 induction kvs with
 |nil=>rfl
 |cons p kvs a =>
  rw[qi,wf,wf]
  by_cases h:p.1=z
  ·rw[qA (show(Sum.inr p.1:Key)=Sum.inr z by rw[h]),qA h];rfl
  ·rw[decide_eq_false (show ¬(Sum.inr p.1:Key)=Sum.inr z from λe=>h (Sum.inr.inj e)),decide_eq_false h]
   exact a
section
variable {X:Cx}{a:Addr}{kvs:List (Str×Addr)}{pins:List (Addr×Obj)}{σ:St}{H:Hp}{s:Shared}
def rk.dict(D:rk X.prog X.w X.K a kvs)(I:Inv X pins σ H s):s.heap.DictOf (ag X.prog X.w) a (kvs.map λp=>((Sum.inr p.1:Key),Value.ref p.2)):=by
 obtain⟨o,es,ep,h1,h2,d,b,e,c⟩:=D.out;exact{o,es,ep,I.f5 a o h1,h2,d,b,e,by rw[zj];exact c}
inductive Pk(kvs:List (Str×Addr))(Q:VK)(y:V)(H:Hp):Prop
 |mk(z:Str)(v:Addr)(h0:y=.str z)(h1:fV kvs z=some v)(h2:Q (.ref v) H)
def RH(kvs:List (Str×Addr))(ty:TE):TE:=λσ H Q=>ty σ H λy H1=>Pk kvs Q y H1
def fg(D:rk X.prog X.w X.K a kvs)(j:X.mg x=some (.ref a))(hi:PE X i ty)(d:Gl X x:=by exact rfl)(hs:ti i:=by exact λ_ _=>rfl)(hd:(x==("__debug__":Str))=false:=by exact rfl):PE X (.Subscript (.Name x p) i pos) (RH kvs ty):=by
 refine{?_};intro pins s σ H Q I h;refine EY PySem.F.slot_dict_getitem.lookup hs (oQ I d j (a8 (hi pins s σ H _ I h) λn m ⟨y,H2,c,e,z,v,f,l,g⟩=>?_) hd);subst f;have b:=D.dict c;refine{b.typeIs,?_};refine wpAny_getItem_of (iN (k:=.inr z) e) b.mapOf (v:=Value.ref v) (by rw[wB,l];rfl) {.ref v,H2,c.tok _,U,g}
inductive IB(a:Addr)(kvs:List (Str×Addr))(neg:Bool)(x y:V)(H:Hp)(Q:VK):Prop
 |mk(z:Str)(h0:x=.str z)(h1:y=.ref a)(h2:Q (.bl (if neg then !(fV kvs z).isSome else(fV kvs z).isSome)) H)
def QR(a:Addr)(kvs:List (Str×Addr))(b:Bool):R2:=λx y H Q=>IB a kvs b x y H Q
def Rf(D:rk X.prog X.w X.K a kvs):cw X (compareOp .NotIn) (QR a kvs true):=by
 intro pins s σ H x y v u Q I b c h;obtain⟨z,rfl,rfl,q⟩:=h;cases c;refine wpAny_notIn_of (iN (k:=.inr z) b) D.sys (D.dict I).mapOf {.bl _,H,I.tok _,?_,q};rw[wB,j8];rfl
inductive r8(Fs:Addr->Sp->Prop)(t:TA)(σ:St)(Q:VK)(v:V)(H:Hp):Prop
 |mk(f:Addr)(sp:Sp)(h0:v=.ref f)(h1:Fs f sp)(h2:t σ H λvs H2=>sp vs H2 Q E0)
def Cq(a:Addr->Sp->Prop)(b:TE)(t:TA):TE:=λσ H Q=>b σ H λv H1=>r8 a t σ Q v H1
def cv{g:TE}{t:TA}(C:∀f sp,c f sp->∃k fd ps,k≤n/\cE X.prog X.w X.K X.mg X.base ia k f fd ps sp/\PySem.W.keepIn X.K (.ref f)=true/\Binds X.K fd ps [])(j:aZ n X.A)(l:PE X (.Name x p) g)(B:PA X (e::es) t)(m:mu X e:=by exact λ_=>rfl)(b:(backTo pos (starEach es X.env)).any (·.1)=false:=by exact rfl):PE X (.Call (.Name x p) (e::es) [] pos) (Cq c g t):=by
 refine{?_};intro pins s σ H Q I h;refine wpAny_Call_Name_kw (a8 (l pins s σ H _ I h) λu z ⟨v,H1,i,r,f,sp,D,hf,q⟩=>?_);subst D;cases r;obtain⟨k,fd,ps,o,F,a,y⟩:=C f sp hf;refine PySem.W.callWith_K (h₀:=X.base) i.ok.mod.uV a (a8 (B pos pins z σ H1 _ i q) λus E ⟨vs,H2,d,r,q⟩=>{d.f5,?_}) (m _) b;exact rz F (j.mono o) y .nil jK d r (by rw[wo];exact q)
end
def rk.of{P:Program}{w:World}{K:PySem.W.Frag}{a:Addr}{kvs:List (Str×Addr)}{es:Array DictEntry}{ep:Nat}{j:Array (Option Value)}(h1:K.lookup a=some {.type "dict",none,.dict es ep,j})(h2:es.toList.map (λe=>(e.hash,ej e.key,ej e.val))=kvs.map λp=>(rB w (.inr p.1),some (V.str p.1),some (V.ref p.2)))(r:(kvs.map (·.1)).Nodup)(o:(a==sysModules)=false)(s:({.type "dict",none,.dict es ep,j}:Obj).ExactDict):rk P w K a kvs:=by
 have d:∀{u:Value} {z:Str},ej u=some (.str z)->∃t,u=.str z t:=λ{u z} h=>by
  cases u <;> simp[ej]at h;exact{_,by rw[h]}
 have c:∀{u:Value} {b:Addr},ej u=some (.ref b)->u=.ref b:=λ{u b} h=>by
  cases u <;> simp[ej]at h;rw[h]
 have g:∀(l:List DictEntry) (kvs:List (Str×Addr)),l.map (λe=>(e.hash,ej e.key,ej e.val))=kvs.map (λp=>(rB w (.inr p.1),some (V.str p.1),some (V.ref p.2)))->(∀e∈l,∃k,(ag P w).is k e.key=true/\e.hash=(ag P w).hash k)/\Pairs (ag P w) l (kvs.map λp=>((Sum.inr p.1:Key),Value.ref p.2)):=λl=>by
  induction l with
  |nil =>
   intro kvs h
   cases kvs with
   |nil=>exact{λe z=>(nomatch z),.nil}
   |cons _ _=>cases h
  |cons e l m =>
   intro kvs h
   cases kvs with
   |nil=>cases h
   |cons p kvs =>
    rw[qi,qi]at h;injection h with h h';injection h with e1 h;injection h with e2 e3;obtain⟨t,i⟩:=d e2;obtain⟨i1,i2⟩:=m kvs h';refine{λq f=>?_,.cons (by rw[i];exact E1 p.1 t) (c e3) i2};rcases qv.mp f with z|z
    ·subst z
     exact⟨.inr p.1,by rw[i];exact E1 p.1 t,e1⟩
    ·exact i1 q z
 obtain⟨k1,k2⟩:=g _ _ h2;refine{o,_,es,ep,h1,s,U,λe n=>k1 e (by simpa using n),k2,?_}
 have:(kvs.map λp=>(Sum.inr p.1:Key))=(kvs.map (·.1)).map Sum.inr:=by rw[zj];rfl
 rw[this];exact r.map _ λa b h e=>h (Sum.inr.inj e)
inductive um(H:Hp)(T:String):V->Bool->Prop
 |str (z:Str):um H T (.str z) (T=="str")
 |int (i:Int):um H T (.int i) (T=="int")
 |bl (b:Bool):um H T (.bl b) (T=="bool"||T=="int")
 |aT:um H T .aT false
 |tup {p:Addr} {xs:List V} (h:H p=some (.tup xs)):um H T (.ref p) (T=="tuple")
 |lst {p:Addr} {xs:List V} (h:H p=some (.lst xs)):um H T (.ref p) (T=="list")
 |RY {p:Addr} {xs:List (Key×V)} (h:H p=some (.dK xs)):um H T (.ref p) (T=="dict")
inductive Sf(xs:List V)(H:Hp)(Q:VK):Prop
 |mk(x:V)(T:String)(b:Bool)(h0:xs=[x,.ty T])(hT:(["str","int","bool","tuple","list"]:List String).contains T=true)(h1:um H T x b)(h2:Q (.bl b) H)
def dQ:bj X (.builtin "isinstance") Sf:=by
 intro pins s σ H xs us Q I c h;obtain⟨x,T,b,rfl,a,h1,q⟩:=h
 have a:T = "str" \/ T = "int" \/ T = "bool" \/ T = "tuple" \/ T = "list":=by simpa using a
 refine Oa pins s σ H _ us Q I c ?_
 cases h1 with
 |str z=>exact{_,T,.type "str",_,U,.str _,by rcases a with rfl|rfl|rfl|rfl|rfl <;> rfl,q}
 |int i=>exact{_,T,.type "int",_,U,.int _,by rcases a with rfl|rfl|rfl|rfl|rfl <;> rfl,q}
 |bl i=>exact{_,T,.type "bool",_,U,.bl _,by rcases a with rfl|rfl|rfl|rfl|rfl <;> rfl,q}
 |aT=>exact{_,T,.type "NoneType",_,U,.aT,by rcases a with rfl|rfl|rfl|rfl|rfl <;> rfl,q}
 |tup h=>exact{_,T,.type "tuple",_,U,.tup h,by rcases a with rfl|rfl|rfl|rfl|rfl <;> rfl,q}
 |lst h=>exact{_,T,.type "list",_,U,.lst h,by rcases a with rfl|rfl|rfl|rfl|rfl <;> rfl,q}
 |RY h=>exact{_,T,.type "dict",_,U,.dK h,by rcases a with rfl|rfl|rfl|rfl|rfl <;> rfl,q}
def J3(i:Nat):TE:=λσ H Q=>match σ[i]? with
 |some (some v)=>Q v H
 |_=>False
def K4(h:J3 i σ H Q):pI i σ H Q:=by
 unfold J3 at h
 split at h
 ·exact{_,by assumption,h}
 ·exact h.elim
def PE.imp{t u:TE}(h:PE X e t)(i:∀σ H Q,u σ H Q->t σ H Q):PE X e u:={λpins s σ H Q I q=>h pins s σ H Q I (i σ H Q q)}
def na(i:Nat)(h:Mo X i x .local:=by exact rfl):PE X (.Name x pos) (J3 i):=(vv i h).imp λ_ _ _=>K4
def nc(i:Nat)(h:Mo X i x .cell:=by exact rfl):PE X (.Name x pos) (J3 i):=(vc i h).imp λ_ _ _=>K4
def jV(c:Nat):Bool:=decide (97≤c)&&decide (c≤122)
def ef(z:Str):Bool:=decide (1≤z.length/\z.length≤8)&&z.cps.toList.all jV
inductive Fm where
 |part|name|Fe|signs|Fb|side|word|won|way|line|Fi|hand|leave|truth|num|counts
 deriving DecidableEq
def mn:List (Str×List Fm):=[("nothing",[]),("part",[.part]),("move",[.name,.part]),("cut",[.name]),("put",[.part,.Fe,.signs]),("out",[.part,.Fb]),("mark",[.part,.side,.side,.word,.won]),("note",[.part,.side,.side,.word]),("line",[.part,.way,.line]),("strike",[.part,.name]),("cell",[.part,.name,.name,.Fi]),("leave",[.part,.hand,.leave,.truth]),("back",[.num]),("again",[.num]),("bring",[.word]),("drop",[.word]),("pour",[.counts])]
def fZ(z:Str):Option (List Fm):=(mn.find? λp=>decide (p.1=z)).map (·.2)
end L2
namespace Hs
open PySem L2 PyProof.Rows
structure Dd where
 aB:Nat
 num:Nat
 hd:List Nat
 br:PyData
 wt:List PyData
abbrev aK(l:List Nat)(k:Nat):Nat:=l.getD k 0
abbrev aF(kn:List (List Nat))(i:Nat):List Nat:=kn.getD i []
def kx(m:Nat)(ds:List Dd)(row:List Nat):Prop:=∀j k,j<m->1≤k->k≤aK row j->∃e∈ds,e.aB=j/\e.num=k/\∀i,i<m->aK e.hd i≤aK row i
structure Wh(m:Nat)(ds:List Dd):Prop where
 aB:∀d∈ds,d.aB<m
 len:∀d∈ds,d.hd.length=m
 own:∀d∈ds,aK d.hd d.aB+1=d.num
 uniq:ds.Pairwise λa b=>¬(a.aB=b.aB/\a.num=b.num)
 past:∀d∈ds,kx m ds d.hd
structure Kn(m:Nat)(ds:List Dd)(kn:List (List Nat)):Prop where
 len:kn.length=m
 row:∀i,i<m->(aF kn i).length=m
 E8:∀i,i<m->kx m ds (aF kn i)
 cnt:∀d∈ds,d.num≤aK (aF kn d.aB) d.aB
def aI{α:Type}{l:List α}{i:Nat}{x d:α}(h:i<l.length):(l.set i x).getD i d=x:=by
 rw[qu,yq h];rfl
def gW{α:Type}{l:List α}{i j:Nat}{x d:α}(h:i≠j):(l.set i x).getD j d=l.getD j d:=by
 rw[qu,vj h,←qu]
def gS(f:Nat->Nat)(h:a<m):aK ((List.range m).map f) a=f a:=by
 unfold aK;rw[qu,qh,yn h];rfl
def kx.mono{row:List Nat}(c:kx m ds row)(h:∀d∈ds,d∈a):kx m a row:=λj k h1 h2 b =>
 let⟨e,f,r⟩:=c j k h1 h2 b
 {e,h e f,r}
def merged(m:Nat)(row b:List Nat)(o t:Nat):List Nat:=((List.range m).map λa=>max (aK row a) (aK b a)).set o (max (max (aK row o) (aK b o)) t)
def NF(m:Nat)(row a:List Nat)(o t:Nat):(merged m row a o t).length=m:=by unfold merged;simp
def Cf{row b:List Nat}{o t i:Nat}(hi:i<m)(c:o<m):aK (merged m row b o t) i=if i=o then max (max (aK row o) (aK b o)) t else max (aK row i) (aK b i):=by
 unfold merged
 by_cases e:i=o
 ·subst e
  rw[q0 rfl];exact aI (by simpa using hi)
 ·rw[qt e]
  show((((List.range m).map λa=>max (aK row a) (aK b a)).set o _).getD i 0)=_;rw[gW (λz=>e z.symm)];exact gS _ hi
def NV{row:List Nat}(W:Wh m ds)(c:kx m ds row)(l:e∈ds):kx m ds (merged m row e.hd e.aB e.num):=by
 have s:=W.aB e l
 have up:∀i,i<m->aK row i≤aK (merged m row e.hd e.aB e.num) i/\aK e.hd i≤aK (merged m row e.hd e.aB e.num) i:=λi hi=>by
  rw[Cf hi s]
  split
  ·rename_i q
   subst q;omega
  ·omega
 intro j k p h1 h2;rw[Cf p s]at h2
 have g:k≤aK row j->∃d∈ds,d.aB=j/\d.num=k/\∀i,i<m->aK d.hd i≤aK (merged m row e.hd e.aB e.num) i:=λh=>by
  obtain⟨d,o,a,b,f⟩:=c j k p h1 h;exact{d,o,a,b,λi hi=>qg (f i hi) (up i hi).1}
 have new:k≤aK e.hd j->∃d∈ds,d.aB=j/\d.num=k/\∀i,i<m->aK d.hd i≤aK (merged m row e.hd e.aB e.num) i:=λh=>by
  obtain⟨d,o,a,b,f⟩:=W.past e l j k p h1 h;exact{d,o,a,b,λi hi=>qg (f i hi) (up i hi).2}
 split at h2
 ·rename_i q
  by_cases n:k≤aK row j
  ·exact g n
  ·by_cases r:k≤aK e.hd j
   ·exact new r
   ·have v:k≤e.num:=by rw[←q]at h2;omega
    have u:=W.own e l
    have t:k=e.num:=by rw[q]at r;omega
    exact{e,l,q.symm,t.symm,λi hi=>(up i hi).2}
 ·by_cases n:k≤aK row j
  ·exact g n
  ·exact new ()
def Kn.le(K:Kn m ds kn){row:List Nat}(c:kx m ds row)(f:j<m):aK row j≤aK (aF kn j) j:=by
 by_cases h:1≤aK row j
 ·obtain⟨e,d,a,b,_⟩:=c j _ f h (qb _)
  have:=K.cnt e d;rw[a,b]at this;exact this
 ·omega
def Kn.has(K:Kn m ds kn){j k:Nat}(c:j<m)(h1:1≤k)(h2:k≤aK (aF kn j) j):∃e∈ds,e.aB=j/\e.num=k :=
 let⟨e,d,a,b,_⟩:=K.E8 j c j k c h1 h2
 {e,d,a,b}
def Kn.merge(W:Wh m ds)(K:Kn m ds kn)(hi:i<m)(a:e∈ds)(g:aK (aF kn i) e.aB<e.num):Kn m ds (kn.set i (merged m (aF kn i) e.hd e.aB e.num)):=by
 have h:=W.aB e a
 have b:i<kn.length:=by rw[K.len];exact hi
 have c:=NV W (K.E8 i hi) a
 have ne:i≠e.aB:=λz=>by
  have:=K.cnt e a;rw[←z]at this g;omega
 have own:aK (merged m (aF kn i) e.hd e.aB e.num) i=aK (aF kn i) i:=by
  rw[Cf hi h,qt ne];have:=K.le (W.past e a) hi;omega
 refine{by rw[wq];exact K.len,λj f=>?_,λj f=>?_,λd hd=>?_}
 ·by_cases q:i=j
  ·subst q
   show((kn.set i _).getD i []).length=m;rw[aI b];exact NF _ _ _ _ _
  ·show((kn.set i _).getD j []).length=m
   rw[gW q];exact K.row j f
 ·by_cases q:i=j
  ·subst q
   show kx m ds ((kn.set i _).getD i []);rw[aI b];exact c
  ·show kx m ds ((kn.set i _).getD j [])
   rw[gW q];exact K.E8 j f
 ·by_cases q:i=d.aB
  ·show d.num≤aK ((kn.set i _).getD d.aB []) d.aB
   rw[←q,aI b,own,q];exact K.cnt d hd
  ·show d.num≤aK ((kn.set i _).getD d.aB []) d.aB
   rw[gW q];exact K.cnt d hd
def cK(kn:List (List Nat))(i:Nat)(a:PyData)(b:List PyData):Dd:={i,aK (aF kn i) i+1,aF kn i,a,b}
def Wh.next(W:Wh m ds)(K:Kn m ds kn)(hi:i<m):Wh m (ds++[cK kn i c e]):=by
 have sub:∀d∈ds,d∈ds++[cK kn i c e]:=λd hd=>va _ hd
 have two:∀{P:Dd->Prop},(∀d∈ds,P d)->P (cK kn i c e)->∀d∈ds++[cK kn i c e],P d:=λh1 h2 d hd=>by
  rcases qy.mp hd with q|q
  ·exact h1 d q
  ·rw[zb.mp q];exact h2
 refine{two W.aB hi,two W.len (K.row i hi),two W.own rfl,?_,two (λd hd=>(W.past d hd).mono sub) ((K.E8 i hi).mono sub)};refine List.pairwise_append.mpr {W.uniq,List.pairwise_singleton _ _,λa h b f z=>?_};rw[zb.mp f]at z;have:=K.cnt a h;rw[z.1,z.2]at this;show False;have q:(cK kn i c e).num=aK (aF kn i) i+1:=rfl;have g:(cK kn i c e).aB=i:=rfl;rw[q,g]at this;omega
def Kn.next(W:Wh m ds)(K:Kn m ds kn)(hi:i<m):Kn m (ds++[cK kn i l n]) (kn.set i ((aF kn i).set i (aK (aF kn i) i+1))):=by
 have sub:∀d∈ds,d∈ds++[cK kn i l n]:=λd hd=>va _ hd
 have g:i<kn.length:=by rw[K.len];exact hi
 have h:i<(aF kn i).length:=by rw[K.row i hi];exact hi
 have up:∀a,aK (aF kn i) a≤aK ((aF kn i).set i (aK (aF kn i) i+1)) a:=λa=>by
  by_cases q:i=a
  ·subst q
   show _≤((aF kn i).set i _).getD i 0;rw[aI h];omega
  ·show _≤((aF kn i).set i _).getD a 0
   rw[gW q];exact qb _
 refine{by rw[wq];exact K.len,λj o=>?_,λj o=>?_,λd hd=>?_}
 ·by_cases q:i=j
  ·subst q
   show((kn.set i _).getD i []).length=m;rw[aI g,wq];exact K.row i hi
  ·show((kn.set i _).getD j []).length=m
   rw[gW q];exact K.row j o
 ·by_cases q:i=j
  ·subst q
   show kx m _ ((kn.set i _).getD i []);rw[aI g];intro a k u h1 h2
   by_cases r:k≤aK (aF kn i) a
   ·obtain⟨e,s,x,y,f⟩:=K.E8 i hi a k u h1 r
    exact{e,sub e s,x,y,λb t=>qg (f b t) (up b)}
   ·have p:i=a:=Classical.byContradiction λz=>by
     have c:k≤((aF kn i).set i (aK (aF kn i) i+1)).getD a 0:=h2;rw[gW z]at c;exact r c
    subst p;have c:k≤((aF kn i).set i (aK (aF kn i) i+1)).getD i 0:=h2;rw[aI h]at c;exact{cK kn i l n,zx _ (zb.mpr rfl),U,by show aK (aF kn i) i+1=k;omega,λb _=>up b}
  ·show kx m _ ((kn.set i _).getD j [])
   rw[gW q];exact(K.E8 j o).mono sub
 ·rcases qy.mp hd with q|q
  ·have:=K.cnt d q
   by_cases r:i=d.aB
   ·show d.num≤aK ((kn.set i _).getD d.aB []) d.aB
    rw[←r,aI g];rw[←r]at this;exact qg this (up i)
   ·show d.num≤aK ((kn.set i _).getD d.aB []) d.aB
    rw[gW r];exact this
  ·rw[zb.mp q]
   show aK (aF kn i) i+1≤aK ((kn.set i _).getD i []) i;rw[aI g];show _≤((aF kn i).set i _).getD i 0;rw[aI h];exact qb _
def Kn.start(m:Nat):Kn m [] (List.replicate m (List.replicate m 0))/\Wh m []:=by
 have z:∀i j,aK (aF (List.replicate m (List.replicate m 0)) i) j=0:=λi j=>by
  unfold aK aF;rw[qu,qu,yf]
  split
  ·show((List.replicate m 0)[j]?).getD 0=0
   rw[yf]
   split <;> rfl
  ·rfl
 refine{{by simp,λi hi=>?_,λi hi j k _ h1 h2=>?_,(λd hd=>nomatch hd)},{(λd hd=>nomatch hd),(λd hd=>nomatch hd),(λd hd=>nomatch hd),List.Pairwise.nil,(λd hd=>nomatch hd)}}
 ·unfold aF
  rw[qu,yf,q0 hi]
  simp
 ·rw[z]at h2
  omega
theorem fN{α:Type}:∀{l:List α} {i j:Nat} {x:α},l.Nodup->l[i]?=some x->l[j]?=some x->i=j
 |[],_,_,_,_,h,_=>nomatch h
 |a::l,0,0,_,_,_,_=>rfl
 |a::l,0,j+1,x,nd,h1,h2=>by
  cases h1;exact absurd (List.mem_of_getElem? (by simpa using h2)) (List.nodup_cons.mp nd).1
 |a::l,i+1,0,x,nd,h1,h2=>by
  cases h2;exact absurd (List.mem_of_getElem? (by simpa using h1)) (List.nodup_cons.mp nd).1
 |a::l,i+1,j+1,x,nd,h1,h2=>congrArg (·+1) (fN (List.nodup_cons.mp nd).2 (by simpa using h1) (by simpa using h2))
theorem Ft{α:Type}:∀{l:List α} {i:Nat} {x:α},l.Nodup->x∉l->(l.set i x).Nodup
 |[],_,_,nd,_=>nd
 |a::l,0,x,nd,h=>zk.mpr {λm=>h (qo _ m),(zk.mp nd).2}
 |a::l,i+1,x,nd,h=>zk.mpr {λm=>by
   rcases gw m with m|m
   ·exact(zk.mp nd).1 m
   ·exact h (by rw[m];exact ql),Ft (zk.mp nd).2 λm=>h (qo _ m)}
abbrev nV(n:Nat):V:=.int (n:Int)
abbrev bY(r:List Nat):List V:=r.map nV
def fJ(d:Dd):List Key:=[.inl (d.aB:Int),.inl (d.num:Int)]
def ay(H:Hp)(ws:List Str)(v:V)(d:Dd):Prop:=∃q w a b x,v=.ref q/\ws[d.aB]?=some w/\H q=some (.tup [.str w,nV d.num,.ref a,b,x])/\H a=some (.tup (bY d.hd))/\DT H b d.br/\DT H x (.tuple d.wt)
def ay.mono(h:ay H ws v d)(s:ab H H'):ay H' ws v d:=by
 obtain⟨q,w,g,b,x,e,h1,h2,c,a,f⟩:=h;exact{q,w,g,b,x,e,h1,s _ _ h2,s _ _ c,a.same s,f.same s}
def Ab{H:Hp}{a b:Addr}{xs:List V}{o:HO}(f:H a=some (.tup xs))(c:H b=some o)(d:∀ys,o≠.tup ys):a≠b:=λe=>by
 subst e;rw[f]at c;exact d xs (qE c).symm
theorem ay.wr(h:ay H ws v d)(e:H a=some o)(c:∀ys,o≠.tup ys):ay (upd H a o') ws v d:=by
 obtain⟨q,w,g,b,x,i,h1,h2,f,j,k⟩:=h;exact{q,w,g,b,x,i,h1,by rw[aD (Ab h2 e c)];exact h2,by rw[aD (Ab f e c)];exact f,j.wr e c,k.wr e c}
def dV(H:Hp)(ws:List Str)(des:List V)(ds:List Dd):Prop:=des.length=ds.length/\∀(i:Nat) (d:Dd),ds[i]?=some d->∃v,des[i]?=some v/\ay H ws v d
theorem dV.mono(h:dV H ws des ds)(s:ab H H'):dV H' ws des ds:={h.1,λi d e=>let⟨v,a,b⟩:=h.2 i d e;{v,a,b.mono s}}
theorem dV.wr(h:dV H ws des ds)(e:H a=some o)(c:∀ys,o≠.tup ys):dV (upd H a o') ws des ds:={h.1,λi d f=>let⟨v,x,b⟩:=h.2 i d f;{v,x,b.wr e c}}
def dV.snoc(h:dV H ws des ds)(hd:ay H ws v d):dV H ws (des++[v]) (ds++[d]):=by
 refine{by simp[h.1],λi d' e=>?_}
 by_cases hi:i<ds.length
 ·rw[vz hi]at e
  obtain⟨x,h1,h2⟩:=h.2 i d' e;exact{x,by rw[vz (by rw[h.1];exact hi)];exact h1,h2}
 ·rw[ja ()]at e
  have a:i - ds.length=0:=by
   have:=(qw.mp e).1
   simp at this
   omega
  rw[a]at e;cases e;exact{v,by rw[ja (by rw[h.1];omega),h.1,a];rfl,hd}
structure dZ(H0 H:Hp)(kp tp dp:Addr)(ws:List Str)(kn:List (List Nat))(td ds:List Dd)(ks:List Addr)(kvs:List (List Key×V))(des:List V):Prop where
 same:ab H0 H
 h_:H kp=some (.lst (ks.map V.ref))
 fL:ks.length=kn.length
 rows:∀i k,ks[i]?=some k->H k=some (.lst (bY (aF kn i)))
 nd:ks.Nodup
 kk:kp∉ks
 kd:kp≠dp
 dk:dp∉ks
 fk:H0 kp=none
 ft:H0 tp=none
 fd:H0 dp=none
 fr:∀k∈ks,H0 k=none
 jA:H tp=some (.dT kvs)
 tab:∀d∈td,∃q,cN kvs (fJ d)=some (.ref q)/\H q=some (.lst (bY d.hd))/\q≠kp/\q≠dp/\q∉ks
 iB:kvs.length≤td.length
 dat:H dp=some (.lst des)
 d5:dV H ws des ds
section
variable {H0 H H':Hp}{kp tp dp:Addr}{ws:List Str}{kn:List (List Nat)}{td ds:List Dd}{ks:List Addr}{kvs:List (List Key×V)}{des:List V}
theorem dZ.mono(h:dZ H0 H kp tp dp ws kn td ds ks kvs des)(s:ab H H'):dZ H0 H' kp tp dp ws kn td ds ks kvs des where
 same:=h.same.trans s
 h_:=s _ _ h.h_
 fL:=h.fL
 rows:=λi k e=>s _ _ (h.rows i k e)
 nd:=h.nd
 kk:=h.kk
 kd:=h.kd
 dk:=h.dk
 fk:=h.fk
 ft:=h.ft
 fd:=h.fd
 fr:=h.fr
 jA:=s _ _ h.jA
 tab:=λd hd=>let⟨q,a,b,c⟩:=h.tab d hd;{q,a,s _ _ b,c}
 iB:=h.iB
 dat:=s _ _ h.dat
 d5:=h.d5.mono s
def dZ.tk(h:dZ H0 H kp tp dp ws kn td ds ks kvs des){k:Addr}(b:k∈ks):tp≠k:=λe=>by
 obtain⟨i,hi,a⟩:=zv.mp b;have:=h.rows i k (by rw[qc hi,a]);rw[←e,h.jA]at this;cases this
def dZ.Rr(h:dZ H0 H kp tp dp ws kn td ds ks kvs des):tp≠kp:=λe=>by
 have:=h.h_;rw[←e,h.jA]at this;cases this
def dZ.Rj(h:dZ H0 H kp tp dp ws kn td ds ks kvs des):tp≠dp:=λe=>by
 have:=h.dat;rw[←e,h.jA]at this;cases this
def Ee:∀ys,(HO.lst xs)≠.tup ys:=λys e=>by cases e
def BJ:∀ys,(HO.dT xs)≠.tup ys:=λys e=>by cases e
def dZ.row(h:dZ H0 H kp tp dp ws kn td ds ks kvs des){k:Addr}(e:ks[i]?=some k):dZ H0 (upd H k (.lst (bY r))) kp tp dp ws (kn.set i r) td ds ks kvs des:=by
 have c:k∈ks:=qk e;have hi:i<ks.length:=(qw.mp e).1;refine{h.same.wr (h.fr k c),?_,by rw[wq];exact h.fL,λj g f=>?_,h.nd,h.kk,h.kd,h.dk,h.fk,h.ft,h.fd,h.fr,?_,λd hd=>?_,h.iB,?_,h.d5.wr (h.rows i k e) Ee}
 ·rw[aD (λz=>h.kk (by rw[z];exact c))];exact h.h_
 ·by_cases q:i=j
  ·subst q
   have:g=k:=by rw[e]at f;exact(qE f).symm
   subst this;rw[aG];show _=some (HO.lst (bY ((kn.set i r).getD i [])));rw[aI (by rw[←h.fL];exact hi)]
  ·have l:g≠k:=λz=>by
    subst z;exact q (fN h.nd e f)
   rw[aD l];show _=some (HO.lst (bY ((kn.set i r).getD j [])));rw[gW q];exact h.rows j g f
 ·rw[aD (h.tk c)];exact h.jA
 ·obtain⟨q,a,b,c1,c2,m⟩:=h.tab d hd
  exact{q,a,by rw[aD (λz=>m (by rw[z];exact c))];exact b,c1,c2,m}
 ·rw[aD (λz=>h.dk (by rw[z];exact c))];exact h.dat
def dZ.swap(h:dZ H0 H kp tp dp ws kn td ds ks kvs des)(hi:i<kn.length)(f:H p=none):dZ H0 (upd (upd H p (.lst (bY r))) kp (.lst ((ks.set i p).map V.ref))) kp tp dp ws (kn.set i r) td ds (ks.set i p) kvs des:=by
 have g:=h.mono (ab.new (o:=.lst (bY r)) f)
 have l:i<ks.length:=by rw[h.fL];exact hi
 have ne:∀{a o},H a=some o->p≠a:=λe z=>by subst z;rw[f]at e;cases e
 have w:p∉ks:=λm=>by
  obtain⟨j,t,v⟩:=zv.mp m;exact ne (h.rows j p (by rw[qc t,v])) rfl
 have mem:∀{x},x∈ks.set i p->x∈ks\/x=p:=λm=>gw m
 have y:H0 p=none:=by
  cases e:H0 p with
  |none=>rfl
  |some o=>rw[h.same _ _ e]at f;cases f
 refine{g.same.wr h.fk,aG,by rw[wq,wq];exact h.fL,λj n c=>?_,?_,λm=>?_,h.kd,λm=>?_,h.fk,h.ft,h.fd,λk m=>?_,?_,λd hd=>?_,h.iB,?_,g.d5.wr g.h_ Ee}
 ·by_cases q:i=j
  ·subst q
   rw[yq l]at c;cases c;rw[aD (ne h.h_),aG];show _=some (HO.lst (bY ((kn.set i r).getD i [])));rw[aI hi]
  ·rw[vj q]at c
   have u:n∈ks:=qk c;rw[aD (λz=>h.kk (by rw[←z];exact u))];show _=some (HO.lst (bY ((kn.set i r).getD j [])));rw[gW q];exact g.rows j n c
 ·exact Ft h.nd w
 ·rcases mem m with m|m
  ·exact h.kk m
  ·exact ne h.h_ m.symm
 ·rcases mem m with m|m
  ·exact h.dk m
  ·exact ne h.dat m.symm
 ·rcases mem m with m|m
  ·exact h.fr k m
  ·rw[m];exact y
 ·rw[aD h.Rr];exact g.jA
 ·obtain⟨q,a,b,c1,c2,s⟩:=h.tab d hd
  refine{q,a,?_,c1,c2,λm=>?_}
  ·rw[aD c1,aD (λz=>ne b z.symm)];exact b
  ·rcases mem m with m|m
   ·exact s m
   ·exact ne b m.symm
 ·rw[aD (λz=>h.kd z.symm)];exact g.dat
def dZ.put(h:dZ H0 H kp tp dp ws kn td ds ks kvs des)(f:H q=some (.lst (bY d.hd)))(g:q≠kp)(n:q≠dp)(p:q∉ks)(un:∀e∈td,fJ e≠fJ d) :
  dZ H0 (upd H tp (.dT (putK kvs (fJ d) (.ref q)))) kp tp dp ws kn (td++[d]) ds ks (putK kvs (fJ d) (.ref q)) des:=by
 have l:q≠tp:=λz=>by subst z;rw[h.jA]at f;cases f
 refine{h.same.wr h.ft,?_,h.fL,λi k e=>?_,h.nd,h.kk,h.kd,h.dk,h.fk,h.ft,h.fd,h.fr,aG,λe j=>?_,?_,?_,h.d5.wr h.jA BJ}
 ·rw[aD (λz=>h.Rr z.symm)];exact h.h_
 ·rw[aD (λz=>h.tk (qk e) z.symm)];exact h.rows i k e
 ·rcases qy.mp j with m|m
  ·obtain⟨o,a,b,c⟩:=h.tab e m
   refine{o,by rw[Ig,qt (un e m)];exact a,?_,c};rw[aD (λz=>by subst z;rw[h.jA]at b;cases b)];exact b
  ·rw[zb.mp m]
   exact{q,by rw[Ig,q0 rfl],by rw[aD l];exact f,g,n,p}
 ·have:=sZ kvs (fJ d) (.ref q)
  have:=h.iB;rw[qm,zi];omega
 ·rw[aD (λz=>h.Rj z.symm)];exact h.dat
def dZ.add(h:dZ H0 H kp tp dp ws kn td ds ks kvs des)(hd:ay H ws v d):dZ H0 (upd H dp (.lst (des++[v]))) kp tp dp ws kn td (ds++[d]) ks kvs (des++[v]):=by
 refine{h.same.wr h.fd,?_,h.fL,λi k e=>?_,h.nd,h.kk,h.kd,h.dk,h.fk,h.ft,h.fd,h.fr,?_,λe f=>?_,h.iB,aG,(h.d5.snoc hd).wr h.dat Ee}
 ·rw[aD h.kd];exact h.h_
 ·rw[aD (λz=>h.dk (by rw[←z];exact qk e))];exact h.rows i k e
 ·rw[aD h.Rj];exact h.jA
 ·obtain⟨q,a,b,c1,c2,c⟩:=h.tab e f
  exact{q,a,by rw[aD c2];exact b,c1,c2,c}
def dZ.Fp{d d2:Dd}(h:dZ H0 H kp tp dp ws kn (td++[d]) ds ks kvs des)(e:fJ d2=fJ d)(a:d2.hd=d.hd):dZ H0 H kp tp dp ws kn (td++[d2]) ds ks kvs des :=
 {h.same,h.h_,h.fL,h.rows,h.nd,h.kk,h.kd,h.dk,h.fk,h.ft,h.fd,h.fr,h.jA,λx b=>by
  rcases qy.mp b with m|m
  ·exact h.tab x (va _ m)
  ·rw[zb.mp m,e,a]
   exact h.tab d (zx _ (zb.mpr rfl)),by have:=h.iB;rw[qm,zi]at this ⊢;exact this,h.dat,h.d5}
def dZ.guard(h:dZ H0 H kp tp dp ws kn td ds ks kvs des)(j:H p=none)(s:ab H H')(e:H' p=some o):dZ (upd H0 p o) H' kp tp dp ws kn td ds ks kvs des:=by
 have ne:∀{a u},H a=some u->a≠p:=λ{a u} c z=>by rw[z,j]at c;cases c
 have g:=h.mono s;refine{λb u q=>?_,g.h_,g.fL,g.rows,g.nd,g.kk,g.kd,g.dk,?_,?_,?_,λk d=>?_,g.jA,g.tab,g.iB,g.dat,g.d5}
 ·by_cases z:b=p
  ·subst z
   rw[aG]at q;rw[e];exact q
  ·rw[aD z]at q
   exact g.same b u q
 ·rw[aD (ne h.h_)];exact h.fk
 ·rw[aD (ne h.jA)];exact h.ft
 ·rw[aD (ne h.dat)];exact h.fd
 ·obtain⟨i,hi,f⟩:=zv.mp d
  rw[aD (ne (h.rows i k (by rw[qc hi,f])))];exact h.fr k d
def dZ.weak(s:ab H0 H1)(h:dZ H1 H kp tp dp ws kn td ds ks kvs des):dZ H0 H kp tp dp ws kn td ds ks kvs des :=
 {s.trans h.same,h.h_,h.fL,h.rows,h.nd,h.kk,h.kd,h.dk,s.free h.fk,s.free h.ft,s.free h.fd,λk a=>s.free (h.fr k a),h.jA,h.tab,h.iB,h.dat,h.d5}
def dZ.rowAt(h:dZ H0 H kp tp dp ws kn td ds ks kvs des)(hi:i<kn.length):∃k,ks[i]?=some k/\H k=some (.lst (bY (aF kn i)))/\iH (ks.map V.ref) (i:Int)=some (.ref k):=by
 have a:i<ks.length:=by rw[h.fL];exact hi
 exact{ks[i],qc a,h.rows i _ (qc a),bH (by rw[qh,qc a];rfl)}
end
def eH{r:List Nat}{i:Nat}(h:i<r.length):iH (bY r) (i:Int)=some (nV (aK r i)):=bH (by
 rw[qh,qc h];unfold aK
 rw[qu,qc h];rfl)
def wF{α:Type}{xs:List α}{j:Nat}{v:α}(h:iH xs (j:Int)=some v):iH xs (0+(j:Int))=some v:=by rw[Int.zero_add];exact h
def iU(h:i<n):mX n (i:Int)=some i:=by
 unfold mX;rw[q0 (),q0 ()]
 simp
def ka(r:List Nat)(i x:Nat):(bY r).set i (nV x)=bY (r.set i x):=by
 unfold bY;rw[jb]
def lM(a b:Nat):(if(b:Int)>(a:Int) then(b:Int) else(a:Int))=((max a b:Nat):Int):=by
 split <;> omega
def mh(m:Nat):(List.replicate ((m:Int).toNat) [V.int 0]).flatten=bY (List.replicate m 0):=by
 rw[Int.toNat_natCast]
 induction m with
 |zero=>rfl
 |succ m a =>
  rw[wu,yg,a,wu];rfl
def tw(h:¬(a.aB=b.aB/\a.num=b.num)):fJ a≠fJ b:=λe=>by
 unfold fJ at e;injection e with e1 e2;injection e2 with e2 _;injection e1 with e1;injection e2 with e2;exact h {(),()}
def g_(h:i<m):aF (List.replicate m (List.replicate m 0)) i=List.replicate m 0:=by
 unfold aF;rw[qu,yf,q0 h];rfl
end Hs
namespace My
open PySem L2 PyProof.Rows
def aN(h:Nat.ble n 1000=true):n≤sizeLine:=qj (aV (qz h))
def OE:∀c∈("abcdefghijklmnopqrstuvwxyz":Str).cps.toList,97≤c/\c≤122:=∅
def HZ{α:Type}{xs:List α}{i:Int}{v:α}(h:iH xs i=some v):v∈xs:=by
 unfold iH at h
 cases e:mX xs.length i with
 |none=>rw[e]at h;cases h
 |some j=>rw[e]at h;exact qk h
def rM(z:Str)(c:Nat):(z++{#[c]}:Str).cps.toList=z.cps.toList++[c]:=by
 show(z.cps++#[c]).toList=_
 simp
def Oe(z:Str):(cA z none (some 7)).cps.toList=z.cps.toList.take 7:=by
 unfold cA;show(z.cps.toList.drop 0).take (min 7 z.length - 0)=_;rw[vn,vh]
 by_cases h:7≤z.length
 ·rw[Nat.min_eq_left h]
 ·have a:z.cps.toList.length=z.length:=by simp;rfl
  rw[Nat.min_eq_right (),ww (),ww ()]
def QI(h:cm z)(a:97≤c/\c≤122):cm (cA z none (some 7)++{#[c]}):=by
 have e:(cA z none (some 7)++⟨#[c]⟩:Str).cps.toList=z.cps.toList.take 7++[c]:=by rw[rM,Oe]
 have sz:(cA z none (some 7)++⟨#[c]⟩:Str).cps.size=(z.cps.toList.take 7).length+1:=by rw[←zh,e,qm,zi]
 refine{(),?_,λd hd=>?_}
 ·rw[sz,zq];omega
 ·rw[e]at hd
  rcases qy.mp hd with q|q
  ·exact h.2.2 d (yb q)
  ·rw[zb.mp q];exact a
def GO(h:cm z):(PyData.str z).canLay0=true:=by
 show PyData.strOk z=true;unfold PyData.strOk;rw[←jq,zm];intro c a;have:=h.2.2 c a;exact qA ()
structure RL(H:Hp)(p:Addr)(ws:List Str):Prop where
 at':H p=some (.lst (ws.map V.str))
 pos:0<ws.length
 bR:ws.length≤6
 wd:∀w∈ws,cm w
def RL.mono(r:RL H p ws)(s:ab H H'):RL H' p ws:={s _ _ r.at',r.pos,r.bR,r.wd}
def RL.len(r:RL H p ws):(0:Int)<((ws.map V.str).length:Int)/\((ws.map V.str).length:Int)<1073741824:=by
 have a:=r.pos;have b:=r.bR;rw[qa];omega
structure DR(H:Hp)(p:Addr)(ns:List Int)(n:Nat):Prop where
 at':H p=some (.lst (List.map V.int ns))
 len:n≤ns.length
 bR:ns.length≤100
def DR.mono(r:DR H p a n)(s:ab H H'):DR H' p a n:={s _ _ r.at',r.len,r.bR}
def DR.get(r:DR H p a n)(k:Nat)(h:k<n):∃i,iH (List.map V.int a) (k:Int)=some (.int i):=by
 have b:k<a.length:=zc h r.len;exact{a[k],bH (by rw[qh,qc b];rfl)}
inductive A6(vs:List V)(H:Hp)(Q:VK)(_:XK):Prop
 |mk(i:_)(n:Nat)(_:vs=[.int i,.int n])(_:n≤30)(_:∀H' p ns,ab H H'->H p=none->DR H' p ns n->ns.length=n->Q (.ref p) H')
inductive yC(vs:List V)(H:Hp)(Q:VK)(_:XK):Prop
 |mk(i:_)(_:vs=[.int i])(_:∀z:Str,cm z->Q (.str z) H)
inductive Ei(vs:List V)(H:Hp)(Q:VK)(_:XK):Prop
 |mk(i:_)(_:vs=[.int i])(_:∀H' p ws,ab H H'->H p=none->RL H' p ws->2≤ws.length->ws.Nodup->Q (.ref p) H')
inductive Fg(P:List Str->PyData->Prop)(vs:List V)(H:Hp)(Q:VK)(_:XK):Prop
 |mk(i p ws:_)(_:vs=[.int i,.ref p])(_:RL H p ws)(_:∀H' v d,ab H H'->DT H' v d->P ws d->Q v H')
def tupP(P:List Str->List PyData->Prop)(ws:List Str)(d:PyData):Prop:=∃ds,d=.tuple ds/\P ws ds
def D2:Sp:=Fg (tupP cX)
def wW:Sp:=Fg (tupP cD)
def B':Sp:=Fg (tupP iV)
def Cw:Sp:=Fg eN
def CF:Sp:=Fg eP
def CV:Sp:=Fg sI
inductive A7(vs:List V)(H:Hp)(Q:VK)(_:XK):Prop
 |mk(d p ws ns:_)(_:vs=[.ref d,.ref p])(_:RL H p ws)(_:DR H d ns 1)(_:∀H' v sg,ab H H'->DT H' v (.tuple sg)->1≤sg.length->sg.length≤12->(∀x∈sg,eP ws x)->Q v H')
inductive yK(vs:List V)(H:Hp)(Q:VK)(_:XK):Prop
 |mk(d p ws ns:_)(_:vs=[.ref d,.ref p])(_:RL H p ws)(_:DR H d ns 1)(_:∀H' v (nn:List (List PyData)),ab H H'->DT H' v (.tuple (nn.map .tuple))->1≤nn.length->nn.length≤12->(∀x∈nn,iV ws x)->nn.Nodup->Q v H')
inductive Bp(vs:List V)(H:Hp)(Q:VK)(_:XK):Prop
 |mk(i d p ws ns:_)(_:vs=[.int i,.ref d,.ref p])(_:RL H p ws)(_:DR H d ns 6)(_:∀H' v wt,ab H H'->DT H' v (.tuple wt)->(∀num,bA ws num wt)->Q v H')
inductive Cb(vs:List V)(H:Hp)(Q:VK)(_:XK):Prop
 |mk(i d p ws ns:_)(_:vs=[.int i,.ref d,.ref p])(_:RL H p ws)(_:DR H d ns 6)(_:∀H' v wt,ab H H'->DT H' v (.tuple wt)->(∀num,bA ws num wt)->Q v H')
inductive xW(vs:List V)(H:Hp)(Q:VK)(_:XK):Prop
 |mk(d p ws ns n:_)(_:vs=[.ref d,.ref p,.int n])(_:RL H p ws)(_:DR H d ns 8)(_:∀H' v wt,ab H H'->DT H' v (.tuple wt)->bA ws n wt->Q v H')
section
variable {K:PySem.W.Frag}{vs:List V}{H:Hp}{Q:VK}{E:XK}
end
inductive Ah(vs:List V)(H:Hp)(Q:VK)(_:XK):Prop
 |mk(sp ns most:_)(_:vs=[.ref sp,.int most])(_:aw H sp (List.map V.int ns))(_:ns.length≤63)(_:∀H' p rp dp ws ds des,ab H H'->H p=none->H' p=some (.tup [.ref rp,.ref dp])->RL H' rp ws->2≤ws.length->ws.Nodup->H dp=none->H' dp=some (.lst des)->Hs.dV H' ws des ds->Hs.Wh ws.length ds->(∀d∈ds,sI ws d.br/\bA ws d.num d.wt)->ds.length≤ns.length - 1->Q (.ref p) H')
def oy(b:Bool):(0:Int)≤(if b=true then 1 else 0):=by cases b <;> decide
def qQ(b:Bool):(if b=true then 1 else 0:Int)<(([x,y]:List V).length:Int):=by cases b <;> simp
def o7{a:List Int}{lo hi:Option Int}{x:V}(h:x∈bQ (List.map V.int a) lo hi):∃m,x=V.int m:=by
 unfold bQ at h;obtain⟨n,_,e⟩:=qf.mp (jy (yb h));exact{n,e.symm}
def lG(z:Str):Option Nat:=z.cps.toList.getLast?
def jT(ws:List Str)(i:Nat)(w:Str):Prop:=w∉ws\/∃S:List Str,S.Nodup/\(∀x∈S,x∈ws)/\i≤S.length+1/\(∀x∈S,∃j,j+1<i/\lG x=some (97+j))/\(i=0\/lG w=some (97+(i - 1)))
def Qy(ws:List Str)(w:Str):jT ws 0 w:=.inr {[],wj,(λ_ z=>nomatch z),(),(λ_ z=>nomatch z),.inl rfl}
def AV(z:Str)(c:Nat):lG (z++{#[c]})=some c:=by
 unfold lG;show((z.cps++#[c]).toList).getLast?=some c
 simp
def Qq(h:jT ws i w)(b:w∈ws):jT ws (i+1) (z++{#[97+i]}):=by
 rcases h with h|⟨S,nd,sub,len,lst,lw⟩
 ·exact absurd b h
 ·right
  rcases lw with rfl|lw
  ·exact⟨[],List.nodup_nil,(λ_ z=>nomatch z),by simp,(λ_ z=>nomatch z),.inr (AV _ _)⟩
  ·by_cases hi:i=0
   ·subst hi
    exact⟨[],List.nodup_nil,(λ_ z=>nomatch z),by simp,(λ_ z=>nomatch z),.inr (AV _ _)⟩
   ·refine⟨w::S,zk.mpr ⟨λm=>?_,nd⟩,λx a=>?_,by rw[qr];omega,λx a=>?_,.inr (AV _ _)⟩
    ·obtain⟨j,c,e⟩:=lst w m
     rw[lw]at e;have:=qE e;omega
    ·rcases qv.mp a with rfl|a
     ·exact b
     ·exact sub x a
    ·rcases qv.mp a with rfl|a
     ·exact⟨i - 1,(),lw⟩
     ·obtain⟨j,c,e⟩:=lst x a
      exact{j,(),e}
def Ob(h:jT ws 8 w)(a:ws.length≤6):w∉ws:=by
 rcases h with h|⟨S,nd,sub,len,_,_⟩
 ·exact h
 ·have:=eI nd sub
  omega
def yH(h:c<8)(e:("abcdefgh":Str).cps[c]?=some ch):ch=97+c:=by
 have q:("abcdefgh":Str).cps=#[97,98,99,100,101,102,103,104]:=∅
 rw[q]at e
 have a:c=0\/c=1\/c=2\/c=3\/c=4\/c=5\/c=6\/c=7:=()
 rcases a with rfl|rfl|rfl|rfl|rfl|rfl|rfl|rfl <;> (simp at e;omega)
def Qo(ws:List Str):(ws.map V.str).all fx=true:=by
 rw[yc];exact zm.mpr λ_ _=>rfl
def m8(w:Str)(ws:List Str):su (.str w) (ws.map V.str)=decide (w∈ws):=by
 unfold su
 induction ws with
 |nil=>rfl
 |cons x ws b =>
  rw[qi,vk,b];show(x==w||decide (w∈ws))=decide (w∈x::ws)
  by_cases e:x=w
  ·subst e;simp
  ·have a:¬w=x:=λz=>e z.symm
   simp[e,a]
def P0{ws:List Str}{w:Str}(nd:ws.Nodup)(h:w∉ws):(ws++[w]).Nodup:=B1 nd h
def Gu(a:List Int)(lo hi:Option Int):bQ (List.map V.int a) lo hi=List.map V.int ((a.drop (HT.bE a.length 0 lo)).take (HT.bE a.length a.length hi - HT.bE a.length 0 lo)):=by
 unfold bQ;rw[qa,List.map_take,List.map_drop]
def DR.from(r:DR H d a n)(k:Nat)(h:k≤n)(e:H' q=some (.lst (bQ (List.map V.int a) (some (k:Int)) none))):DR H' q (a.drop k) (n - k):=by
 have b:=r.len;refine{?_,by rw[wa];omega,by have:=r.bR;rw[wa];omega};rw[e,Gu,HT.eE,HT.dA,Nat.min_eq_left (),ww (by rw[wa];exact qb _)]
end My
namespace L2
open PySem PySem.Spec PySem.W PyProof.Rows My
theorem rZ:∀ws:List Str,fG H (ws.map V.str) (ws.map PyData.str)
 |[]=>.nil
 |w::ws=>.cons (.str w) (rZ ws)
theorem Ge:∀{ws:List Str},(∀w∈ws,cm w)->PyData.canLayAll0 (ws.map PyData.str)=true
 |[],_=>by first|rfl|(unfold PyData.canLayAll0;rfl)
 |w::ws,h=>by
  show PyData.canLayAll0 (.str w::ws.map PyData.str)=true;unfold PyData.canLayAll0;rw[GO (h w ql),Ge λx a=>h x (qo _ a)];rfl
def Ie{z:Str}{ws:List Str}(h:z∈ws):ws[ws.idxOf z]?=some z:=by
 induction ws with
 |nil=>exact absurd h (by simp)
 |cons w ws b =>
  by_cases e:w=z
  ·subst e;simp[List.idxOf_cons]
  ·have h':z∈ws:=(qv.mp h).resolve_left λx=>e x.symm
   have a:(w==z)=false:=beq_eq_false_iff_ne.mpr e;rw[List.idxOf_cons,a];simpa using b h'
def MR{z:Str}{ws:List Str}{m:Nat}(h:m<ws.idxOf z):ws[m]?≠some z:=by
 intro e;have:=List.not_of_lt_findIdx (p:=(·==z)) (xs:=ws) h;have b:m<ws.length:=(qw.mp e).1;have a:ws[m]=z:=(qw.mp e).2;rw[a]at this
 simp at this
def LY(a b:Str):PyData.eqv (.str a) (.str b)=decide (a=b):=by
 cases e:PyData.eqv (.str a) (.str b) with
 |true=>exact(qA (PyData.str.inj ((mN _ _ rfl rfl).mp e))).symm
 |false=>exact(decide_eq_false λh=>by rw[(mN _ _ rfl rfl).mpr (congrArg PyData.str h)]at e;exact Bool.noConfusion e).symm
def Q3(hw:RL H p ws)(hz:z∈ws)(q:Q (.int ((ws.idxOf z:Nat):Int)) H):iW 61 (.ref p) [.str z] H Q :=
 {.str z,.str z,p,ws.map PyData.str,ws.map V.str,ws.idxOf z,U,U,.str z,aw.of hw.at',rZ ws,GO (hw.wd z hz),Ge hw.wd,(by show PyData.depth (.str z)≤61;simp[PyData.depth]),{.str z,by rw[List.getElem?_map,Ie hz];rfl,by rw[LY];simp},λm d a hd=>by
  rw[qh]at hd
  cases e:ws[m]? with
  |none=>rw[e]at hd;exact nomatch hd
  |some w =>
   rw[e]at hd;have hd:PyData.str w=d:=qE hd;subst hd;rw[LY]
   exact decide_eq_false λx=>MR a (x▸e),q}
end L2
namespace L2
open PySem PySem.Spec PySem.W PyProof.Rows
section
variable {X:Cx}
inductive FF(x y:V)(H:Hp)(Q:VK):Prop
 |mk(a b xs ys:_)(_:x=.ref a)(_:y=.ref b)(_:H a=some (.tup xs))(_:H b=some (.tup ys))(_:xs.length+ys.length≤sizeLine)(_:∀p H',ab H H'->H' p=some (.tup (xs++ys))->Q (.ref p) H')
def OL:cw X (binaryOp .Add) FF:=by
 intro pins s σ H x y v u Q I w t h;obtain⟨a,b,xs,ys,rfl,rfl,z,j,hz,q⟩:=h
 by_cases o:xs=[]
 ·subst o
  cases w;cases t;obtain⟨c,J,D,_⟩:=I.tuple (aH.of z);obtain⟨f,K,p2,_⟩:=I.tuple (aH.of j);obtain⟨⟨E,C,p,G⟩,A,m,n,hd⟩:=id D;obtain⟨⟨r,k,i,l⟩,d,e,n2,g⟩:=id p2
  simp only at m hd e g
  subst m hd e g;have B:c=[]:=J.gG.mpr rfl
  exact concat_meets {_,A,U} {_,d,U} noFill_tuple_add seq_tuple_add PySem.F.slot_tuple_add PySem.F.entry_tuple_add (PySem.F.args_tuple_add_2 _ _)
   (tuple_addW0 a b c.toArray f.toArray n n2 C k G l (by simp[B])) {A,d,{.ref b,H,I,U,q b H (ab.refl _) j}}
 ·exact O2 pins s σ H _ _ v u Q I w t {a,b,xs,ys,U,U,z,j,o,hz,q}
end
end L2
namespace Stb
open PySem SetTable
def Mk(m:Nat):Prop:=m=7\/m=31\/m=127
def F(M:Nat):Nat->Nat
 | 0=>0
 |n+1=>(F M n * 5+1) % M
def Eg:∀j,j<8->∃a,a<8/\F 8 a=j:=∅
def P5:∀j,j<32->∃a,a<32/\F 32 a=j:=∅
def M_:∀j,j<128->∃a,a<128/\F 128 a=j:=∅
def vO(h:Mk m):∀j,j<m+1->∃a,a<m+1/\F (m+1) a=j:=by
 rcases h with rfl|rfl|rfl
 ·exact Eg
 ·exact P5
 ·exact M_
def yE(h:Mk m):F (m+1) (m+1)=0:=by
 rcases h with rfl|rfl|rfl <;> decide +kernel
def lp(m:Nat):Nat->Nat×Nat->Nat×Nat
 | 0,x=>x
 |r+1,x=>lp m r (leap m x.1 x.2)
def Hh(m r a:Nat)(x:Nat×Nat):lp m (r+a) x=lp m a (lp m r x):=by
 induction r generalizing x with
 |zero=>rw[vt];rfl
 |succ r b=>rw[Nat.succ_add];exact b _
theorem uJ:∀(r:Nat) (x:Nat×Nat),x.1<m+1->(lp m r x).1<m+1
 | 0,_,h=>h
 |r+1,x,_=>uJ r _ (jc _ (jz _))
theorem Il(m:Nat):∀(r:Nat) (x:Nat×Nat),(lp m r x).2=x.2 / 32 ^ r
 | 0,x=>by rw[Nat.pow_zero,Nat.div_one];rfl
 |r+1,x=>by
  show(lp m r (leap m x.1 x.2)).2=_;rw[Il m r,show(leap m x.1 x.2).2=x.2 / 32 from rfl,Nat.div_div_eq_div_mul,Nat.pow_succ,Nat.mul_comm]
theorem Et(m:Nat):∀(r a:Nat),lp m r (F (m+1) a,0)=(F (m+1) (a+r),0)
 | 0,_=>rfl
 |r+1,a=>by
  show lp m r (leap m (F (m+1) a) 0)=_
  have:leap m (F (m+1) a) 0=(F (m+1) (a+1),0):=by
   show((F (m+1) a * 5+1+0 / 32) % (m+1),0 / 32)=_;rw[Nat.zero_div,y0];rfl
  rw[this,Et m r (a+1),Nat.add_right_comm,j3]
def J'(h:Mk m)(n:Nat):F (m+1) (m+1+n)=F (m+1) n:=by
 induction n with
 |zero=>exact yE h
 |succ n a =>
  show(F (m+1) (m+1+n) * 5+1) % (m+1)=_;rw[a];rfl
def reach(h:Mk m)(hi:i<m+1)(e:q<2 ^ 64)(g:j<m+1):∃r,r≤m+13/\(lp m r (i,q)).1=j:=by
 have h1:=uJ 13 (i,q) hi
 have h2:(lp m 13 (i,q)).2=0:=by
  rw[Il];exact Nat.div_eq_of_lt (zc e ⋯)
 obtain⟨a,l,f⟩:=vO h _ h1;obtain⟨b,k,d⟩:=vO h _ g;have c:lp m 13 (i,q)=(F (m+1) a,0):=Prod.ext f.symm h2
 by_cases q:a≤b
 ·refine{13+(b - a),(),?_}
  rw[Hh,c,Et];show F (m+1) (a+(b - a))=j;rw[Nat.add_sub_cancel' q,d]
 ·refine{13+(m+1 - a+b),(),?_}
  rw[Hh,c,Et];show F (m+1) (a+(m+1 - a+b))=j;rw[show a+(m+1 - a+b)=m+1+b from (),J' h,d]
def eV(t:SetTable):Nat->Probe->Probe
 | 0,p=>p
 |n+1,p=>eV t n (t.advance p)
def xm(t:SetTable)(n a:Nat)(p:Probe):eV t (n+a) p=eV t a (eV t n p):=by
 induction n generalizing p with
 |zero=>rw[vt];rfl
 |succ n b=>rw[Nat.succ_add];exact b _
def at'(m i q:Nat):Probe:={ j:=i,more:=runEnd m i - i,i,perturb:=q,dummy:=none }
theorem K8(t:SetTable):∀(c k:Nat) (p:Probe),p.more=c+k->eV t c p={ p with j:=p.j+c,more:=k }
 | 0,k,p,h=>by
  have:p.more=k:=()
  show p={ p with j:=p.j+0,more:=k };rw[←this];rfl
 |c+1,k,p,h=>by
  show eV t c (t.advance p)=_
  have e:t.advance p={ p with j:=p.j+1,more:=p.more - 1 }:=by
   unfold advance;rw[q0 ()]
  rw[e,K8 t c k _ (by show p.more - 1=c+k;omega)];show({ p with j:=p.j+1+c,more:=k }:Probe)={ p with j:=p.j+(c+1),more:=k };rw[show p.j+1+c=p.j+(c+1) from ()]
def Ay(m i:Nat):runEnd m i - i≤9:=by
 unfold runEnd
 split <;> omega
def OR(t:SetTable)(i q:Nat):eV t (runEnd t.mask i - i+1) (at' t.mask i q)=at' t.mask (leap t.mask i q).1 (leap t.mask i q).2:=by
 rw[xm,K8 t (runEnd t.mask i - i) 0 (at' t.mask i q) (by rw[y0];rfl)];show t.advance { at' t.mask i q with j:=_,more:=0 }=_;unfold advance;rw[qt (by show ¬(0>0);omega)];rfl
theorem IL(t:SetTable):∀(r i q:Nat),∃n,n≤10 * r/\eV t n (at' t.mask i q)=at' t.mask (lp t.mask r (i,q)).1 (lp t.mask r (i,q)).2
 | 0,i,q=>{0,qb _,U}
 |r+1,i,q=>by
  obtain⟨n,hn,e⟩:=IL t r (leap t.mask i q).1 (leap t.mask i q).2;have:=Ay t.mask i;refine{runEnd t.mask i - i+1+n,(),?_};rw[xm,OR,e];rfl
def Ju(h:Int):bits h<2 ^ 64:=by
 unfold bits;have h1:(0:Int)≤h % (2 ^ 64:Int):=Int.emod_nonneg _ ⋯;have h2:h % (2 ^ 64:Int)<2 ^ 64:=Int.emod_lt_of_pos _ ⋯;omega
def comes{t:SetTable}(b:Mk t.mask)(h:Int)(c:j<t.mask+1):∃n,n<10 * turns t.mask/\(eV t n (t.probeStart h)).j=j:=by
 have hi:bits h % (t.mask+1)<t.mask+1:=jc _ (jz _);obtain⟨r,d,a⟩:=reach b hi (Ju h) c;obtain⟨n,hn,e⟩:=IL t r (bits h % (t.mask+1)) (bits h);refine{n,by unfold turns;omega,?_};show(eV t n (at' t.mask (bits h % (t.mask+1)) (bits h))).j=j;rw[e];exact a
theorem HV(t:SetTable):∀(n:Nat) (p:Probe),(eV t n p).dummy=p.dummy
 | 0,_=>rfl
 |n+1,p=>by
  show(eV t n (t.advance p)).dummy=_;rw[HV t n];unfold advance
  split <;> rfl
def Q_{t:SetTable}(hd:t.dummies=#[])(h:j∉t.place.toList):t.slot j=.empty:=by
 unfold slot
 have h1:¬(t.place[below t.place j]?==some j)=true:=λz=>by
  have z:=beq_iff_eq.mp z;exact h (qk (by rw[zu];exact z))
 have h2:¬(has t.dummies j)=true:=by rw[hd];unfold has;simp
 simp only[h1,h2]
 rfl
def Pu{t:SetTable}(h:t.slot j=.live i):i<t.place.size:=by
 unfold slot at h;dsimp only at h
 split at h
 ·rename_i h1
  injection h with h;rw[←h];exact(gx.mp (beq_iff_eq.mp h1)).1
 ·split at h <;> cases h
def QB{t:SetTable}(hd:t.dummies=#[]):t.slot j≠.dummy:=by
 unfold slot;dsimp only
 split
 ·simp
 ·rw[qt (by rw[hd];unfold has;simp)]
  simp
def MJ{l:List Nat}{M:Nat}(h:l.length<M):∃j,j<M/\j∉l:=by
 refine Classical.byContradiction λz=>?_;have:(List.range M).length≤l.length:=L2.eI List.nodup_range λx a=>Classical.byContradiction λy=>z {x,zy.mp a,y};rw[vm]at this;omega
structure Way(t:SetTable)(h:Int)(N:Nat):Prop where
 bR:N<10 * turns t.mask
 last:t.slot (eV t N (t.probeStart h)).j=.empty
 first:∀n,n<N->t.slot (eV t n (t.probeStart h)).j≠.empty
def zB{t:SetTable}(f:Mk t.mask)(hd:t.dummies=#[])(hf:t.place.size<t.mask+1)(h:Int):∃N,Way t h N:=by
 obtain⟨j,g,hn⟩:=MJ (l:=t.place.toList) (M:=t.mask+1) (by simpa using hf);obtain⟨n,a,e⟩:=comes f h g;have b:∃n,n<10 * turns t.mask/\t.slot (eV t n (t.probeStart h)).j=.empty:={n,a,by rw[e];exact Q_ hd hn};clear a e n;obtain⟨n,h1,h2⟩:=b
 induction n using Nat.strongRecOn with
 |_ n d =>
  by_cases q:∃k,k<n/\t.slot (eV t k (t.probeStart h)).j=.empty
  ·obtain⟨k,c,e⟩:=q
   exact d k c () e
  ·exact{n,h1,h2,λk c e=>q {k,c,e}}
theorem hU{t:SetTable}(w:Way t h N)(hd:t.dummies=#[]):∀(f k:Nat),k≤N->N - k<f →
  SetTable.probe.go t hashAt h f (eV t k (t.probeStart h))=some (.empty (eV t N (t.probeStart h)).j none)\/∃n j i,k≤n/\n<N/\i<t.place.size/\t.slot j=.live i/\SetTable.probe.go t hashAt h f (eV t k (t.probeStart h))=some (.candidate j i (eV t (n+1) (t.probeStart h)))
 | 0,k,_,h2=>absurd h2 (z0 _)
 |f+1,k,h1,h2=>by
  have a:(eV t k (t.probeStart h)).dummy=none:=HV t k _;unfold SetTable.probe.go
  cases hs:t.slot (eV t k (t.probeStart h)).j with
  |empty =>
   have:k=N:=by
    refine Classical.byContradiction λz=>?_;exact w.first k () hs
   subst this;left
   simp only[a]
  |dummy=>exact absurd hs (QB hd)
  |live i =>
   have d:k<N:=by
    refine Nat.lt_of_le_of_ne h1 λz=>?_;rw[z,w.last]at hs;cases hs
   have c:t.advance (eV t k (t.probeStart h))=eV t (k+1) (t.probeStart h):=by rw[xm];rfl
   dsimp only
   by_cases b:(hashAt i==h)=true
   ·right
    exact{k,_,i,qb _,d,Pu hs,hs,by rw[q0 b,c]}
   ·rw[qt b,c]
    rcases hU w hd f (k+1) () () with e|⟨n,j',i',a1,a2,a3,a4,a5⟩
    ·exact .inl e
    ·exact .inr ⟨n,j',i',(),a2,a3,a4,a5⟩
theorem Fo:∀(r f i q:Nat),r<f->owner.getD (lp m r (i,q)).1 (some 0)=none->∃j,layClean.free m owner f i q=some j/\owner.getD j (some 0)=none
 |_,0,_,_,h,_=>absurd h (z0 _)
 |r,f+1,i,q,h,a=>by
  unfold layClean.free
  cases e:(List.range (runEnd m i+1 - i)).find? λk=>(owner.getD (i+k) (some 0)).isNone with
  |some k =>
   have:=jd e;exact{i+k,U,Option.isNone_iff_eq_none.mp this}
  |none =>
   cases r with
   |zero =>
    have b:(0:Nat)∈List.range (runEnd m i+1 - i):=zy.mpr (by unfold runEnd;split <;> omega);have:=yy.mp e 0 b;have a:owner.getD i (some 0)=none:=a;rw[y0,a]at this;exact absurd rfl this
   |succ r =>
    dsimp only;exact Fo r f (leap m i q).1 (leap m i q).2 () a
theorem J5:∀{l:List (Option Nat)} {j:Nat},l[j]?=some none->((l.set j (some v)).filterMap id).Perm (v::l.filterMap id)
 |[],_,h=>by cases h
 |x::l,0,h=>by
  cases h;exact .refl _
 |x::l,j+1,h=>by
  have a:=J5 (v:=v) (l:=l) (j:=j) (by simpa using h);rw[List.set_cons_succ]
  cases x with
  |none=>exact a
  |some y=>exact(a.cons y).trans (.swap _ _ _)
structure Lay(m k:Nat)(owner:Array (Option Nat)):Prop where
 size:owner.size=m+1
 perm:(owner.toList.filterMap id).Perm (List.range k)
def QD{m k:Nat}(g:Mk m)(L:Lay m k owner)(w:k<m+1)(h:Int):∃j,layClean.free m owner (turns m) (bits h % (m+1)) (bits h)=some j/\Lay m (k+1) (owner.setIfInBounds j (some k)):=by
 have d:∃j,j<m+1/\owner.getD j (some 0)=none:=by
  refine Classical.byContradiction λz=>?_
  have h1:owner.toList.length≤(owner.toList.filterMap id).length:=by
   have:∀l:List (Option Nat),(∀x∈l,x≠none)->l.length≤(l.filterMap id).length:=λl=>by
    induction l with
    |nil=>intro _;exact qb _
    |cons x l o =>
     intro c
     cases x with
     |none=>exact absurd rfl (c none ql)
     |some y=>exact wg (o λx g=>c x (qo _ g))
   refine this _ λx c e=>?_;obtain⟨i,hi,p⟩:=zw c
   have a:i<owner.size:=by simpa using hi
   refine z {i,by rw[←L.size];exact a,?_};rw[we,zp a]
   have:owner[i]=none:=by
    have:=p.trans e;simpa using this
   rw[this];rfl
  have h2:=L.perm.length_eq;have B:=L.size
  simp at h1 h2
  omega
 obtain⟨A,f,q⟩:=d;obtain⟨r,v,u⟩:=reach g (jc (bits h) (jz m)) (Ju h) f;obtain⟨j,s,b⟩:=Fo (m:=m) (owner:=owner) r (turns m) (bits h % (m+1)) (bits h) (by unfold turns;omega) (by rw[u];exact q)
 have n:j<owner.size:=by
  refine Classical.byContradiction λz=>?_;rw[we,jx ()]at b;cases b
 have t:owner.toList[j]?=some none:=by
  rw[we,zp n]at b;rw[zu,zp n];exact congrArg some b
 refine{j,s,by rw[Array.size_setIfInBounds];exact L.size,?_};rw[Array.toList_setIfInBounds];refine(J5 t).trans ?_;rw[je];exact(L.perm.cons k).trans (gy k _).symm
theorem Hu(c:Mk m):∀(hs:List Int) (k:Nat) (owner:Array (Option Nat)),Lay m k owner->k+hs.length≤m->∃a ,(hs.foldl (λb h=>do
  let(owner,k) ←b
  let j ←layClean.free m owner (turns m) (bits h % (m+1)) (bits h)
  pure (owner.setIfInBounds j (some k),k+1)) (some (owner,k)))=some (a,k+hs.length)/\Lay m (k+hs.length) a
 |[],k,owner,L,_=>{owner,U,L}
 |h::hs,k,owner,L,hk=>by
  rw[qr]at hk;obtain⟨j,g,e⟩:=QD c L () h;obtain⟨o',f,d⟩:=Hu c hs (k+1) _ e ();refine{o',?_,by rw[qr,yu hs.length 1,←j3];exact d};rw[jo,qr,yu hs.length 1,←j3,←f]
  congr 1
  show(do
   let j ←layClean.free m owner (turns m) (bits h % (m+1)) (bits h)
   pure (owner.setIfInBounds j (some k),k+1))=_
  rw[g];rfl
def s_{m finger moves:Nat}{led plain:Bool}{hs:Array Int}(k:Mk m)(g:hs.size≤m):∃t a,laid m finger moves led plain hs=some (t,a)/\t.mask=m/\t.dummies=#[]/\t.place.size=hs.size/\a.toList.Perm (List.range hs.size):=by
 have h:Lay m 0 (Array.replicate (m+1) none):={by simp,by
  have:∀n:Nat,(List.replicate n (none:Option Nat)).filterMap id=[]:=λn=>by
   induction n with
   |zero=>rfl
   |succ n f=>rw[wu];exact f
  rw[Array.toList_replicate,this]
  exact .nil}
 obtain⟨o',c,L⟩:=Hu k hs.toList 0 _ h (by simpa using g);rw[vt]at c L
 have e:layClean m hs=some o':=by
  unfold layClean;rw[←Array.foldl_toList,c];rfl
 have d:((List.range (m+1)).filterMap λj=>(o'.getD j none).map (j,·)).map (·.2)=o'.toList.filterMap id:=by
  rw[List.map_filterMap]
  have:o'.toList=(List.range (m+1)).map λj=>o'.getD j none:=by
   apply wm;intro i;rw[qh,zu]
   by_cases hi:i<m+1
   ·rw[yn hi,zp (by rw[L.size];exact hi)]
    show _=some (o'.getD i none);rw[we,zp (by rw[L.size];exact hi)];rfl
   ·rw[Array.getElem?_eq_none (by rw[L.size];omega),List.getElem?_eq_none (by simpa using hi)]
    rfl
  rw[this,jm]
  congr 1
  funext j
  show((o'.getD j none).map (j,·)).map (·.2)=id (o'.getD j none);cases o'.getD j none <;> rfl
 have b:hs.toList.length=hs.size:=by simp
 refine{_,_,by unfold laid;rw[e];rfl,U,U,?_,?_}
 ·have h1:=congrArg List.length d
  have h2:=L.perm.length_eq;rw[b,vm]at h2
  simp only[List.length_map]at h1
  simp only[List.size_toArray,List.length_map]
  rw[h1,h2]
 ·show((((List.range (m+1)).filterMap λj=>(o'.getD j none).map (j,·)).map (·.2)).toArray).toList.Perm _
  rw[gc,d,←b];exact L.perm
end Stb
namespace L2
open PySem PySem.Spec PySem.W PyProof.Rows
section
variable {P:Program}{w:World}{A:Around}{E:Value->Shared->Prop}{s:Shared}
abbrev fh(P:Program)(w:World)(ks:List Key):Int:=(tupleKind (ag P w)).hash ks
abbrev FI(P:Program)(w:World)(h:Heap)(ks:List Key)(v:Value):Prop:=∃a,v=.ref a/\(tupleKind (ag P w)).is h ks a
def NO:∀{v:Value} (n:Nat) {s':Shared} {Q:Bool->Shared->Prop},carriedByValue v=true->(∀b,Q b s')->wpAny (model P w) A (hashByValue n v) Q E s':=by
 intro v n s' Q a h
 cases v <;> first|(cases n <;> exact qs (h _))|(exact absurd a (by simp[carriedByValue]))
def Pt(i:(tupleKind (ag P w)).is s.heap ks a)(h:∀b,Q b s):wpAny (model P w) A (hashByValue 8 (.ref a)) Q E s:=by
 obtain⟨o,items,n,f,g,hd,hi⟩:=i;have j:s.TypeIs (.ref a) "tuple":={o,f,g};unfold hashByValue;refine qq (wpAny_specialOf j F.slot_tuple_hash.lookup ?_);show wpAny _ _ (seqItems? (.ref a) >>= _) _ _ s;refine qq (wpAny_seqItems f hd ?_);refine qq ?_;show wpAny _ _ (forIn items _ _) _ _ s;rw[←yk];refine wpAny_forIn_list _ (λrest r s'=>(r.1=none\/r.1=some false)/\s'=s/\∀v∈rest,carriedByValue v=true) _ ?_ ?_ _ _ {.inl rfl,U,hi.byValue}
 ·rintro v rest r s' ⟨d,rfl,c⟩
  refine qq (NO _ (c v ql) λb=>?_)
  cases b with
  |true =>
   simp only[Bool.not_true,Bool.false_eq_true,if_false]
   exact qs {.inl rfl,U,λu e=>c u (qo _ e)}
  |false =>
   simp only[Bool.not_false,if_true]
   exact qs (qs (h _))
 ·rintro⟨l,k⟩ s' ⟨d,rfl,_⟩
  simp only at d
  rcases d with rfl|rfl
  ·exact qs (h _)
  ·exact qs (h _)
def QY:∀{v:Value} (n:Nat) {s':Shared} {Q:Bool->Shared->Prop},carriedByValue v=true->Q false s'->wpAny (model P w) A (ofAClassStatement n v) Q E s':=by
 intro v n s' Q a h
 cases v <;> first|(cases n <;> exact qs h)|(exact absurd a (by simp[carriedByValue]))
def HM(g:(tupleKind (ag P w)).is s.heap ks a)(h:Q false s):wpAny (model P w) A (ofAClassStatement 8 (.ref a)) Q E s:=by
 obtain⟨o,items,n,e,f,hd,hi⟩:=g;have i:s.TypeIs (.ref a) "tuple":={o,e,f};unfold ofAClassStatement;refine qq (wpAny_typeOf i ?_);dsimp only;rw[q0 ⋯];refine qq (qs ?_)
 simp only[Bool.not_true,Bool.false_eq_true,if_false]
 refine qq (wpAny_seqItems e hd ?_);dsimp only;refine qq ?_;show wpAny _ _ (forIn items _ _) _ _ s;rw[←yk];refine wpAny_forIn_list _ (λrest r s'=>r.1=none/\s'=s/\∀v∈rest,carriedByValue v=true) _ ?_ ?_ _ _ {U,U,hi.byValue}
 ·rintro v rest r s' ⟨c,rfl,b⟩
  refine qq (QY _ (b v ql) ?_)
  simp only[Bool.false_eq_true,if_false]
  exact qs {U,U,λu d=>b u (qo _ d)}
 ·rintro⟨k,j⟩ s' ⟨c,rfl,_⟩
  simp only at c
  subst c;exact qs h
def N1(i:(tupleKind (ag P w)).is s.heap ks a)(l:∀y∈ys,∃f,FI P w s.heap f y)(h:Q false s):wpAny (model P w) A (searchCouldBeSeen (.ref a) ys) Q E s:=by
 unfold searchCouldBeSeen;refine qq ?_;refine wpAny_forIn_list _ (λrest r s'=>r.1=none/\s'=s/\∀y∈rest,∃f,FI P w s.heap f y) _ ?_ ?_ _ _ {U,U,l}
 ·rintro v rest r s' ⟨g,rfl,c⟩
  obtain⟨f,b,rfl,j⟩:=c v ql;dsimp only
  by_cases e:(a==b)=true
  ·rw[e]
   simp only[Bool.true_or,if_true]
   exact qs {U,U,λu d=>c u (qo _ d)}
  ·have k:(a==b||carriedByValue (.ref a)&&carriedByValue (.ref b))=false:=by simp[Bool.eq_false_iff.mpr e,carriedByValue]
   rw[k]
   simp only[Bool.false_eq_true,if_false]
   refine qq (rC (m:=7) i ?_)
   simp only[Bool.not_true,Bool.false_eq_true,if_false]
   refine qq (rC (m:=7) j ?_)
   simp only[Bool.not_true,Bool.false_eq_true,if_false]
   refine qq (HM i ?_)
   simp only[Bool.false_eq_true,if_false]
   refine qq (HM j ?_)
   simp only[Bool.false_eq_true,if_false]
   exact qs {U,U,λu d=>c u (qo _ d)}
 ·rintro⟨o,n⟩ s' ⟨g,rfl,_⟩
  simp only at g
  subst g;exact qs h
end
def Tk(t:SetTable)(n:Nat):Prop:=t.dummies=#[]/\t.place.size=n/\(t.mask=7/\n≤4\/t.mask=31/\n≤18\/t.mask=127/\n≤76)
def Tk.mk{t:SetTable}(h:Tk t n):Stb.Mk t.mask:=by
 rcases h.2.2 with h|h|h
 ·exact .inl h.1
 ·exact .inr (.inl h.1)
 ·exact .inr (.inr h.1)
theorem Tk.fits{t:SetTable}(h:Tk t n):t.fits n=true:=by
 unfold SetTable.fits SetTable.fill;rw[h.1,h.2.1,beq_self_eq_true,wz];refine qA ?_;show n+0≤t.mask;have:=h.2.2;omega
def Tk.odd{t:SetTable}(h:Tk t n):t.gaveWay=false:=by
 unfold SetTable.gaveWay;rcases h.2.2 with h|h|h <;> rw[h.1] <;> rfl
section
variable {P:Program}{w:World}{A:Around}{E:Value->Shared->Prop}{s:Shared}
theorem wU{t:SetTable}(L:A.units+1<cLine)(u:s.heap.get? a=some o)(hd:o.data=.set es ep t)(l:Tk t es.size)(p:(tupleKind (ag P w)).is s.heap ks b)(d:∀e∈es.toList,∃r,r≠ks/\FI P w s.heap r e.2)(W:Stb.Way t h N)(I:∀j,Q (.free j false) s) :
  ∀(f k:Nat) (c:Option SetTable.Probe),k≤N->N - k<f->c.getD (t.probeStart h)=Stb.eV t k (t.probeStart h)->wpAny (model P w) A (setSearchFrom a (.ref b) h true f c) Q E s
 | 0,_,_,_,h2,_=>absurd h2 (z0 _)
 |f+1,k,c,h1,h2,h3=>by
  unfold setSearchFrom;refine qq (wpAny_setState_of u hd l.fits ?_);dsimp only;rw[l.odd]
  simp only[Bool.false_eq_true,if_false]
  rw[h3];have M:=Stb.hU (hashAt:=λi=>(es[i]?.map (·.1)).getD 0) W l.1 (10 * SetTable.turns t.mask) k h1 (by have:=W.bR;omega);rcases M with e|⟨n,j,i,a1,a2,a3,a4,a5⟩
  ·have F:t.probe (λi=>(es[i]?.map (·.1)).getD 0) h (Stb.eV t k (t.probeStart h))=some (.empty (Stb.eV t N (t.probeStart h)).j none):=e
   show wpAny _ _ (match t.probe (λi=>(es[i]?.map (·.1)).getD 0) h (Stb.eV t k (t.probeStart h)) with
    |some H=>_
    |_=>_) _ _ _
   rw[F];exact qs (I _)
  ·have F:t.probe (λi=>(es[i]?.map (·.1)).getD 0) h (Stb.eV t k (t.probeStart h))=some (.candidate j i (Stb.eV t (n+1) (t.probeStart h))):=a5
   show wpAny _ _ (match t.probe (λi=>(es[i]?.map (·.1)).getD 0) h (Stb.eV t k (t.probeStart h)) with
    |some H=>_
    |_=>_) _ _ _
   rw[F];dsimp only
   have hi:i<es.size:=by rw[←l.2.1];exact a3
   have g:es[i]?=some es[i]:=zp hi
   have G:es[i]∈es.toList:=by simp
   obtain⟨r,v,y,B,K⟩:=d _ G
   have m:∀y∈(Array.filter (λx=>x.1==h) es).toList.map (·.2),∃r,FI P w s.heap r y:=λy J=>by
    obtain⟨e,C,rfl⟩:=qf.mp J
    have C:e∈es.toList:=by
     rw[Array.toList_filter]at C;exact(w6.mp C).1
    obtain⟨D,_,q⟩:=d e C;exact{D,q}
   have z:t.sameMemory t.moves t.mask=some true:=by unfold SetTable.sameMemory;rw[q0 (beq_self_eq_true _)]
   cases O:t.led with
   |true =>
    simp only[Bool.not_true,Bool.false_eq_true,if_false]
    rw[g];dsimp only;rw[B];refine qq (qG (tF () K p P w E _ ?_));rw[decide_eq_false v];refine qq (wpAny_setState_of u hd l.fits ?_);dsimp only
    simp only[Bool.and_false,Bool.false_eq_true,if_false]
    rw[z];dsimp only;rw[q0 rfl,a4];dsimp only;rw[g];dsimp only;rw[B];refine qq (show wpAny _ _ (isSame (.ref y) (.ref y)) _ _ _ from ?_);unfold isSame;dsimp only;rw[beq_self_eq_true]
    simp only[if_true]
    refine qs (qq (qs ?_));exact wU L u hd l p d W I f (n+1) _ () () rfl
   |false =>
    simp only[Bool.not_false,if_true]
    refine qq (N1 p m ?_)
    simp only[Bool.false_eq_true,if_false]
    rw[g];dsimp only;rw[B];refine qq (qG (tF () K p P w E _ ?_));rw[decide_eq_false v];refine qq (wpAny_setState_of u hd l.fits ?_);dsimp only
    simp only[Bool.and_false,Bool.false_eq_true,if_false]
    rw[z];dsimp only;rw[q0 rfl,a4];dsimp only;rw[g];dsimp only;rw[B];refine qq (show wpAny _ _ (isSame (.ref y) (.ref y)) _ _ _ from ?_);unfold isSame;dsimp only;rw[beq_self_eq_true]
    simp only[if_true]
    refine qs (qq (qs ?_));exact wU L u hd l p d W I f (n+1) _ () () rfl
def G9{α:Type}(xs:Array α)(p:Nat)(x:α):(SetTable.insertAt xs p x).size=xs.size+1:=by
 unfold SetTable.insertAt
 simp only[Array.size_append,Array.size_push,Array.size_extract]
 omega
def MF{α:Type}{xs:Array α}{p:Nat}{x y:α}(h:y∈(SetTable.insertAt xs p x).toList):y=x\/y∈xs.toList:=by
 unfold SetTable.insertAt at h
 simp only[Array.toList_append,Array.toList_push,List.mem_append,List.mem_singleton,Array.toList_extract]at h
 rcases h with(h|h)|h
 ·exact .inr (jy (yb h))
 ·exact .inl h
 ·exact .inr (jy (yb h))
def SG(P:Program)(w:World)(h:Heap)(a:Addr)(kk:List (List Key)):Prop:=∃o es ep t,h.get? a=some o/\o.ExactSet/\o.data=.set es ep t/\es.size=kk.length/\(∀e∈es.toList,∃ks∈kk,FI P w h ks e.2)/\Tk t kk.length
def FI.ext(x:FI P w h ks v)(k:∀b o,h.get? b=some o->o.cls=.type "tuple"->h'.get? b=some o):FI P w h' ks v:=by
 obtain⟨a,e,o,c,n,h1,h2,f,d⟩:=x;exact{a,e,o,c,n,k _ _ h1 h2,h2,f,d}
def Gg{a:Addr}{o:Obj}{es es1:Array (Int×Value)}{ep:Nat}{t t1:SetTable}{h:Heap}(b:h.get? a=some o)(hd:o.data=.set es ep t):(h.update a (Obj.putSet es1 t1)).get? a=some { o with data:=.set es1 (ep+1) t1 }:=by
 have:=Heap.get?_update_self (Obj.putSet es1 t1) b (by rw[putSet_of es1 t1 hd];rfl);rw[putSet_of es1 t1 hd]at this;exact this
theorem Lo{α:Type}:∀l:List α,(List.range l.length).filterMap (λi=>l[i]?)=l
 |[]=>rfl
 |x::l=>by
  rw[qr,ju,yz (f:=λi=>(x::l)[i]?) (a:=0) (b:=x) rfl,jm]
  congr 1
  have:((λ(i:Nat)=>(x::l)[i]?)∘Nat.succ)=λ(i:Nat)=>l[i]?:=by
   funext i
   exact List.getElem?_cons_succ
  rw[this];exact Lo l
def Ra{α:Type}(es:Array α):(List.range es.size).filterMap (λi=>es[i]?)=es.toList:=by
 have h:=Lo es.toList;rw[zh]at h
 have e:(λ(i:Nat)=>es.toList[i]?)=λ(i:Nat)=>es[i]?:=by
  funext i
  rw[zu]
 rw[e]at h;exact h
def Py{t t1:SetTable}(F:s.heap.get? a=some o)(y:o.ExactSet)(hd:o.data=.set es ep t)(S:Tk t n)(h1:es1.size=n+1)(L:kk.length=n+1)(hn:n<63)(C:∀e∈es1.toList,∃ks∈kk,FI P w s.heap ks e.2)(O:t1.dummies=#[])(H:t1.place.size=n+1)(B:t1.mask=t.mask)(N:∀h',Heap.SameBut a s.heap h'->SG P w h' a kk->Q true { s with heap:=h' }) :
  wpAny (model P w) A (do
    storeSet a es1 t1
    if(!false&&t1.tooFull)=true then do
      setRelay a (SetTable.grown (n+1))
      pure true
     else pure true) Q E s:=by
 have W:n+1≤sizeLine:=qj (aV ());refine qq (wpAny_storeSet_of F hd ?_ ());have i:=Gg (es1:=es1) (t1:=t1) F hd;have f:=Heap.SameBut.update s.heap a (Obj.putSet es1 t1);have V:=S.2.2
 have u:t1.fill=n+1:=by unfold SetTable.fill;rw[O,H];rfl
 have tup:∀{h':Heap},Heap.SameBut a s.heap h'->∀b o',s.heap.get? b=some o'->o'.cls=.type "tuple"->h'.get? b=some o':=λG b o' e c=>by
  rw[G.2 b (λz=>by
   rw[z,F]at e;cases e;rw[y.1]at c;injection c with c
   exact absurd c ⋯)]
  exact e
 have mk:∀{h':Heap} {h:Array (Int×Value)} {r:Nat} {t2:SetTable},Heap.SameBut a s.heap h'->h'.get? a=some { o with data:=.set h r t2 }->h.toList.Perm es1.toList->Tk t2 (n+1)->SG P w h' a kk:=λ{h' h r t2} G g p k=>by
  refine{_,h,r,t2,g,y,U,?_,λe T=>?_,by rw[L];exact k}
  ·rw[L,←h1,←zh,p.length_eq,zh]
  ·obtain⟨ks,m,q⟩:=C e (p.mem_iff.mp T)
   exact{ks,m,FI.ext q (tup G)}
 by_cases hf:t1.tooFull=true
 ·rw[q0 (by rw[hf];rfl)]
  unfold SetTable.tooFull at hf;have hf:=qF hf;rw[u,B]at hf
  have v:t1.fits es1.size=true:=by
   unfold SetTable.fits;rw[u,H,h1,beq_self_eq_true,wz];exact qA (by rw[B];omega)
  have iZ:∃m,Stb.Mk m/\SetTable.sizeAbove (SetTable.grown (n+1)) - 1=m/\¬SetTable.sizeAbove (SetTable.grown (n+1))>sizeLine/\n+1≤m/\(m=7/\n+1≤4\/m=31/\n+1≤18\/m=127/\n+1≤76):=by
   rcases V with⟨q,_⟩|⟨q,_⟩|⟨q,_⟩
   ·have:n=4:=()
    subst this;exact{31,.inr (.inl rfl),⋯,by rw[sizeLine_eq];decide,(),()}
   ·have:n=18:=()
    subst this;exact{127,.inr (.inr rfl),⋯,by rw[sizeLine_eq];decide,(),()}
   ·omega
  obtain⟨m,R,X,x,I,l⟩:=iZ;unfold setRelay;refine qq (qq (wpAny_setState_of i rfl v ?_));dsimp only;rw[qt x];unfold SetTable.relaid;rw[X];obtain⟨t2,d,Y,f1,f2,J,K⟩:=Stb.s_ (finger:=t1.finger) (moves:=t1.movedTo m) (led:=t1.led) (plain:=t1.plain) (hs:=es1.map (·.1)) R (by rw[jt,h1];exact I);rw[Y];rw[jt,h1]at J K
  have M:(d.filterMap (es1[·]?)).toList.Perm es1.toList:=by
   rw[Array.toList_filterMap];refine(K.filterMap _).trans (.of_eq ?_);rw[←h1];exact Ra es1
  have hsz:(d.filterMap (es1[·]?)).size=es1.size:=by rw[←zh,M.length_eq,zh]
  refine qq ?_;show wpAny _ _ (if((d.filterMap (es1[·]?)).size != es1.size)=true then _ else _) _ _ _;rw[qt (by rw[hsz];simp)];refine qs ?_;have D:=Gg (es1:=d.filterMap (es1[·]?)) (t1:=t2) i rfl;have j:=f.trans (Heap.SameBut.update (s.heap.update a (Obj.putSet es1 t1)) a (Obj.putSet (d.filterMap (es1[·]?)) t2));refine wpAny_storeSet_of i rfl (qs (N _ j (mk j D M {f2,J,?_}))) (by rw[hsz];omega);rw[f1];exact l
 ·rw[qt (by rw[j4.mpr hf];decide)]
  unfold SetTable.tooFull at hf;have hf:¬(t1.fill * 5≥t1.mask * 3):=λz=>hf (qA z);rw[u,B]at hf;exact qs (N _ f (mk f i (.refl _) {O,H,by rw[B];omega}))
def xC(u:A.units+1<cLine)(v:SG P w s.heap a kk)(k:(tupleKind (ag P w)).is s.heap ks b)(hn:ks∉kk)(F:kk.length<63)(B:∀h',Heap.SameBut a s.heap h'->SG P w h' a (kk++[ks])->Q true { s with heap:=h' }) :
  wpAny (model P w) A (setAddHashed a (.ref b) (fh P w ks)) Q E s:=by
 obtain⟨o,es,ep,t,h,r,hd,hz,f,c⟩:=v;rw[←hz]at c;unfold setAddHashed setAddHashedIn;refine qG (qq (wpAny_setState_of h hd c.fits ?_));dsimp only
 have p:byScan (.ref b) es=false:=by unfold byScan Value.scannable;rfl
 rw[p]
 simp only[Bool.false_eq_true,if_false]
 have G:=c.2.2;obtain⟨N,W⟩:=Stb.zB c.mk c.1 (by rw[c.2.1];omega) (fh P w ks);unfold setSearch;refine qq (wU u h hd c k (λe g=>?_) W (λj=>?_) 100000 0 none (zd _) ?_ rfl)
 ·obtain⟨l,i,q⟩:=f e g
  exact{l,λz=>hn (z▸i),q}
 ·dsimp only
  refine qq (wpAny_setState_of h hd c.fits ?_);dsimp only
  have d:∀t1:SetTable,t1.dummies=#[]->t1.place.size=es.size+1->t1.mask=t.mask->wpAny (model P w) A (do
    storeSet a (SetTable.insertAt es (t.put j).2 (fh P w ks,.ref b)) t1
    if(!false&&t1.tooFull)=true then do
      setRelay a (SetTable.grown (es.size+1))
      pure true
     else pure true) Q E s:=λt1 C D y=>by
   refine Py h r hd c (G9 _ _ _) (kk:=kk++[ks]) (by rw[qm,←hz];rfl) () (λe g=>?_) C D y B;rcases MF g with rfl|g
   ·exact⟨ks,zx _ ql,b,U,k⟩
   ·obtain⟨l,m,q⟩:=f e g
    exact{l,va _ m,q}
  have n:(t.put j).1.dummies=#[]:=by
   show(if SetTable.has t.dummies j then _ else t.dummies)=#[];rw[c.1]
   split
   ·rename_i z
    unfold SetTable.has at z
    simp at z
   ·rfl
  have d2:(t.put j).1.place.size=es.size+1:=by
   show(SetTable.insertAt t.place _ j).size=_;rw[G9,c.2.1]
  split
  ·refine qq (Pt k λx=>?_)
   cases x with
   |true=>exact d _ n d2 rfl
   |false=>exact d { (t.put j).1 with plain:=false } n d2 rfl
  ·refine qq (qs ?_)
   exact d _ n d2 rfl
 ·have:=W.bR
  unfold SetTable.turns at this;omega
end
section
variable {P:Program}{w:World}{A:Around}{R:Result->Shared->Prop}{s:Shared}{E:Value->Shared->Prop}
def LI(P:Program)(w:World)(h:Heap)(items:Array Value)(kk:List (List Key)):Prop:=items.size=kk.length/\∀(i:Nat) v ks,items[i]?=some v->kk[i]?=some ks->FI P w h ks v
def AQ{h:Heap}{a b:Addr}{o o':Obj}{T U:String}(e:h.get? a=some o)(c:o.cls=.type T)(f:h.get? b=some o')(d:o'.cls=.type U)(n:T≠U):a≠b:=λz=>by
 rw[z,f]at e;cases e;rw[c]at d;injection d with d;exact n d
theorem LI.ext(x:LI P w h items kk)(k:∀b o,h.get? b=some o->o.cls=.type "tuple"->h'.get? b=some o):LI P w h' items kk:={x.1,λi v ks a c=>FI.ext (x.2 i v ks a c) k}
def SG.move(x:SG P w h a kk)(f:∀o,h.get? a=some o->h'.get? a=some o)(k:∀b o,h.get? b=some o->o.cls=.type "tuple"->h'.get? b=some o):SG P w h' a kk:=by
 obtain⟨o,es,ep,t,h1,h2,i,d,j,g⟩:=x;exact{o,es,ep,t,f _ h1,h2,i,d,λe c=>let⟨ks,m,q⟩:=j e c;{ks,m,FI.ext q k},g}
end
def j0(a:Addr)(n:Nat):HO:=.ext λh=>∃o es ep t,h.get? a=some o/\o.ExactSet/\o.data=.set es ep t/\es.size=n/\t.fits n=true
section
variable {X:Cx}
inductive i7(xs:List V)(H:Hp)(Q:VK):Prop
 |mk(p n:_)(_:xs=[.ref p])(_:n≤1000)(_:H p=some (j0 p n))(_:Q (.int (n:Nat)) H)
def Lu:bj X (.builtin "len") i7:=by
 intro pins s σ H xs us Q I r h;obtain⟨p,n,rfl,hn,a,q⟩:=h;obtain⟨u,rfl,f⟩:=vals1 r;cases f;obtain⟨⟨o,es,ep,t,h1,h2,d,c,g⟩,_⟩:=I.a6 p _ a;subst c;exact call_len_set h1 h2 d g () {.int _,H,I.kept (t':=s.toks+1+1) λb o e=>e,{_,U},q}
end
section
variable {P:Program}{w:World}{A:Around}{R:Result->Shared->Prop}{s:Shared}{E:Value->Shared->Prop}
def NI{I S l:Addr}(hh:A.in1.handled=none)(H:l≠I)(E:S≠l)(n:S≠I)(hu:A.in1.units+1<cLine)(J:kk.Nodup)(hn:kk.length≤63) :
  ∀(k i:Nat) (s:Shared),kk.length - i=k->i≤kk.length->s.heap.IsTupleIter I l i->s.heap.IsTuple l items->LI P w s.heap items kk->SG P w s.heap S (kk.take i) →
   (∀h' tk,(∀b o,b≠S->b≠I->s.heap.get? b=some o->h'.get? b=some o)->SG P w h' S kk->R (.ok (.ret .none)) { s with heap:=h',toks:=tk }) →
   codeAny (model P w) A (.builtin "set.update.loop" {[.ref S,.ref I],[]}) R s:=by
 have W:=Walks.tuple (prog:=P) (w:=w) (A:=A.in1) hh I l H items;intro k
 induction k with
 |zero =>
  intro i s hk hi d D g u V
  have L:i=kk.length:=()
  subst L;refine codeAny_builtin F.entry_set_update_loop ?_;rw[Around.under_plainId F.plain_set_update_loop _];show wpAny _ A.in1 (pyNext (.ref I) >>= _) _ _ s;refine qq (W.done s _ _ {by rw[g.1];exact d,D} λh' tk a=>?_);show wpAny _ A.in1 (ret Value.none) _ _ _;rw[zn]at u;obtain⟨oi,U,Y,di⟩:=id d;refine qs (V h' tk (λb o _ nI e=>a b o (by simpa using nI) e) (u.move (λo e=>a S o (by simpa using n) e) λb o e c=>a b o (by simpa using AQ e c U Y ⋯) e))
 |succ k ih =>
  intro i s hk hi d D g u V
  have f:i<kk.length:=()
  refine codeAny_builtin F.entry_set_update_loop ?_;rw[Around.under_plainId F.plain_set_update_loop _];show wpAny _ A.in1 (pyNext (.ref I) >>= _) _ _ s;refine qq (W.item i s _ _ (by rw[g.1];exact f) {d,D} λv h' tk hP m a=>?_);have p:kk[i]?=some kk[i]:=qc f;obtain⟨oi,U,Y,di⟩:=id d
  have kt:∀b o,s.heap.get? b=some o->o.cls=.type "tuple"->h'.get? b=some o:=λb o e c=>a b o (by simpa using AQ e c U Y ⋯) e
  have h:=g.ext kt;have r:=u.move (λo e=>a S o (by simpa using n) e) kt;obtain⟨b,rfl,hb⟩:=h.2 i v _ hP p;show wpAny _ A.in1 (holding [Value.ref b] (setAdd S (.ref b)) >>= _) _ _ _;refine qq (qG ?_);unfold setAdd;refine qG ?_;refine qq ((tupleKind (ag P w)).pyHash (show A.in1.units<cLine from ()) hb ?_)
  have t:kk[i]∉kk.take i:=λz=>by
   obtain⟨j,hj,e⟩:=zw z;rw[zq]at hj;rw[gz]at e;have:=(wk.mp J) j i () f ();exact this e
  have x:kk.take (i+1)=kk.take i++[kk[i]]:=by rw[zo,p];rfl
  refine xC (s:={ s with heap:=h',toks:=_ }) hu r hb t (by rw[zq];omega) λh2 sb q=>?_;rw[←x]at q;obtain⟨oS,_,_,_,eS,xS,_⟩:=id r;have k2:∀c o,c≠S->h'.get? c=some o->h2.get? c=some o:=λc o nc e=>(sb.2 c nc).trans e
  have Q:∀c o,h'.get? c=some o->o.cls=.type "tuple"->h2.get? c=some o:=λc o e cc=>k2 c o (AQ e cc eS xS.1 ⋯) e
  obtain⟨G,y,O,T⟩:=m.1;obtain⟨C,Z,M,K,N⟩:=m.2;refine qs {plainId_quiet F.plain_set_update_loop _,ih (i+1) _ () f {G,k2 _ _ (Ne.symm n) y,O,T} {C,k2 _ _ (Ne.symm E) Z,M,K,N} (h.ext Q) q λh3 X kp B=>?_};exact V h3 X (λc o n1 n2 e=>kp c o n1 n2 (k2 c o n1 (a c o (by simpa using n2) e))) B
end
def SZ(h:Heap)(a:Addr)(n:Nat):Prop:=∃o es ep t,h.get? a=some o/\o.ExactSet/\o.data=.set es ep t/\es.size=n/\t.fits n=true
section
variable {prog:Program}{w:World}{A:Around}{E:Value->Shared->Prop}{s:Shared}
def M5(hh:A.handled=none)(hu:A.units+4<cLine)(O:s.heap.IsTuple l items)(x:∀(s':Shared) (led:Bool) (R:Result->Shared->Prop),s'.heap=(s.heap.push { cls:=.type "set",dict:=none,data:=.set #[] 0 (.fresh 0 0 led) }).push { cls:=.type "tuple_iterator",data:=.fields #[.ref l,.int 0 0] }->(∀h' tk,(∀b o,b≠↑s->b≠↑s+1->s'.heap.get? b=some o->h'.get? b=some o)->SZ h' ↑s n->R (.ok (.ret .none)) { s' with heap:=h',toks:=tk })->codeAny (model prog w) A.in1.in1 (.builtin "set.update.loop" {[.ref ↑s,.ref (↑s+1)],[]}) R s')(h:∀(h':Heap) (tk:Nat),SZ h' ↑s n->(∀b o,b<↑s->s.heap.get? b=some o->h'.get? b=some o)->Q (.ref ↑s) { s with heap:=h',toks:=tk }) :
  wpAny (model prog w) A (call (.type "set") [.ref l]) Q E s:=by
 obtain⟨c,tl,M⟩:=F.called_set.mro;have B:=F.called_set.made;have G:=F.called_set.sub;refine wpAny_call (codeAny_of_tree ?_);show wpAny _ _ (callAny (.type "set") _) _ _ _;refine qs {Code.quiet_builtin _ ∅,codeAny_builtin F.entry_type_call ?_};rw[Around.under_plain (weight_type_call_type "set" [.ref l] []) rfl];have h1:=F.called_set.notType;have h2:=F.called_set.canCreate;have T:=F.typeCall_set_1 (.ref l)
 repeat (any_goals (first|assumption|wp_step))
 refine codeAny_mono (code_set_new_1 (.ref l) (E:=E) (Q₁:=λobj g=>∃led:Bool,obj=.ref ↑s/\g={ s with heap:=s.heap.push { cls:=.type "set",dict:=none,data:=.set #[] 0 (.fresh 0 0 led) } }) λled=>{led,U,U}) λr g v=>?_
 cases r with
 |error e=>exact v
 |ok W =>
  cases W with
  |ret obj =>
   obtain⟨led,rfl,rfl⟩:=v;have Y:(s.heap.push { cls:=.type "set",dict:=none,data:=.set #[] 0 (.fresh 0 0 led) }).get? ↑s=some { cls:=.type "set",dict:=none,data:=.set #[] 0 (.fresh 0 0 led) }:=qD _ rfl;have P:Shared.TypeIs { s with heap:=s.heap.push { cls:=.type "set",dict:=none,data:=.set #[] 0 (.fresh 0 0 led) } } (.ref ↑s) "set":={_,Y,U};have X:=F.called_set.init.lookup;have hbi:=F.called_set.init.bind (.ref ↑s)
   repeat (any_goals (first|assumption|wp_step))
   refine codeAny_mono (codeAny_call_builtin (R:=wants (λr f=>r=.none/\∃h' tk,f={ s with heap:=h',toks:=tk }/\SZ h' ↑s n/\(∀b o,b<↑s->s.heap.get? b=some o->h'.get? b=some o)) E) F.called_set.init.plain F.entry_set_init (check_set_init_1 P ?_)) λm f a=>?_
   ·obtain⟨S,t,p,H,q⟩:=O
    obtain⟨L,k,C,d⟩:=S
    simp only at p q
    subst p;subst q;have u:(s.heap.push { cls:=.type "set",dict:=none,data:=.set #[] 0 (.fresh 0 0 led) }).get? l=some { cls:=.type "tuple",dict:=k,data:=.seq items H,slots:=d }:=qC _ t;have I:=F.sub_tuple_set;have J:=F.sub_tuple_frozenset
    have V:(Value.type "tuple"==Value.type "dict")=false:=⋯
    have y:(s.heap.push { cls:=.type "set",dict:=none,data:=.set #[] 0 (.fresh 0 0 led) }).IsTuple l items:={_,u,U,H,U};unfold Builtin.«set.__init__» noKeywords Builtin.Frozenset.updateFrom;generalize D:pyIter=PI
    wp_walk
    subst D;refine wpAny_pyIter_tuple y ?_;refine qq (wpAny_runValue ?_);have N:l<↑s:=qB t;have hsz:(s.heap.push { cls:=.type "set",dict:=none,data:=.set #[] 0 (.fresh 0 0 led) }).objs.size=↑s+1:=Heap.size_push ..;rw[hsz];have Z:∀b o,s.heap.get? b=some o->((s.heap.push { cls:=.type "set",dict:=none,data:=.set #[] 0 (.fresh 0 0 led) }).push { cls:=.type "tuple_iterator",data:=.fields #[.ref l,.int 0 0] }).get? b=some o:=λb o e=>qC _ (qC _ e);refine x _ led _ rfl ?_
    ·intro h' tk kp j
     refine qs ?_;show wpAny _ _ (ret Value.none) _ _ _;refine qs {U,h',tk,U,j,λb o K e=>?_};exact kp b o (qd K) (qd (zr K)) (Z b o e)
   ·cases m with
    |error e=>exact a
    |ok i =>
     cases i with
     |ret r =>
      obtain⟨rfl,h',tk,rfl,j,z⟩:=a
      repeat (any_goals (first|assumption|wp_step))
      exact h _ _ j z
     |_=>exact a.elim
  |_=>exact v.elim
end
inductive kR(xs:List V)(H:Hp)(Q:VK):Prop
 |nd (p:Addr) (ys:List V) (kk:List (List Key)) (h0:xs=[.ref p]) (h1:H p=some (.tup ys)) (h2:ys.length=kk.length) (h3:∀(i:Nat) y ks,ys[i]?=some y->kk[i]?=some ks->GK H (.tup ks) y) (h4:kk.Nodup) (h5:kk.length≤63) (h6:∀q H',H q=none->ab H H'->H' q=some (j0 q kk.length)->Q (.ref q) H'):kR xs H Q
def HQ:List V->Hp->VK->Prop:=λxs H Q=>kR xs H Q
section
variable {X:Cx}
def QG(L:X.calm=true)(hu:X.A.units+4<cLine):bj X (.type "set") HQ:=by
 intro pins s σ H xs us Q I r h
 have G:∀(n:Nat) (h':Heap) (tk:Nat),(∀q H',H q=none->ab H H'->H' q=some (j0 q n)->Q (.ref q) H')->SZ h' ↑s n->(∀b o,b<↑s->s.heap.get? b=some o->h'.get? b=some o)->EP X pins σ Q (.ref ↑s) { s with heap:=h',toks:=tk }:=λn h' tk q g kp=>by
  obtain⟨o,es,ep,t,h1,h2,K,B,E⟩:=g;have hf:=I.a6.fresh (a:=↑s) (qb _);refine{.ref ↑s,upd H ↑s (j0 ↑s n),?_,U,q _ _ hf (ab.new hf) aG};refine I.laid (t':=tk) (h':=h') (o:=j0 ↑s n) (λb u e=>kp b u (qB e) e) (qb _) {{o,es,ep,t,h1,h2,K,B,E},{o,h1},λha hb x k=>?_};obtain⟨o',C,D,t',g1,g2⟩:=x;exact{o',C,D,t',k _ g1,g2}
 have pre:∀(p:Addr),(∃o,s.heap.get? p=some o)->p<↑s:=λp ⟨o,e⟩=>qB e
 cases h with
 |nd p ys kk h0 V Y m F hn q =>
  subst h0;obtain⟨u,rfl,Z⟩:=vals1 r;cases Z;obtain⟨d,O,pl,hz⟩:=I.tuple (aH.of V);have z:=O.length
  have f:p<↑s:=by obtain⟨o,e,_⟩:=pl;exact qB e
  have J:LI X.prog X.w s.heap d.toArray kk:={by rw[qx,←z,Y],λi v ks N T=>by
   rw[y7]at N
   have hi:i<ys.length:=by
    have:=(qw.mp T).1;omega
   obtain⟨u',j,y⟩:=O.get (qc hi);rw[N]at j;cases j
   exact GK.is I (m i _ ks (qc hi) T) y}
  refine M5 (I.ok.hd L) hu pl (n:=kk.length) (λs' led R c hR=>?_) λh' tk g kp=>G _ h' tk q g kp;have hsz:(s.heap.push { cls:=.type "set",dict:=none,data:=.set #[] 0 (.fresh 0 0 led) }).objs.size=↑s+1:=Heap.size_push ..
  have W:s'.heap.get? ↑s=some { cls:=.type "set",dict:=none,data:=.set #[] 0 (.fresh 0 0 led) }:=by rw[c];exact qC _ (qD _ rfl)
  have M:∀b o,s.heap.get? b=some o->s'.heap.get? b=some o:=λb o e=>by rw[c];exact qC _ (qC _ e)
  have hI:s'.heap.IsTupleIter (↑s+1) p 0:={_,by rw[c,←hsz];exact qD _ rfl,U,U};refine NI (P:=X.prog) (w:=X.w) (A:=X.A.in1.in1) (I:=↑s+1) (S:=↑s) (l:=p) (items:=d.toArray) (kk:=kk) (by simp[I.ok.hd L]) (Nat.ne_of_lt (Nat.lt_succ_of_lt f)) (Nat.ne_of_gt f) (Nat.ne_of_lt (Nat.lt_succ_self _)) (by show X.A.units+3+1<cLine;omega) F hn (kk.length - 0) 0 _ rfl (Nat.zero_le _) hI (by obtain⟨o,e,r⟩:=pl;exact{o,M _ _ e,r}) (J.ext λb o e _=>M b o e) ?_ λh' tk kp g=>hR h' tk kp ?_
  ·exact{_,#[],0,_,W,{U,U,U},U,U,λe he=>by simp at he,U,U,.inl {U,Nat.zero_le _}}
  ·obtain⟨o,es,ep,t,h1,h2,K,B,_,E⟩:=g
   exact{o,es,ep,t,h1,h2,K,B,E.fits}
end
end L2
namespace L2
open PySem PySem.Spec PySem.W PyProof.Rows My
def NW(c:Nat):(!decide (({#[c]}:Str).cps.toList<("a":Str).cps.toList))=decide (97≤c):=by
 have e:("a":Str).cps.toList=[97]:=∅
 rw[e];show(!decide ([c]<[97]))=decide (97≤c)
 by_cases h:97≤c
 ·rw[qA h,decide_eq_false (by simp[List.cons_lt_cons_iff];omega)];rfl
 ·rw[decide_eq_false h,qA (by simp[List.cons_lt_cons_iff];omega)];rfl
def ML(c:Nat):(!decide (("z":Str).cps.toList<({#[c]}:Str).cps.toList))=decide (c≤122):=by
 have e:("z":Str).cps.toList=[122]:=∅
 rw[e];show(!decide ([122]<[c]))=decide (c≤122)
 by_cases h:c≤122
 ·rw[qA h,decide_eq_false (by simp[List.cons_lt_cons_iff];omega)];rfl
 ·rw[decide_eq_false h,qA (by simp[List.cons_lt_cons_iff];omega)];rfl
def Bg(c:Nat):(!(Builtin.Str.occurrences (" .,":Str) {#[c]} 0 (" .,":Str).length 1).isEmpty)=decide (({#[c]}:Str)∈([" ",".",","]:List Str)):=by
 rw[PySem.StrLaws.found_one]
 have e:(" .,":Str).cps.toList=[32,46,44]:=∅
 have a:(" ":Str)=⟨#[32]⟩:=∅
 have d:(".":Str)=⟨#[46]⟩:=∅
 have b:(",":Str)=⟨#[44]⟩:=∅
 rw[e,a,d,b,decide_eq_decide]
 simp[List.mem_cons]
def fj{x:V}{xs:List V}:iH (x::xs) 0=some x:=by simp[iH,mX]
def P_{x:V}{xs:List V}:¬(HT.bE (x::xs).length 0 (some 1)=0/\HT.bE (x::xs).length (x::xs).length none=(x::xs).length):=λe=>by have:=e.1;simp[HT.bE]at this
def Fq:bQ (x::xs) (some 1) none=xs:=by simp[bQ,HT.bE]
def MY{fs:List Fm}(h:fZ z=some fs):(z,fs)∈mn:=by
 unfold fZ at h
 cases e:mn.find? λp=>decide (p.1=z) with
 |none=>rw[e]at h;exact nomatch h
 |some p =>
  rw[e]at h;have h1:=yd e;have h2:=jd e;have h2:p.1=z:=qF h2;have a:p.2=fs:=qE h;rw[←h2,←a];exact h1
def OM{fs:List Fm}(h:fZ z=some fs):fs.length≤5:=by
 have a:∀p∈mn,p.2.length≤5:=∅
 exact a _ (MY h)
def HA(h:¬((1:Int)≤(z.length:Int)/\(z.length:Int)≤8)):ef z=false:=by
 unfold ef;rw[decide_eq_false (),yr]
def Oc(h1:(1:Int)≤(z.length:Int))(h2:(z.length:Int)≤8):ef z=z.cps.toList.all jV:=by
 unfold ef;rw[qA (),wz]
def jL(h:cm z):ef z=true:=by
 unfold ef;rw[qA (show 1≤z.length/\z.length≤8 from{h.1,h.2.1}),wz,zm];intro c a;have:=h.2.2 c a;unfold jV;rw[qA this.1,qA this.2];rfl
def f3(h:cm z):z.length≤1000:=qg (c_ h) ⋯
def ab.EH(s:ab H H')(h:H' q=none):H q=none:=by
 cases e:H q with
 |none=>rfl
 |some o=>rw[s _ _ e]at h;exact nomatch h
def sv{A B:Prop}(h:a=b)(x:A):if decide (V.str a=V.str b)=true then A else B:=by
 subst h;rw[qA rfl];exact x
def rm{A B:Prop}(h:decide (a=b)=false)(x:B):if decide (V.str a=V.str b)=true then A else B:=by
 rw[decide_eq_false λe=>of_decide_eq_false h (V.str.inj e)];exact x
def kQ(x y:Str):(x++y).length=x.length+y.length:=EA x y
inductive MD(w:World)(K:PySem.W.Frag)(a:Addr)(kvs:List (Str×Addr)):Prop
 |mk{es:Array DictEntry}{ep:Nat}(z1:K.lookup a=some ⟨.type "dict",none,.dict es ep,#[]⟩)(z2:es.toList.map (λe=>(e.hash,ej e.key,ej e.val))=kvs.map λp=>(rB w (.inr p.1),some (V.str p.1),some (V.ref p.2)))
def MD.Rq{P:Program}{w:World}{K:PySem.W.Frag}{a:Addr}{kvs:List (Str×Addr)}(h:MD w K a kvs)(d:(kvs.map (·.1)).Nodup)(b:(a==sysModules)=false):rk P w K a kvs:=by
 obtain⟨c,e⟩:=h;exact rk.of c e d b {U,U,U}
def fK{P:Program}{w:World}{K:PySem.W.Frag}{mg:Str->Option Value}{base:Heap}{k n:Nat}{x:Str}{ps:List Str}{sp b:Sp}{a:Addr}(F:bz P w K mg base k x ps sp)(d:mg x=some (.ref a))(c:k≤n)(hi:∀vs H Q E,b vs H Q E->sp vs H Q E):∃k fd ps,k≤n/\cE P w K mg base ia k a fd ps b/\PySem.W.keepIn K (.ref a)=true/\Binds K fd ps []:=by
 obtain⟨f,fd,F,hf,h1,h2⟩:=F.out;rw[d]at hf;cases hf;exact{k,fd,ps,c,F.imp hi,h1,h2}
def Iq{row:List Nat}(c:Hs.kx m ds row)(i:j<m):Hs.aK row j≤ds.length:=by
 have:=eI (S:=(List.range (Hs.aK row j)).map λk=>(j,k+1)) (ws:=ds.map λe=>(e.aB,e.num)) ?_ ?_
 ·simpa using this
 ·rw[List.nodup_iff_pairwise_ne,vi]
  exact List.nodup_range.imp (λh e=>h (by simpa using e))
 ·intro x b
  obtain⟨k,a,rfl⟩:=qf.mp b;have a:=zy.mp a;obtain⟨e,d,f,g,_⟩:=c j (k+1) i () ();exact qf.mpr {e,d,by rw[f,g]}
def C0(W:Hs.Wh m ds)(hd:d∈ds):d.num≤ds.length+1/\∀j,j<m->Hs.aK d.hd j≤ds.length:=by
 have a:=Iq (W.past d hd) (W.aB d hd);have b:=W.own d hd;exact{(),λj c=>Iq (W.past d hd) c}
end L2
namespace L2
open PySem PySem.Spec PySem.W PyProof.Rows PySem.Builtin PySem.Builtin.Str
inductive Bw(x:V)(xs:List V)(H:Hp)(Q:VK):Prop
 |mk(z:Str)(c:Nat)(h0:x=.str z)(h1:xs=[.str ⟨#[c]⟩])(h2:z.length≤10000)(h3:∀p H',H p=none->ab H H'->H' p=some (.lst ((Txt.split z ⟨#[c]⟩).map V.str))->Q (.ref p) H')
theorem L1:∀(tk:Nat) (xs:List Str),aA (xs.map V.str) (strsFrom tk xs)
 |_,[]=>.nil
 |tk,x::r=>.cons {_,U} (L1 (tk+1) r)
def pX:B4 X "str.split" Bw:=by
 intro pins s σ H x xs v us Q I i g h;obtain⟨z,c,rfl,rfl,hz,q⟩:=h;obtain⟨t,rfl⟩:=i;obtain⟨u,rfl,k⟩:=vals1 g;obtain⟨t2,rfl⟩:=k;have hf:H ↑s=none:=I.a6.fresh (qb _)
 have iZ:(10001:Nat)≤sizeLine:=by rw[sizeLine_eq];decide
 have f:∀(ys:List Str) (us:List Value) (tk:Nat),Txt.split z ⟨#[c]⟩=ys->aA (ys.map V.str) us->ys.length≤sizeLine->EP X pins σ Q (.ref ↑s) { s with heap:=s.heap.push { cls:=.type "list",data:=.seq us.toArray },toks:=tk }:=λys us tk e r j=>by
  refine{.ref ↑s,upd H ↑s (.lst (ys.map V.str)),I.laid (t':=tk) (λb u e=>qC _ e) (qb _) {by rw[qa];exact j,us,0,r,qD _ rfl},U,q _ _ hf (ab.new hf) ?_};rw[aG,e]
 cases h1:(decide (z.length<(⟨#[c]⟩:Str).length)||decide (strKind z<strKind ⟨#[c]⟩))
 ·cases a:(occurrences z ⟨#[c]⟩ 0 z.length (z.length+1)).isEmpty
  ·have es:Txt.split z ⟨#[c]⟩=partsBetween z (occurrences z ⟨#[c]⟩ 0 z.length (z.length+1)) (⟨#[c]⟩:Str).length:=(qt (ne_true_of_eq_false h1)).trans (qt (ne_true_of_eq_false a))
   have d:(partsBetween z (occurrences z ⟨#[c]⟩ 0 z.length (z.length+1)) (⟨#[c]⟩:Str).length).length≤sizeLine:=by
    have:=split_weight z {#[c]} (qb 1);rw[es]at this;omega
   refine call_meets F.slot_str_split (typeIs_str _ _ _) F.entry_str_split (F.args_str_split_2 _ _) (meets_str_split_sep z {#[c]} t t2 h1 rfl a () d) ?_;exact f _ _ _ es (L1 _ _) d
  ·refine call_meets F.slot_str_split (typeIs_str _ _ _) F.entry_str_split (F.args_str_split_2 _ _) (meets_str_split_not_found z {#[c]} t t2 h1 rfl a) ?_
   exact f [z] _ _ ((qt (ne_true_of_eq_false h1)).trans (q0 a)) (.cons {_,U} .nil) (qg (show 1≤10001 from ⋯) iZ)
 ·refine call_meets F.slot_str_split (typeIs_str _ _ _) F.entry_str_split (F.args_str_split_2 _ _) (meets_str_split_cannot_occur z {#[c]} t t2 h1) ?_
  exact f [z] _ _ (q0 h1) (.cons {_,U} .nil) (qg (show 1≤10001 from ⋯) iZ)
inductive ot(f:Str->Str->Bool)(x:V)(xs:List V)(H:Hp)(Q:VK):Prop
 |mk(z y:Str)(h0:x=.str z)(h1:xs=[.str y])(h2:Q (.bl (f z y)) H)
def Gb:B4 X "str.startswith" (ot Txt.startswith):=by
 intro pins s σ H x xs v us Q I b a h;obtain⟨z,y,rfl,rfl,q⟩:=h;obtain⟨t,rfl⟩:=b;obtain⟨u,rfl,t2,rfl⟩:=vals1 a;exact SC.startswith {.bl _,H,I,U,q}
def Cd:B4 X "str.endswith" (ot Txt.endswith):=by
 intro pins s σ H x xs v us Q I b a h;obtain⟨z,y,rfl,rfl,q⟩:=h;obtain⟨t,rfl⟩:=b;obtain⟨u,rfl,t2,rfl⟩:=vals1 a;exact SC.endswith {.bl _,H,I,U,q}
inductive ue(xs:List V)(H:Hp)(Q:VK):Prop
 |mk(n:Int)(h0:xs=[.str (toString n)])(h1:0≤n)(h2:n<10 ^ 10)(h3:Q (.int n) H)
def OT:bj X (.type "int") ue:=by
 intro pins s σ H xs us Q I a h;obtain⟨n,rfl,h1,h2,q⟩:=h;obtain⟨u,rfl,t2,rfl⟩:=vals1 a;exact KIN.call_num h1 h2 {.int n,H,I.tok _,{_,U},q}
def jl(c:Nat):List (List Nat)->List Nat
 |[]=>[]
 |[a]=>a
 |a::b::r=>a++c::jl c (b::r)
theorem FN:∀{xs ys:List (List Nat)},xs≠[]->ys≠[]->(∀x∈xs,c∉x)->(∀y∈ys,c∉y)->jl c xs=jl c ys->xs=ys
 |[],_,h,_,_,_,_=>absurd rfl h
 |_,[],_,h,_,_,_=>absurd rfl h
 |[a],[b],_,_,_,_,e=>by rw[show a=b from e]
 |[a],b::d::r,_,_,ha,_,e=>by
  have e:a=b++c::jl c (d::r):=e;exact absurd (by rw[e];simp) (ha a List.mem_cons_self)
 |a::b::r,[d],_,_,_,hd,e=>by
  have e:a++c::jl c (b::r)=d:=e;exact absurd (by rw[←e];simp) (hd d List.mem_cons_self)
 |a::b::r,d::f::t,_,_,ha,hd,e=>by
  have e:a++c::jl c (b::r)=d++c::jl c (f::t):=e;have h1:=ha a ql;have h2:=hd d ql
  have l:∀{p q:List Nat} {u v:List Nat},c∉p->c∉q->p++c::u=q++c::v->p=q/\u=v:=by
   intro p
   induction p with
   |nil =>
    intro q u v _ i e
    cases q with
    |nil=>exact{U,(List.cons.inj e).2}
    |cons x q=>exact absurd (qv.mpr (.inl (List.cons.inj e).1)) i
   |cons x p n =>
    intro q u v m i e
    cases q with
    |nil=>exact absurd (qv.mpr (.inl (List.cons.inj e).1.symm)) m
    |cons y q =>
     have e:=List.cons.inj e;obtain⟨k,j⟩:=n (λh=>m (qo _ h)) (λh=>i (qo _ h)) e.2;exact{by rw[e.1,k],j}
  obtain⟨k,j⟩:=l h1 h2 e;rw[k,FN (w5 _ _) (w5 _ _) (λx g=>ha x (qo _ g)) (λx g=>hd x (qo _ g)) j]
theorem mY:∀ws:List Str,(Str.join {#[c]} ws).cps.toList=jl c (ws.map λw=>w.cps.toList)
 |[]=>rfl
 |[a]=>rfl
 |a::b::r=>by
  show(a++{#[c]}++Str.join {#[c]} (b::r):Str).cps.toList=a.cps.toList++c::jl c ((b::r).map λw=>w.cps.toList);rw[←mY (b::r)];show(a.cps++#[c]++(Str.join {#[c]} (b::r)).cps).toList=_
  simp
def sU(m:ws≠[])(h:∀w∈ws,c∉w.cps.toList):Txt.split (Txt.join {#[c]} ws) {#[c]}=ws:=by
 have l:Txt.join ⟨#[c]⟩ ws=Str.join ⟨#[c]⟩ ws:=StrLaws.glued_eq_join _ _;rw[l];have e:=StrLaws.join_split (Str.join {#[c]} ws) {#[c]};have hf:=StrLaws.split_free (Str.join {#[c]} ws) c
 have i:Txt.split (Str.join ⟨#[c]⟩ ws) ⟨#[c]⟩≠[]:=by
  unfold Txt.split
  split
  ·exact w5 _ _
  ·split
   ·exact w5 _ _
   ·intro h
    have:=congrArg List.length h;rw[length_partsBetween]at this;exact nomatch this
 generalize Txt.split (Str.join ⟨#[c]⟩ ws) ⟨#[c]⟩=vs at e hf i;have f:=congrArg (λz:Str=>z.cps.toList) e
 have f:jl c (vs.map λw=>w.cps.toList)=jl c (ws.map λw=>w.cps.toList):=by rw[←mY,←mY];exact f
 have inj:∀{us a:List Str},(us.map λw=>w.cps.toList)=(a.map λw=>w.cps.toList)->us=a:=by
  intro us
  induction us with
  |nil=>intro a h;cases a with
   |nil=>rfl
   |cons _ _=>cases h
  |cons u us j=>intro a h;cases a with
   |nil=>cases h
   |cons t a =>
    have h:=List.cons.inj h
    have k:u=t:=by
     obtain⟨⟨u⟩⟩:=u;obtain⟨⟨t⟩⟩:=t;have:u=t:=h.1;rw[this]
    rw[k,j h.2]
 have g:=λb=>inj (FN (xs:=vs.map λw=>w.cps.toList) (ys:=ws.map λw=>w.cps.toList) b (by simpa using m) (λx d=>by
  obtain⟨w,hw,rfl⟩:=qf.mp d
  exact hf w hw) (λx d=>by
  obtain⟨w,hw,rfl⟩:=qf.mp d
  exact h w hw) f)
 exact g (by simpa using i)
def P4(a b:Addr)(xs ys:Array Value):Meets (Builtin.«zip.__new__» {[.type "zip",.ref a,.ref b],[]}) (λ_ R s=>s.heap.IsTuple a xs/\s.heap.IsList b ys ∧
      R (.ok (.ret (.ref (tY "tuple_iterator" "list_iterator" s.heap a b).objs.size))) { s with heap:=rn "tuple_iterator" "list_iterator" s.heap a b }) :=
 .of_wp λprog w A R s h=>by
  obtain⟨e,g,d,tk,f⟩:=s;obtain⟨a1,a2,h⟩:=h;have c:=sub_zip;have j:Heap.IsTuple (Shared.heap ⟨e,g,d,tk,f⟩) a xs:=a1;have i:Heap.IsList (Shared.heap ⟨e.push (ku "tuple_iterator" a),g,d,tk,f⟩) b ys:=Heap.IsList.push a2 _
  wp_walk using wpAny_pyIter_tuple j,wpAny_pyIter_list i
  exact{_,U,h}
def Nw{k:Nat}(d:Gl X "zip")(f:X.mg "zip"=none)(e:PA X [a,b] ta)(hs:starEach [a,b] X.env=(false,eval a X.env)::starEach [b] X.env:=by rfl)(c:(backTo pos (starEach [b] X.env)).any (·.1)=false:=by rfl):PI X (.Tuple es k tp) (.Call (.Name "zip" p) [a,b] [] pos) (lK true false ta):=Ap (t1:=true) (t2:=false) P4 d f e hs c
end L2
namespace L2
open PySem PySem.Spec PyProof.Rows
def bI:PyData->Str
 |.str z=>z
 |.int i=>toString i
 |_=>""
def Nb(i:Int):Prop:=0≤i/\i≤1000001
def Flat1(d:PyData):Prop:=(∃z:Str,d=.str z/\z.length≤8)\/∃i,d=.int i/\Nb i
def eJ:List PyData->Str
 |.str h::r=>if h = "" then "." else Txt.join "." ((PyData.str h::r).map bI)
 |_=>""
def b9(ds:List PyData):Prop:=ds=[.str "",.int 0]\/∃(h:Str) (r:List PyData),ds=.str h::r/\h≠"" /\ PyData.strOk h=true/\h.length≤8/\r.length≤2/\∀x∈r,∃i,x=.int i/\Nb i
section
variable {H:Hp}
def rE(h:DT H v d)(f:Flat1 d):((∃z,v=.str z)\/∃i:Int,v=.int i/\i.natAbs.log2<1920)/\Gs v=bI d:=by
 rcases f with⟨z,rfl,_⟩|⟨i,rfl,hi⟩
 ·rw[eB h];exact{.inl {z,U},U}
 ·rw[k4 h]
  refine{.inr {i,U,?_},U}
  have:i.natAbs≤1000001:=by have:=hi.1;have:=hi.2;omega
  by_cases a:i.natAbs=0
  ·rw[a];decide
  ·have:=(Nat.log2_lt a (k:=1920)).mpr (wb this (by
    have:(1000001:Nat)<2 ^ 20:=⋯
    exact zc this (Nat.pow_le_pow_right ⋯ ⋯)))
   exact this
end
def Cz(f:Flat1 d):(bI d).length≤8:=by
 rcases f with⟨z,rfl,hz⟩|⟨i,rfl,hi⟩
 ·exact hz
 ·obtain⟨n,rfl⟩:=Int.eq_ofNat_of_zero_le hi.1
  have h2:=hi.2;show(Str.ofString (toString ((n:Nat):Int))).length≤_;rw[PySem.ofString_length];show n.repr.length≤8;exact(kc ⋯).mpr ()
theorem oH:∀{ds:List PyData},(∀d∈ds,Flat1 d)->((ds.map bI).map (·.length)).sum≤8 * ds.length
 |[],_=>qb _
 |d::ds,h=>by
  have a:=Cz (h d (by simp));have b:=oH (ds:=ds) λx c=>h x (qo _ c);rw[qi,qi,wc,qr];omega
def b9.flat(h:b9 ds):ds.length≤3/\∀d∈ds,Flat1 d:=by
 rcases h with rfl|⟨h,r,rfl,_,_,hl,hr,hx⟩
 ·refine⟨⋯,λd hd=>?_⟩
  simp only[List.mem_cons,List.not_mem_nil,or_false]at hd
  rcases hd with rfl|rfl
  ·exact .inl ⟨"",U,⋯⟩
  ·exact .inr ⟨0,U,⋯,⋯⟩
 ·refine⟨by rw[qr];omega,λd hd=>?_⟩
  rcases qv.mp hd with rfl|hd
  ·exact .inl ⟨h,U,hl⟩
  ·obtain⟨i,e,hi⟩:=hx d hd
   exact .inr {i,e,hi}
def jU:PyData->Str
 |.tuple ds=>Txt.join "." (ds.map bI)
 |_=>"-"
def qN(d:PyData):Prop:=d=.none\/∃a b:Str,d=.tuple [.str a,.str b]/\a.length≤8/\b.length≤8
def kT(d:PyData):Prop:=∃(ds:List PyData) (z:Str),d=.tuple [.tuple ds,.str z]/\b9 ds/\(z = "ahead" \/ z = "behind")
def CU:PyData->Str
 |.tuple [.tuple ds,.str z]=>eJ ds++(if z = "ahead" then("<":Str) else ">")
 |_=>""
def o_(d:PyData):Prop:=(∃z:Str,d=.str z/\z.length≤8/\PyData.strOk z=true)\/(∃z:Str,d=.tuple [.str "picture",.str z]/\z.length≤8/\PyData.strOk z=true)\/∃ds,d=.tuple [.str "refer",.tuple ds]/\b9 ds
def CG:PyData->Str
 |.str z=>if z = " " then "_" else z
 |.tuple [.str k,.str z]=>"*"++z
 |.tuple [.str k,.tuple ds]=>"#"++eJ ds
 |_=>""
def nW(a:Str)(ys:List Str):(Txt.join a ys).length≤(ys.map (·.length)).sum+ys.length * a.length:=by
 show(Builtin.Str.glued a ys).length≤_;rw[StrLaws.glued_eq_join];exact StrLaws.join_length_le a ys
def HW:eJ [.str "",.int 0] = ".":=by
 show(if("":Str) = "" then(".":Str) else Txt.join "." ([PyData.str "",PyData.int 0].map bI)) = ".";rw[q0 rfl]
def tz{h:Str}{r:List PyData}(a:h≠""):eJ (.str h::r)=Txt.join "." ((PyData.str h::r).map bI):=by
 show(if h = "" then(".":Str) else _)=_;rw[qt a]
def jR(h:b9 ds):(eJ ds).length≤40:=by
 obtain⟨e,d⟩:=h.flat;rcases h with rfl|⟨h,r,rfl,h0,_⟩
 ·rw[HW];decide
 ·rw[tz h0]
  have a:=nW "." ((PyData.str h::r).map bI);have b:=oH d;have c:(".":Str).length=1:=rfl;rw[c,qa]at a;omega
inductive eX:PyData->Prop
 |aT:eX .none
 |bl (b:Bool):eX (.bool b)
 |int (i:Int):Nb i->eX (.int i)
 |str (z:Str):z.length≤8->eX (.str z)
 |cnt (i:Int) (r:List PyData):r.length≤9->(∀x∈PyData.int i::r,Flat1 x)->eX (.tuple (.int i::r))
 |side (d:PyData):kT d->eX d
 |name (ds:List PyData):b9 ds->eX (.tuple ds)
def iI:PyData->Str
 |.none=>"-"
 |.bool b=>if b=true then "yes" else "no"
 |.int i=>toString i
 |.str z=>if z = "" then "!" else z
 |.tuple (.int i::r)=>Txt.join "," ((PyData.int i::r).map bI)
 |.tuple [.tuple ds,.str z]=>CU (.tuple [.tuple ds,.str z])
 |.tuple ds=>eJ ds
 |_=>""
def QK(h:kT d):(CU d).length≤50:=by
 obtain⟨ds,z,rfl,hn,hz⟩:=h;have:=jR hn;show(eJ ds++(if z = "ahead" then("<":Str) else ">"):Str).length≤50;rw[Str.length_append]
 have:(if z = "ahead" then("<":Str) else ">").length=1:=by split <;> rfl
 omega
def ON(h:o_ d):(CG d).length≤50:=by
 rcases h with⟨z,rfl,hz,a⟩|⟨z,rfl,hz,a⟩|⟨ds,rfl,hn⟩
 ·show(if z = " " then("_":Str) else z).length≤50
  split
  ·decide
  ·omega
 ·show("*"++z:Str).length≤50
  rw[Str.length_append];have:("*":Str).length=1:=rfl;omega
 ·show("#"++eJ ds:Str).length≤50
  rw[Str.length_append];have:("#":Str).length=1:=rfl;have:=jR hn;omega
def eU(h:b9 ds):iI (.tuple ds)=eJ ds:=by
 rcases h with rfl|⟨h,r,rfl,_⟩ <;> rfl
def yB{ds:List PyData}(h:ds.length≤10)(f:∀x∈ds,Flat1 x):(Txt.join "," (ds.map bI)).length≤100:=by
 have a:=nW "," (ds.map bI);have b:=oH f;have c:(",":Str).length=1:=rfl;rw[c,qa]at a;omega
def IW(h:eX d):(iI d).length≤100:=by
 cases h with
 |aT=>decide
 |bl b=>cases b <;> decide
 |int i hi=>exact qg (Cz (.inr {i,U,hi})) ⋯
 |str z hz =>
  show(if z = "" then("!":Str) else z).length≤100
  split
  ·decide
  ·omega
 |cnt i r a hf=>exact yB (ds:=.int i::r) (by rw[qr];omega) hf
 |side d hs =>
  have:=QK hs;obtain⟨ds,z,rfl,hn,hz⟩:=hs;exact qg this ⋯
 |name ds hn =>
  rw[eU hn];exact qg (jR hn) ⋯
def JP(h:kT d):iI d=CU d:=by
 obtain⟨ds,z,rfl,hn,hz⟩:=h;rfl
def gB{k:Str}(h:k≠""):iI (.str k)=k:=by
 show(if k = "" then("!":Str) else k)=k;rw[qt h]
def r0(d:PyData):Prop:=d=.none\/∃z:Str,d=.str z/\z≠"" /\ z.length≤8
def r0.th(h:r0 d):eX d:=by
 rcases h with rfl|⟨z,rfl,_,hz⟩
 ·exact .aT
 ·exact .str z hz
inductive Wt:List PyData->List Str->Prop
 |names (k:Str) (ns:List (List PyData)):k = "part" \/ k = "move" \/ k = "cut" \/ k = "strike"->ns.length≤2->(∀n∈ns,b9 n)->Wt (.str k::ns.map .tuple) (k::ns.map eJ)
 |put (p:List PyData) (b:PyData) (sg:List PyData):b9 p->(b=.none\/∃n,b=.tuple n/\b9 n)->sg.length≤12->(∀d∈sg,o_ d)->Wt [.str "put",.tuple p,b,.tuple sg] ((["put",eJ p,iI b]:List Str)++sg.map CG)
 |out (p:List PyData) (ns:List (List PyData)):b9 p->ns.length≤12->(∀n∈ns,b9 n)->Wt [.str "out",.tuple p,.tuple (ns.map .tuple)] ((["out",eJ p]:List Str)++ns.map eJ)
 |mark (k:Str) (p:List PyData) (s1 s2:PyData) (r:List PyData):k = "mark" \/ k = "note"->b9 p->kT s1->kT s2->r.length≤2->(∀d∈r,r0 d)->Wt (.str k::.tuple p::s1::s2::r) (k::eJ p::CU s1::CU s2::r.map iI)
 |line (p:List PyData) (z:Str) (v:PyData):b9 p->z = "row" \/ z = "column"->(v=.none\/∃n,v=.tuple n/\b9 n)->Wt [.str "line",.tuple p,.str z,v] ["line",eJ p,z,iI v]
 |cell (p a b:List PyData) (z:Str):b9 p->b9 a->b9 b->z.length≤8->Wt [.str "cell",.tuple p,.tuple a,.tuple b,.str z] ["cell",eJ p,eJ a,eJ b,if z = "" then "!" else z]
 |leave (p:List PyData) (w t:Str) (y:Bool):b9 p->w≠""->w.length≤8->t≠""->t.length≤8->Wt [.str "leave",.tuple p,.str w,.str t,.bool y] ["leave",eJ p,w,t,if y=true then "yes" else "no"]
 |jC (i:Int) (r:List PyData):r.length≤9->(∀x∈PyData.int i::r,Flat1 x)->Wt [.str "pour",.tuple (.int i::r)] ["pour",Txt.join "," ((PyData.int i::r).map bI)]
 |bR (k:Str) (r:List PyData):k = "back" \/ k = "again" \/ k = "bring" \/ k = "drop" \/ k = "nothing"->r.length≤1->(∀x∈r,Flat1 x/\x≠.str "")->Wt (.str k::r) (k::r.map bI)
def LV(h:Flat1 x)(a:x≠.str ""):eX x/\iI x=bI x:=by
 rcases h with⟨z,rfl,hz⟩|⟨i,rfl,hi⟩
 ·exact⟨.str z hz,gB λe=>a (by rw[e])⟩
 ·exact⟨.int i hi,U⟩
def o4(h:b=.none\/∃n,b=.tuple n/\b9 n):eX b:=by
 rcases h with rfl|⟨n,rfl,hn⟩
 ·exact .aT
 ·exact .name n hn
def Wt.plain(h:Wt ds ws):(∃(p:List PyData) (b:PyData) (m:List PyData),ds=[.str "put",.tuple p,b,.tuple m]/\ws=(["put",eJ p,iI b]:List Str)++m.map CG/\b9 p/\(b=.none\/∃n,b=.tuple n/\b9 n)/\m.length≤12/\∀d∈m,o_ d)\/(∃(p:List PyData) (l:List (List PyData)),ds=[.str "out",.tuple p,.tuple (l.map .tuple)]/\ws=(["out",eJ p]:List Str)++l.map eJ/\b9 p/\l.length≤12/\∀n∈l,b9 n)\/((∃k r,ds=.str k::r/\k≠"put" /\ k≠"out")/\(∀d∈ds,eX d)/\ws=ds.map iI/\ds.length≤12):=by
 have two:∀{k:Str} {r:List PyData},k.length≤8->(∀d∈r,eX d)->∀d∈PyData.str k::r,eX d:=λg f d hd=>by
  rcases qv.mp hd with rfl|hd
  ·exact .str _ g
  ·exact f d hd
 cases h with
 |put p b m h1 h2 A E=>exact .inl {_,_,_,U,U,h1,h2,A,E}
 |out p l h1 h2 A=>exact .inr (.inl {_,_,U,U,h1,h2,A})
 |names k l g q hn =>
  have c:k.length≤8/\k≠"" /\ k≠"put" /\ k≠"out":=by rcases g with rfl|rfl|rfl|rfl <;> decide +kernel
  refine .inr (.inr {{_,_,U,c.2.2},two c.1 λd hd=>?_,?_,by rw[qr,qa];omega})
  ·obtain⟨n,j,rfl⟩:=qf.mp hd
   exact .name n (hn n j)
  ·rw[qi,gB c.2.1,zj]
   refine congrArg _ (yl λn j=>?_);exact(eU (hn n j)).symm
 |mark k p I H r g e h1 h2 q f =>
  have c:k.length≤8/\k≠"" /\ k≠"put" /\ k≠"out":=by rcases g with rfl|rfl <;> decide +kernel
  refine .inr (.inr {{_,_,U,c.2.2},two c.1 λd hd=>?_,?_,by simp only[List.length_cons];omega})
  ·simp only[List.mem_cons]at hd
   rcases hd with rfl|rfl|rfl|hd
   ·exact .name p e
   ·exact .side _ h1
   ·exact .side _ h2
   ·exact(f d hd).th
  ·rw[qi,qi,qi,qi,gB c.2.1,eU e,JP h1,JP h2]
 |line p z v e hz G =>
  have o:z.length≤8/\z≠"":=by rcases hz with rfl|rfl <;> decide +kernel
  refine .inr (.inr {{_,_,U,∅,∅},two ⋯ λd hd=>?_,?_,qz rfl})
  ·simp only[List.mem_cons,List.not_mem_nil,or_false]at hd
   rcases hd with rfl|rfl|rfl
   ·exact .name p e
   ·exact .str _ o.1
   ·exact o4 G
  ·rw[qi,qi,qi,qi,gB ∅,eU e,gB o.2]
   rfl
 |cell p a b z e C D hz =>
  refine .inr (.inr {{_,_,U,∅,∅},two ⋯ λd hd=>?_,?_,qz rfl})
  ·simp only[List.mem_cons,List.not_mem_nil,or_false]at hd
   rcases hd with rfl|rfl|rfl|rfl
   ·exact .name p e
   ·exact .name a C
   ·exact .name b D
   ·exact .str _ hz
  ·rw[qi,qi,qi,qi,qi,gB ∅,eU e,eU C,eU D]
   rfl
 |leave p w t y e hw s F u =>
  refine .inr (.inr {{_,_,U,∅,∅},two ⋯ λd hd=>?_,?_,qz rfl})
  ·simp only[List.mem_cons,List.not_mem_nil,or_false]at hd
   rcases hd with rfl|rfl|rfl|rfl
   ·exact .name p e
   ·exact .str _ s
   ·exact .str _ u
   ·exact .bl y
  ·rw[qi,qi,qi,qi,qi,gB ∅,eU e,gB hw,gB F]
   rfl
 |jC i r q f =>
  refine .inr (.inr {{_,_,U,∅,∅},two ⋯ λd hd=>?_,?_,qz rfl})
  ·simp only[List.mem_cons,List.not_mem_nil,or_false]at hd
   rw[hd];exact .cnt i r q f
  ·rw[qi,qi,gB ∅]
   rfl
 |bR k r g q f =>
  have c:k.length≤8/\k≠"" /\ k≠"put" /\ k≠"out":=by rcases g with rfl|rfl|rfl|rfl|rfl <;> decide +kernel
  refine .inr (.inr {{_,_,U,c.2.2},two c.1 λd hd=>(LV (f d hd).1 (f d hd).2).1,?_,by rw[qr];omega});rw[qi,gB c.2.1];refine congrArg _ (yl λx B=>?_);exact(LV (f x B).1 (f x B).2).2.symm
def fI{ws:List Str}{c:Nat}(h:∀w∈ws,w.length≤c):(ws.map (·.length)).sum≤c * ws.length:=by
 induction ws with
 |nil=>exact qb _
 |cons w ws e =>
  have a:=h w (by simp);have b:=e λx d=>h x (qo _ d);rw[qi,wc,qr,Nat.mul_succ];omega
def Wt.len(h:Wt ds ws):ws.length≤15/\∀w∈ws,w.length≤100:=by
 rcases h.plain with⟨p,b,i,_,rfl,a,c,e,hs⟩|⟨p,f,_,rfl,a,e,hs⟩|⟨_,h1,rfl,g⟩
 ·refine⟨by rw[qm,qa];show 3+_≤15;omega,λw hw=>?_⟩
  rcases qy.mp hw with hw|hw
  ·simp only[List.mem_cons,List.not_mem_nil,or_false]at hw
   rcases hw with rfl|rfl|rfl
   ·decide
   ·exact qg (jR a) ⋯
   ·exact IW (o4 c)
  ·obtain⟨d,hd,rfl⟩:=qf.mp hw
   exact qg (ON (hs d hd)) ⋯
 ·refine{by rw[qm,qa];show 2+_≤15;omega,λw hw=>?_}
  rcases qy.mp hw with hw|hw
  ·simp only[List.mem_cons,List.not_mem_nil,or_false]at hw
   rcases hw with rfl|rfl
   ·decide
   ·exact qg (jR a) ⋯
  ·obtain⟨d,hd,rfl⟩:=qf.mp hw
   exact qg (jR (hs d hd)) ⋯
 ·refine{by rw[qa];omega,λw hw=>?_}
  obtain⟨d,hd,rfl⟩:=qf.mp hw;exact IW (h1 d hd)
def BP{α:Type}{xs:List α}{j:Nat}{x:α}(h:xs[j]?=some x):xs.take (j+1)=xs.take j++[x]:=by
 rw[List.take_succ,h];rfl
def pV{fr:List (Str×Nat)}{g:TG}(f:PyData->Str)(t:H a=some (.tup xs))(m:cn H xs ds)(hz:ds.length≤100)(hs:∀x d H' (e:V->Hp->Prop) (k:Hp->Prop),d∈ds->DT H' x d->ab H H'->(∀l,ab H' l->e (.str (f d)) l) →
   g x (bc own fr σ) H' λc H2=>o c H2 λb r=>if b=true then te c r e else k r)(hd:∀H' p,ab H H'->H p=none->H' p=some (.lst ((ds.map f).map V.str))->Q (.ref p) H'):l6 own fr g o te σ Q (KH a) H:=by
 have v:=lj m;refine sr (xs:=xs) (qj (aV ())) (λi ys H'=>ys=((ds.map f).take i).map V.str/\ab H H') {U,ab.refl H} (λ_ _ H' w=>aH.of (w.2 _ _ t)) (λj x ys H' e k h u k1 z=>?_) λH' p ys P _ n=>?_
 ·obtain⟨rfl,s⟩:=u
  obtain⟨d,q,dv⟩:=rQ (cn.same s m) h;refine hs x d H' e k (qk q) dv s λl y=>k1 _ _ {?_,s.trans y};rw[BP (x:=f d) (by rw[qh,q];rfl),zf];rfl
 ·obtain⟨rfl,s⟩:=P
  rw[ww (by rw[qa,v];exact qb _)];exact hd _ p (s.trans (ab.new n)) (s.free n) aG
end L2
namespace L2
open PySem PySem.Spec PySem.W PyProof.Rows My
inductive Rm where
 |number|plain|name|part|gP|snN|side|plainN|eR|truth|counts
 deriving DecidableEq
def kL:List (Str×List Rm):=[("nothing",[]),("part",[.part]),("move",[.name,.part]),("cut",[.name]),("put",[.part,.snN]),("out",[.part]),("mark",[.part,.side,.side,.plain,.plainN]),("note",[.part,.side,.side,.plain]),("line",[.part,.plain,.gP]),("strike",[.part,.name]),("cell",[.part,.name,.name,.eR]),("leave",[.part,.plain,.plain,.truth]),("back",[.number]),("again",[.number]),("bring",[.plain]),("drop",[.plain]),("pour",[.counts])]
def fA(z:Str):Option (List Rm):=(kL.find? λp=>decide (p.1=z)).map (·.2)
def Lc(d:PyData)(z:Str):Prop:=∃n,d=.int n/\Nb n/\z=toString n
def fT(d:PyData)(z:Str):Prop:=d=.str z/\cm z
def cC(d:PyData)(z:Str):Prop:=∃w n,d=.tuple [.str w,.int n]/\cm w/\Nb n/\z=Txt.join "." [w,toString n]
def jJ(d:PyData)(z:Str):Prop:=∃w n i,d=.tuple [.str w,.int n,.int i]/\cm w/\Nb n/\Nb i/\z=Txt.join "." [w,toString n,toString i]
def gL(d:PyData)(z:Str):Prop:=(d=.tuple [.str "",.int 0]/\z = ".")\/cC d z
def pR(d:PyData)(z:Str):Prop:=∃ds y s,d=.tuple [ds,.str s]/\jJ ds y/\((s = "ahead" /\ z=y++"<")\/(s = "behind" /\ z=y++">"))
def cM(d:PyData)(z:Str):Prop:=∃a:List Int,a≠[]/\a.length≤10/\d=.tuple (a.map PyData.int)/\(∀c∈a,Nb c)/\z=Txt.join "," (a.map λc=>(toString c:Str))
def Nk(P:PyData->Str->Prop)(d:PyData)(z:Str):Prop:=(d=.none/\z = "-")\/P d z
def iv:Rm->PyData->Str->Prop
 |.number=>Lc|.plain=>fT|.name=>cC|.part=>gL|.gP=>Nk cC|.snN=>Nk jJ|.side=>pR|.plainN=>Nk fT
 |.eR=>λd z=>(d=.str "" /\ z = "!")\/fT d z
 |.truth=>λd z=>∃b,d=.bool b/\z=if b=true then("yes":Str) else "no"
 |.counts=>cM
def iF(d:PyData)(z:Str):Prop:=(∃c,d=.str {#[c]}/\c∈("abcdefghijklmnopqrstuvwxyz .,":Str).cps.toList/\z=if({#[c]}:Str) = " " then("_":Str) else{#[c]})\/(∃w,d=.tuple [.str "picture",.str w]/\cm w/\z = "*"++w)\/∃p y,d=.tuple [.str "refer",p]/\gL p y/\z = "#"++y
def E6(d:PyData)(z:Str):Prop:=(d=.none/\z = "-")\/∃a b,d=.tuple [.str a,.str b]/\cm a/\cm b/\z=Txt.join "." [a,b]
inductive F2(P:PyData->Str->Prop):List PyData->List Str->Prop
 |nil:F2 P [] []
 |cons {d:PyData} {z:Str} {ds:List PyData} {zs:List Str}:P d z->F2 P ds zs->F2 P (d::ds) (z::zs)
inductive F3:List Rm->List PyData->List Str->Prop
 |nil:F3 [] [] []
 |cons {r:Rm} {d:PyData} {z:Str} {rs:List Rm} {ds:List PyData} {zs:List Str}:iv r d z->F3 rs ds zs->F3 (r::rs) (d::ds) (z::zs)
theorem F2.len:∀{ds:List PyData} {zs:List Str},F2 P ds zs->ds.length=zs.length
 |_,_,.nil=>rfl
 |_,_,.cons _ t=>congrArg (·+1) t.len
theorem F2.at:∀{ds:List PyData} {zs:List Str} {i:Nat} {z:Str},F2 P ds zs->zs[i]?=some z->∃d,ds[i]?=some d/\P d z
 |_,_,0,_,.cons h _,e=>by cases e;exact{_,U,h}
 |_,_,i+1,_,.cons _ t,e=>t.at (i:=i) e
theorem F2.mem:∀{ds:List PyData} {zs:List Str},F2 P ds zs->z∈zs->∃d,P d z
 |_,_,.cons h t,e=>by
  rcases qv.mp e with rfl|e
  ·exact⟨_,h⟩
  ·exact t.mem e
theorem F2.map:∀{ds:List PyData},(∀d∈ds,P d (f d))->F2 P ds (ds.map f)
 |[],_=>.nil
 |d::ds,h=>.cons (h d ql) (F2.map λx a=>h x (qo _ a))
theorem F3.len:∀{rs:List Rm} {ds:List PyData} {zs:List Str},F3 rs ds zs->ds.length=rs.length/\zs.length=rs.length
 |_,_,_,.nil=>{U,U}
 |_,_,_,.cons _ t=>{congrArg (·+1) t.len.1,congrArg (·+1) t.len.2}
theorem F3.at:∀{rs:List Rm} {ds:List PyData} {zs:List Str} {i:Nat} {r:Rm} {z:Str},F3 rs ds zs->rs[i]?=some r->zs[i]?=some z->∃d,ds[i]?=some d/\iv r d z
 |_,_,_,0,_,_,.cons h _,e1,e2=>by cases e1;cases e2;exact{_,U,h}
 |_,_,_,i+1,_,_,.cons _ t,e1,e2=>t.at (i:=i) e1 e2
theorem F3.mem:∀{rs:List Rm} {ds:List PyData} {zs:List Str},F3 rs ds zs->z∈zs->∃r d,iv r d z
 |_,_,_,.cons h t,e=>by
  rcases qv.mp e with rfl|e
  ·exact⟨_,_,h⟩
  ·exact t.mem e
inductive iT(k:Str):List PyData->List Str->Prop
 |put (sg:List PyData) (zs:List Str) (hk:k = "put") (h:F2 iF sg zs) (h3:zs.length≤12):iT k [.tuple sg] zs
 |out (sg:List PyData) (zs:List Str) (hk:k = "out") (h:F2 jJ sg zs) (h3:zs.length≤12):iT k [.tuple sg] zs
 |no (h1:k≠"put") (h2:k≠"out"):iT k [] []
inductive eO:List PyData->List Str->Prop
 |mk (k:Str) (rs:List Rm) (ds:List PyData) (zs:List Str) (es:List PyData) (ys:List Str) (h1:fA k=some rs) (h4:F3 rs ds zs) (h5:iT k es ys):eO (.str k::(ds++es)) (k::(zs++ys))
def dC(z:Str):Prop:=∀c∈z.cps.toList,c≠32/\c<1114112
def ry{n:Int}(h:0≤n):∀c∈(toString n:Str).cps.toList,48≤c/\c≤57:=by
 obtain⟨m,rfl⟩:=Int.eq_ofNat_of_zero_le h;intro c b;have e:(toString ((m:Nat):Int):Str).cps.toList=(Nat.toDigits 10 m).map Char.toNat:=KIN.signs_num m;rw[e]at b;obtain⟨ch,a,e⟩:=qf.mp b;have r:=digit_range (Nat.isDigit_of_mem_toDigits ⋯ ⋯ a);rw[←e];exact r
theorem Gk:∀{xs:List (List Nat)},c∈jl s xs->c=s\/∃x∈xs,c∈x
 |[],h=>nomatch h
 |[a],h=>.inr {a,ql,h}
 |a::b::r,h=>by
  rcases qy.mp (show c∈a++s::jl s (b::r) from h) with h|h
  ·exact .inr ⟨a,ql,h⟩
  ·rcases qv.mp h with h|h
   ·exact .inl h
   ·rcases Gk h with h|⟨x,hx,h⟩
    ·exact .inl h
    ·exact .inr ⟨x,qo _ hx,h⟩
def JT(h:c∈(Txt.join {#[s]} ws).cps.toList):c=s\/∃w∈ws,c∈w.cps.toList:=by
 rw[show Txt.join {#[s]} ws=Str.join {#[s]} ws from StrLaws.glued_eq_join _ _,mY]at h;rcases Gk h with h|⟨x,hx,h⟩
 ·exact .inl h
 ·obtain⟨w,hw,rfl⟩:=qf.mp hx
  exact .inr {w,hw,h}
def tH(hs:s≠32/\s<1114112)(h:∀w∈ws,dC w):dC (Txt.join {#[s]} ws):=λc a=>by
 rcases JT a with rfl|⟨w,hw,a⟩
 ·exact hs
 ·exact h w hw c a
def ip(h:cm z):dC z:=λc a=>by have:=h.2.2 c a;exact{(),()}
def kZ(h:Nb n):dC (toString n):=λc a=>by have:=ry h.1 c a;exact{(),()}
def sC(h1:dC x)(h2:dC y):dC (x++y):=λc a=>by
 have a:c∈(x.cps++y.cps).toList:=a;rw[Array.toList_append]at a;rcases qy.mp a with h|h
 ·exact h1 c h
 ·exact h2 c h
def gO(h:(z.cps.toList.all λc=>decide (c≠32/\c<1114112))=true):dC z:=λc a=>qF (zm.mp h c a)
def jJ.fr(h:jJ d z):dC z:=by
 obtain⟨w,n,i,_,h1,h2,b,rfl⟩:=h;refine tH ⋯ λx a=>?_
 simp only[List.mem_cons,List.not_mem_nil,or_false]at a
 rcases a with rfl|rfl|rfl
 ·exact ip h1
 ·exact kZ h2
 ·exact kZ b
def cC.fr(h:cC d z):dC z:=by
 obtain⟨w,n,_,h1,h2,rfl⟩:=h;refine tH ⋯ λx a=>?_
 simp only[List.mem_cons,List.not_mem_nil,or_false]at a
 rcases a with rfl|rfl
 ·exact ip h1
 ·exact kZ h2
theorem gL.fr(h:gL d z):dC z:=by
 rcases h with⟨_,rfl⟩|h
 ·exact gO ∅
 ·exact h.fr
def cM.fr(h:cM d z):dC z:=by
 obtain⟨e,_,_,_,h1,rfl⟩:=h;refine tH ⋯ λx a=>?_;obtain⟨c,b,rfl⟩:=qf.mp a;exact kZ (h1 c b)
def GX(h:iv r d z):dC z:=by
 have a:dC "-":=gO ∅
 cases r with
 |number=>obtain⟨n,_,h,rfl⟩:=h;exact kZ h
 |plain=>exact ip h.2
 |name=>exact cC.fr h
 |part=>exact gL.fr h
 |gP=>rcases h with⟨_,rfl⟩|h;exact a;exact cC.fr h
 |snN=>rcases h with⟨_,rfl⟩|h;exact a;exact jJ.fr h
 |side =>
  obtain⟨ds,y,s,_,h1,h2⟩:=h;rcases h2 with⟨_,rfl⟩|⟨_,rfl⟩
  ·exact sC h1.fr (gO ∅)
  ·exact sC h1.fr (gO ∅)
 |plainN=>rcases h with⟨_,rfl⟩|h;exact a;exact ip h.2
 |eR=>rcases h with⟨_,rfl⟩|h;exact gO ∅;exact ip h.2
 |truth=>obtain⟨b,_,rfl⟩:=h;cases b <;> exact gO ∅
 |counts=>exact cM.fr h
theorem iF.fr(h:iF d z):dC z:=by
 rcases h with⟨c,_,b,rfl⟩|⟨w,_,h,rfl⟩|⟨p,y,_,h,rfl⟩
 ·have a:∀c∈("abcdefghijklmnopqrstuvwxyz .,":Str).cps.toList,((if(⟨#[c]⟩:Str) = " " then("_":Str) else⟨#[c]⟩).cps.toList.all λc=>decide (c≠32/\c<1114112))=true:=∅
  exact gO (a c b)
 ·exact sC (gO ∅) (ip h)
 ·exact sC (gO ∅) h.fr
def E6.fr(h:E6 d z):dC z:=by
 rcases h with⟨_,rfl⟩|⟨a,b,_,h1,h2,rfl⟩
 ·exact gO ∅
 ·refine tH ⋯ λx c=>?_
  simp only[List.mem_cons,List.not_mem_nil,or_false]at c
  rcases c with rfl|rfl
  ·exact ip h1
  ·exact ip h2
def GD(h:fA z=some rs):(z,rs)∈kL:=by
 unfold fA at h
 cases e:kL.find? λp=>decide (p.1=z) with
 |none=>rw[e]at h;exact nomatch h
 |some p =>
  rw[e]at h;have h1:=yd e;have h2:=jd e;have h2:p.1=z:=qF h2;have a:p.2=rs:=qE h;rw[←h2,←a];exact h1
theorem eO.fr(h:eO ds zs):∀z∈zs,dC z:=by
 cases h with
 |mk k rs ds zs es ys h1 b e =>
  intro z hz;rcases qv.mp hz with rfl|hz
  ·have a:∀p∈kL,(p.1.cps.toList.all λc=>decide (c≠32/\c<1114112))=true:=∅
   exact gO (a _ (GD h1))
  ·rcases qy.mp hz with hz|hz
   ·obtain⟨r,d,h⟩:=b.mem hz
    exact GX h
   ·cases e with
    |put f _ _ h2 =>
     obtain⟨d,h⟩:=h2.mem hz;exact iF.fr h
    |out f _ _ h2 =>
     obtain⟨d,h⟩:=h2.mem hz;exact jJ.fr h
    |no=>exact nomatch hz
def yV(a:ws≠[])(h:∀w∈ws,46∉w.cps.toList):Txt.split (Txt.join "." ws) "."=ws:=sU (c:=46) a h
def L8(h:cm z):46∉z.cps.toList:=λa=>by have:=h.2.2 _ a;omega
def Qf(h:Nb n):46∉(toString n:Str).cps.toList:=λa=>by have:=ry h.1 _ a;omega
def R5(h:Nb n):44∉(toString n:Str).cps.toList:=λa=>by have:=ry h.1 _ a;omega
def mH(h:Nb n):(toString n:Str).length≤7:=by
 obtain⟨m,rfl⟩:=Int.eq_ofNat_of_zero_le h.1;have h2:=h.2;show(Str.ofString (toString ((m:Nat):Int))).length≤_;rw[PySem.ofString_length];show m.repr.length≤7;exact(kc ⋯).mpr ()
def PZ(h:Nb n):1≤(toString n:Str).length:=by
 obtain⟨m,rfl⟩:=Int.eq_ofNat_of_zero_le h.1;show 1≤(Str.ofString (toString ((m:Nat):Int))).length;have e:(Str.ofString (toString ((m:Nat):Int))).cps.toList=(Nat.toDigits 10 m).map Char.toNat:=KIN.signs_num m
 have:(Str.ofString (toString ((m:Nat):Int))).length=(Nat.toDigits 10 m).length:=by
  show(Str.ofString (toString ((m:Nat):Int))).cps.size=_;rw[←zh,e,qa]
 rw[this];exact toDigits_len_ge 10 m
def Qp:∀d:Nat,d<10->(Nat.digitChar d).toNat=48->d=0:=⋯
def Qb(m:Nat):((Nat.toDigits 10 m).map Char.toNat)[0]?=some 48->m=0:=by
 induction m using Nat.strongRecOn with
 |_ m a =>
  by_cases h:m<10
  ·rw[Nat.toDigits_of_lt_base h]
   exact λe=>Qp m h (qE e)
  ·have c:m % 10<10:=jc m ⋯
   have t:Nat.toDigits 10 (m / 10)++Nat.toDigits 10 (m % 10)=Nat.toDigits 10 (10 * (m / 10)+m % 10):=Nat.toDigits_append_toDigits ⋯ () c;rw[Nat.div_add_mod]at t;intro e;rw[←t,zf]at e
   have b:0<((Nat.toDigits 10 (m / 10)).map Char.toNat).length:=by rw[qa];exact toDigits_len_ge 10 _
   rw[vz b]at e;have:=a (m / 10) () e;omega
def Kc(h:Nb n)(e:(toString n:Str).cps.toList[0]?=some 48):n=0:=by
 obtain⟨m,rfl⟩:=Int.eq_ofNat_of_zero_le h.1;have a:(toString ((m:Nat):Int):Str).cps.toList=(Nat.toDigits 10 m).map Char.toNat:=KIN.signs_num m;rw[a]at e;rw[Qb m e];rfl
def le_0(c:Nat):(!decide (({#[c]}:Str).cps.toList<("0":Str).cps.toList))=decide (48≤c):=by
 have e:("0":Str).cps.toList=[48]:=∅
 rw[e];show(!decide ([c]<[48]))=decide (48≤c)
 by_cases h:48≤c
 ·rw[qA h,decide_eq_false (by simp[List.cons_lt_cons_iff];omega)];rfl
 ·rw[decide_eq_false h,qA (by simp[List.cons_lt_cons_iff];omega)];rfl
def Ox(c:Nat):(!decide (("9":Str).cps.toList<({#[c]}:Str).cps.toList))=decide (c≤57):=by
 have e:("9":Str).cps.toList=[57]:=∅
 rw[e];show(!decide ([57]<[c]))=decide (c≤57)
 by_cases h:c≤57
 ·rw[qA h,decide_eq_false (by simp[List.cons_lt_cons_iff];omega)];rfl
 ·rw[decide_eq_false h,qA (by simp[List.cons_lt_cons_iff];omega)];rfl
def sO(hs:s.length=1)(h:∀w∈ws,w.length≤50)(c:ws.length≤12):(Txt.join s ws).length≤900:=by
 have a:=nW s ws;have b:=fI h;rw[hs]at a;omega
def cC.len(h:cC d z):z.length≤900:=by
 obtain⟨w,n,_,h1,h2,rfl⟩:=h;refine sO rfl (λx a=>?_) (qz rfl)
 simp only[List.mem_cons,List.not_mem_nil,or_false]at a
 rcases a with rfl|rfl
 ·exact qg (c_ h1) ⋯
 ·exact qg (mH h2) ⋯
def jJ.len(h:jJ d z):z.length≤900:=by
 obtain⟨w,n,i,_,h1,h2,b,rfl⟩:=h;refine sO rfl (λx a=>?_) (qz rfl)
 simp only[List.mem_cons,List.not_mem_nil,or_false]at a
 rcases a with rfl|rfl|rfl
 ·exact qg (c_ h1) ⋯
 ·exact qg (mH h2) ⋯
 ·exact qg (mH b) ⋯
def Hd(z:Str):Prop:=∃c t,z.cps.toList=c::t/\97≤c
def Hd.ne(h:Hd z)(a:(y.cps.toList.all λc=>decide (c<97))=true):z≠y:=λe=>by
 obtain⟨c,t,h1,h2⟩:=h;subst e;have:=qF (zm.mp a c (by rw[h1];exact ql));omega
def zG(h:cm z):Hd z:=by
 have a:=h.1;rw[←zh]at a
 cases e:z.cps.toList with
 |nil=>rw[e]at a;exact absurd a ⋯
 |cons c t=>exact{c,t,e,(h.2.2 c (by rw[e];exact ql)).1}
def DU(h:cm w):Hd (Txt.join "." (w::ws)):=by
 obtain⟨c,t,h1,h2⟩:=zG h
 have e:(Txt.join "." (w::ws)).cps.toList=jl 46 ((w::ws).map λw=>w.cps.toList):=by
  rw[show Txt.join "." (w::ws)=Str.join {#[46]} (w::ws) from StrLaws.glued_eq_join _ _,mY]
 cases ws with
 |nil=>exact{c,t,by rw[e];exact h1,h2}
 |cons b r=>exact{c,t++46::jl 46 ((b::r).map λw=>w.cps.toList),by rw[e];show w.cps.toList++46::_=_;rw[h1];rfl,h2}
def cC.hd(h:cC d z):Hd z:=by obtain⟨w,n,_,h1,_,rfl⟩:=h;exact DU h1
def jJ.hd(h:jJ d z):Hd z:=by obtain⟨w,n,i,_,h1,_,_,rfl⟩:=h;exact DU h1
def n8(y:Str)(a c:Nat):Txt.endswith (y++{#[a]}) {#[c]}=decide (a=c):=by
 show(decide (0+1≤(y++{#[a]}:Str).length)&&Builtin.Str.subAt (y++{#[a]}) {#[c]} ((y++{#[a]}:Str).length - 1))=_;have d:(y++⟨#[a]⟩:Str).length=y.length+1:=kQ y {#[a]};have b:(y++⟨#[a]⟩:Str).cps.toList=y.cps.toList++[a]:=rM y a;rw[d,qA (),wz,StrLaws.subAt_eq,b,ke]
 have e:y.length=y.cps.toList.length:=by simp;rfl
 rw[e,List.drop_left]
 by_cases h:a=c
 ·subst h;rw[qA rfl];simp;rfl
 ·rw[decide_eq_false h]
  show(([a].take 1)==[c])=false
  simp[h]
def Ce(a:Nat)(y:Str)(c:Nat):Txt.startswith ({#[a]}++y) {#[c]}=decide (a=c):=by
 show(decide (0+1≤({#[a]}++y:Str).length)&&Builtin.Str.subAt ({#[a]}++y) {#[c]} 0)=_;have d:(⟨#[a]⟩++y:Str).length=1+y.length:=kQ {#[a]} y
 have b:(⟨#[a]⟩++y:Str).cps.toList=a::y.cps.toList:=by
  show(#[a]++y.cps).toList=_
  simp
 rw[d,qA (),wz,StrLaws.subAt_eq,b];show((a::y.cps.toList).take 1==[c])=_
 by_cases h:a=c
 ·subst h;simp
 ·simp[h]
def LG(y:Str)(a:Nat):cA (y++{#[a]}) none (some (-1))=y:=by
 have d:(y++⟨#[a]⟩:Str).length=y.length+1:=kQ y {#[a]};have c:(y++⟨#[a]⟩:Str).cps.toList=y.cps.toList++[a]:=rM y a
 have e:y.length=y.cps.toList.length:=by simp;rfl
 have b:HT.bE (y.length+1) (y.length+1) (some (-1))=y.length:=by
  show(if(-1:Int)<0 then((-1:Int)+((y.length+1:Nat):Int)).toNat else min (-1:Int).toNat (y.length+1))=_;rw[q0 ⋯];omega
 unfold cA;rw[d,b,c,HT.dA,vn,vh,e,List.take_left]
def JH(a:Nat)(y:Str):cA ({#[a]}++y) (some 1) none=y:=by
 have d:(⟨#[a]⟩++y:Str).length=y.length+1:=by rw[kQ {#[a]} y];exact yu 1 _
 have c:(⟨#[a]⟩++y:Str).cps.toList=a::y.cps.toList:=by
  show(#[a]++y.cps).toList=_
  simp
 have e:y.length=y.cps.toList.length:=by simp;rfl
 have b:HT.bE (y.length+1) 0 (some 1)=1:=by
  rw[show(1:Int)=((1:Nat):Int) from rfl,HT.eE];omega
 unfold cA;rw[d,b,c,HT.dA,kf,vn,ke,e,zn]
def kb{xs:List V}{n:Nat}(h:n≤xs.length):bQ xs (some (n:Int)) none=xs.drop n:=by
 have e:HT.bE xs.length 0 (some (n:Int))=n:=by rw[HT.eE];omega
 unfold bQ;rw[e,HT.dA,ww];rw[wa];omega
theorem cn.app:∀{xs ys:List V} {ds es:List PyData},cn H xs ds->cn H ys es->cn H (xs++ys) (ds++es)
 |_,_,_,_,.nil,h=>h
 |_,_,_,_,.cons a t,h=>.cons a (cn.app t h)
def Pf(h:fA z=some rs):rs.length≤5:=by
 have a:∀p∈kL,p.2.length≤5:=∅
 exact a _ (GD h)
end L2
namespace Hs
open PySem L2 PyProof.Rows
abbrev oo(xs:List Nat):Nat:=xs.foldl max 0
def fD{xs:List Nat}{a c:Nat}:xs.foldl max a≤c↔a≤c/\∀x∈xs,x≤c:=by
 induction xs generalizing a with
 |nil=>simp
 |cons y ys d =>
  rw[jo,d]
  simp only[List.mem_cons,forall_eq_or_imp]
  constructor
  ·rintro⟨h1,h2⟩;exact{(),(),h2}
  ·rintro⟨h1,h2,b⟩;exact{(),b}
def lE(h:x∈xs):x≤oo xs:=(fD.mp (qb _)).2 x h
def bx(row:List Nat)(m:Nat):List (Nat×Nat):=((List.range m).filter λj=>decide (0<aK row j)).map λj=>(j,aK row j)
def KW{row:List Nat}:p∈bx row m↔p.1<m/\0<aK row p.1/\p.2=aK row p.1:=by
 unfold bx;rw[qf];constructor
 ·rintro⟨j,a,rfl⟩
  rw[w6,zy]at a;exact{a.1,qF a.2,U}
 ·rintro⟨h1,h2,b⟩
  exact{p.1,w6.mpr {zy.mpr h1,qA h2},by rw[←b]}
def HG(m:Nat)(es:List Dd)(hn:Nat->Nat->Nat):Prop:=∀d∈es,hn d.aB d.num=1+oo ((bx d.hd m).map λp=>hn p.1 p.2)
def HG.sub(h:HG m ds hn)(s:∀d∈es,d∈ds):HG m es hn:=λd hd=>h d (s d hd)
theorem fI:∀{a b:List Nat},a.length=b.length->(∀i,i<a.length->aK a i≤aK b i)->a.sum≤b.sum
 |[],_,_,_=>zd _
 |x::a,[],hl,_=>by cases hl
 |x::a,y::b,hl,hle=>by
  rw[wc,wc];have c:x≤y:=hle 0 (Nat.zero_lt_succ _)
  have:=fI (a:=a) (b:=b) (Nat.succ.inj hl) λi hi=>by simpa[aK] using hle (i+1) (Nat.succ_lt_succ hi)
  omega
theorem Ls:∀{a b:List Nat} {j:Nat},a.length=b.length->(∀i,i<a.length->aK a i≤aK b i)->j<a.length->aK a j<aK b j->a.sum<b.sum
 |[],_,_,_,_,h,_=>absurd h (z0 _)
 |x::a,[],_,hl,_,_,_=>by cases hl
 |x::a,y::b,j,hl,hle,hj,hlt=>by
  rw[wc,wc];have e:x≤y:=hle 0 (Nat.zero_lt_succ _);have d:a.length=b.length:=Nat.succ.inj hl
  have c:∀i,i<a.length->aK a i≤aK b i:=λi hi=>by simpa[aK] using hle (i+1) (Nat.succ_lt_succ hi)
  cases j with
  |zero =>
   have h1:x<y:=hlt;have:=fI d c;omega
  |succ j =>
   have:=Ls (j:=j) d c (Nat.lt_of_succ_lt_succ hj) (by simpa[aK] using hlt);omega
def Wh.one(W:Wh m ds)(e:a∈ds)(d:b∈ds)(h1:a.aB=b.aB)(h2:a.num=b.num):a=b:=by
 obtain⟨i,hi,rfl⟩:=zw e;obtain⟨j,c,rfl⟩:=zw d;rcases kg i j with q|q|q
 ·exact absurd ⟨h1,h2⟩ (wk.mp W.uniq i j hi c q)
 ·subst q;rfl
 ·exact absurd {h1.symm,h2.symm} (wk.mp W.uniq j i c hi q)
def Wh.last(W:Wh m ds){row:List Nat}(l:row.length=m)(c:kx m ds row)(g:p∈bx row m):∃e∈ds,e.aB=p.1/\e.num=p.2/\(∀i,i<m->aK e.hd i≤aK row i)/\e.hd.sum<row.sum:=by
 obtain⟨h1,h2,k⟩:=KW.mp g;obtain⟨e,d,a,b,f⟩:=c p.1 p.2 h1 () ();refine{e,d,a,b,f,?_};have h:=W.len e d;refine Ls (j:=p.1) () (λi hi=>f i ()) () ?_;have:=W.own e d;rw[a]at this;omega
def hf(m:Nat)(ds:List Dd):Nat->Nat->Nat->Nat
 | 0,_,_=>0
 |n+1,j,k=>match ds.find? λd=>decide (d.aB=j/\d.num=k) with
  |none=>0
  |some d=>1+oo ((bx d.hd m).map λp=>hf m ds n p.1 p.2)
theorem Wh.find(W:Wh m ds)(hd:d∈ds):(ds.find? λe=>decide (e.aB=d.aB/\e.num=d.num))=some d:=by
 cases e:ds.find? λe=>decide (e.aB=d.aB/\e.num=d.num) with
 |none=>exact absurd (List.find?_eq_none.mp e d hd) (by simp)
 |some x =>
  have h1:=jd e;have h2:=yd e;have a:=qF h1;rw[W.one h2 hd a.1 a.2]
def nN(W:Wh m ds)(hd:d∈ds)(n:Nat):hf m ds (n+1) d.aB d.num=1+oo ((bx d.hd m).map λp=>hf m ds n p.1 p.2):=by
 rw[hf,W.find hd]
theorem JI(W:Wh m ds):∀(n:Nat) (d:Dd),d∈ds->d.hd.sum<n->hf m ds n d.aB d.num=hf m ds (n+1) d.aB d.num
 | 0,_,_,h=>absurd h (z0 _)
 |n+1,d,hd,h=>by
  rw[nN W hd,nN W hd]
  congr 2
  refine yl λp f=>?_;obtain⟨e,g,a,b,_,c⟩:=W.last (W.len d hd) (W.past d hd) f;rw[←a,←b];exact JI W n e g ()
def Wh.sS(W:Wh m ds):∃hn,HG m ds hn:=by
 refine{hf m ds ((ds.map (·.hd.sum)).sum+1),λd hd=>?_}
 have h1:∀(l:List Nat) x,x∈l->x≤l.sum:=λl=>by
  induction l with
  |nil=>intro x h;cases h
  |cons y ys a =>
   intro x h;rw[wc];rcases qv.mp h with rfl|h
   ·omega
   ·have:=a x h;omega
 have h2:d.hd.sum<(ds.map (·.hd.sum)).sum+1:=Nat.lt_succ_of_le (h1 _ _ (qf.mpr {d,hd,U}));rw[JI W _ d hd h2,nN W hd]
theorem HG.up(W:Wh m ds)(h:HG m ds hn):∀(n:Nat) (a b:Dd),b.num≤n->a∈ds->b∈ds->a.aB=b.aB->a.num<b.num->hn a.aB a.num<hn b.aB b.num
 | 0,a,b,hb,_,_,_,hlt=>absurd hlt ()
 |n+1,a,b,hbn,ha,hb,hw,hlt=>by
  have o:=W.own b hb;have l:=W.own a ha;have j:=W.aB b hb;have f:(b.aB,aK b.hd b.aB)∈bx b.hd m:=KW.mpr {j,by show 0<aK b.hd b.aB;omega,U}
  have h1:hn b.aB (aK b.hd b.aB)<hn b.aB b.num:=by
   rw[h b hb];have:=lE (qf.mpr {_,f,U}:hn b.aB (aK b.hd b.aB)∈(bx b.hd m).map λp=>hn p.1 p.2);omega
  obtain⟨e,g,i,k,_⟩:=W.last (W.len b hb) (W.past b hb) f;have d:e.aB=b.aB:=i;have c:e.num=aK b.hd b.aB:=k
  by_cases q:a.num=e.num
  ·rw[hw,q,c];exact h1
  ·have:=HG.up W h n a e () ha g () ()
   rw[d,c]at this;omega
def klt(hn:Nat->Nat->Nat)(a b:Dd):Prop:=hn a.aB a.num<hn b.aB b.num\/hn a.aB a.num=hn b.aB b.num/\a.aB<b.aB
def klt.asymm(h:klt hn a b)(g:klt hn b a):False:=by
 unfold klt at h g;omega
def klt.R7(W:Wh m ds)(h:HG m ds hn)(d:a∈ds)(c:b∈ds)(ne:a≠b)(g:¬klt hn b a):klt hn a b:=by
 unfold klt at g ⊢
 by_cases q:a.aB=b.aB
 ·rcases kg a.num b.num with r|r|r
  ·exact .inl (h.up W _ a b (qb _) d c q r)
  ·exact absurd (W.one d c q r) ne
  ·exact absurd (.inl (h.up W _ b a (qb _) c d q.symm r)) g
 ·omega
def klt.eq{hn:Nat->Nat->Nat}{xs ys:List Dd}(a:xs.Pairwise (klt hn))(b:ys.Pairwise (klt hn))(p:xs.Perm ys):xs=ys :=
 List.Perm.eq_of_pairwise (λ_ _ _ _ h g=>(h.asymm g).elim) a b p
def lV(hn:Nat->Nat->Nat)(d:Dd):PyData:=.tuple [.int (hn d.aB d.num),.int d.aB]
def MG:cH (lV hn a) (lV hn b)=true↔klt hn a b:=by
 unfold lV klt;rw[cH,a9,a9,a9]
 simp only[PyData.eqv,cH]
 by_cases q:hn a.aB a.num=hn b.aB b.num
 ·rw[q]
  by_cases r:a.aB=b.aB
  ·simp[r]
  ·have c:¬((a.aB:Int)=b.aB):=()
   simp[c]
 ·have d:¬((hn a.aB a.num:Int)=hn b.aB b.num):=()
  simp[d,q]
def mD{m:Nat}{es:List Dd}{hn:Nat->Nat->Nat}{ix:List Nat}(W:Wh m es)(h:HG m es hn)(g:fS (es.map (lV hn)) ix)(d:Dd):(ix.map λi=>es.getD i d).Perm es/\(ix.map λi=>es.getD i d).Pairwise (klt hn):=by
 obtain⟨l,p2⟩:=g;rw[qa]at l
 have f:(ix.map λi=>es.getD i d).Perm es:=by
  refine(l.map _).trans (.of_eq ?_);apply wm;intro i;rw[qh]
  by_cases hi:i<es.length
  ·rw[yn hi,qc hi]
   show some (es.getD i d)=_;rw[qu,qc hi];rfl
  ·rw[List.getElem?_eq_none (by simpa using hi),List.getElem?_eq_none (by simpa using hi)];rfl
 refine{f,?_};have nd:(ix.map λi=>es.getD i d).Nodup:=f.symm.nodup (W.uniq.imp λ{a b} c e=>c (by subst e;exact{U,U}));rw[vi]at p2
 have o:(ix.map λi=>es.getD i d).Pairwise λa b=>cH (lV hn b) (lV hn a)=false:=by
  rw[vi];refine p2.imp_of_mem λ{a b} k j c=>?_
  have n:∀i,i∈ix->dq (es.map (lV hn)) i=lV hn (es.getD i d):=λi hi=>by
   have:i<es.length:=zy.mp (l.mem_iff.mp hi);unfold dq;rw[qu,qh,qu,qc this];rfl
  rw[n a k,n b j]at c;exact c
 refine(List.Pairwise.and nd o).imp_of_mem λ{a b} k j c=>?_;refine klt.R7 W h (f.mem_iff.mp k) (f.mem_iff.mp j) c.1 λz=>?_;rw[MG.mpr z]at c;cases c.2
def mJ(row:List Nat)(d:Dd):Bool:=decide (d.num≤aK row d.aB)
def Wh.perm(W:Wh m ds)(p:es.Perm ds):Wh m es :=
 {λd hd=>W.aB d (p.mem_iff.mp hd),λd hd=>W.len d (p.mem_iff.mp hd),λd hd=>W.own d (p.mem_iff.mp hd),(p.pairwise_iff λ{a b} h z=>h {z.1.symm,z.2.symm}).mpr W.uniq,λd hd=>(W.past d (p.mem_iff.mp hd)).mono λe c=>p.mem_iff.mpr c}
def Qs{row:List Nat}(W:Wh m ds)(c:kx m ds row)(o:j<m):((ds.filter (mJ row)).filter λd=>decide (d.aB=j)).length=aK row j:=by
 have nd:(((ds.filter (mJ row)).filter λd=>decide (d.aB=j)).map (·.num)).Nodup:=by
  rw[List.Nodup,vi];refine((W.uniq.filter _).filter _).imp_of_mem λ{a b} n l f e=>f {?_,e};have h1:=qF (w6.mp n).2;have h2:=qF (w6.mp l).2;omega
 have p:(((ds.filter (mJ row)).filter λd=>decide (d.aB=j)).map (·.num)).Perm ((List.range (aK row j)).map (·+1)):=by
  refine(List.perm_ext_iff_of_nodup nd (List.Pairwise.map (·+1) (λa b h e=>h (by simpa using e)) List.nodup_range)).mpr λk=>?_
  simp only[List.mem_map,List.mem_filter,List.mem_range]
  constructor
  ·rintro⟨d,⟨⟨hd,h1⟩,h2⟩,rfl⟩
   have h1:=qF h1;have h2:=qF h2;have:=W.own d hd;exact{d.num - 1,by rw[h2]at h1;omega,()}
  ·rintro⟨i,hi,rfl⟩
   obtain⟨e,g,a,b,_⟩:=c j (i+1) o () ();exact{e,{{g,qA (by rw[a,b];omega)},qA a},b}
 have:=p.length_eq;simpa using this
end Hs
namespace My
open PySem L2 PyProof.Rows
def iZ(h:n≤1000):n≤sizeLine:=qj (aV h)
def oP{A B:Prop}(h:c=true)(a:A):if c=true then A else B:=by rw[q0 h];exact a
def gE{A B:Prop}(h:c=false)(b:B):if c=true then A else B:=by rw[qt (by rw[h];decide)];exact b
theorem bU:∀{a:List Int} {xs:List V},cn H xs (a.map PyData.int)->xs=a.map V.int
 |[],_,.nil=>rfl
 |_::_,_,.cons (.int i) t=>by rw[bU t];rfl
def Rd.same(r:Rd H a u)(s:ab H H'):Rd H' a u:=by
 rcases r with r|⟨o,r⟩
 ·exact .inl (s _ _ r)
 ·exact .inr ⟨o,s _ _ r⟩
end My
namespace My
open PySem L2 PyProof.Rows Hs
def A2{α β:Type}(R:α->β->Prop)(xs:List α)(ys:List β):Prop:=xs.length=ys.length/\∀(i:Nat) x y,xs[i]?=some x->ys[i]?=some y->R x y
section
variable {α β γ:Type}{R R':α->β->Prop}{xs:List α}{ys:List β}
def A2.nil:A2 R [] []:={U,λ_ _ _ z=>by cases z}
def A2.imp(h:A2 R xs ys)(f:∀x y,y∈ys->R x y->R' x y):A2 R' xs ys:={h.1,λi x y b a=>f _ _ (qk a) (h.2 i x y b a)}
def A2.at{i:Nat}{x:α}(h:A2 R xs ys)(e:xs[i]?=some x):∃y,ys[i]?=some y/\R x y:=by
 have hi:=(qw.mp e).1;have a:ys[i]?=some (ys[i]'(by rw[←h.1];exact hi)):=qc _;exact{_,a,h.2 i _ _ e a}
def A2.to{i:Nat}{y:β}(h:A2 R xs ys)(e:ys[i]?=some y):∃x,xs[i]?=some x/\R x y:=by
 have hi:=(qw.mp e).1;have a:xs[i]?=some (xs[i]'(by rw[h.1];exact hi)):=qc _;exact{_,a,h.2 i _ _ a e}
def A2.snoc(h:A2 R xs ys)(r:R x y):A2 R (xs++[x]) (ys++[y]):=by
 refine{by rw[qm,qm,h.1];rfl,λi a b c d=>?_}
 by_cases hi:i<xs.length
 ·rw[vz hi]at c
  rw[vz (by rw[←h.1];exact hi)]at d;exact h.2 i a b c d
 ·rw[ja ()]at c
  rw[ja (by have:=h.1;omega)]at d
  have e:i - xs.length=0:=by
   have:=(qw.mp c).1
   simp at this
   omega
  rw[e]at c;rw[←h.1,e]at d;cases c;cases d;exact r
def A2.tail(h:A2 R (x::xs) (y::ys)):A2 R xs ys:={Nat.succ.inj h.1,λi a b c d=>h.2 (i+1) a b (by simpa using c) (by simpa using d)}
theorem A2.ix(h:A2 R xs ys)(ix:List Nat)(hi:∀i∈ix,i<ys.length):A2 R (ix.map λi=>xs.getD i a) (ix.map λi=>ys.getD i b):=by
 refine{by simp,λi x y c g=>?_};rw[qh]at c g
 cases e:ix[i]? with
 |none=>rw[e]at c;cases c
 |some k =>
  rw[e]at c g;have j:=hi k (qk e);have h1:xs[k]?=some (xs[k]'(by rw[h.1];exact j)):=qc _;have h2:ys[k]?=some (ys[k]'j):=qc _;have d:xs.getD k a=x:=qE c;have f:ys.getD k b=y:=qE g;rw[qu,h1]at d;rw[qu,h2]at f;rw[←d,←f];exact h.2 k _ _ h1 h2
def A2.mw{f:γ->β}{zs:List γ}(h:A2 (λx z=>R x (f z)) xs zs):A2 R xs (zs.map f):=by
 refine{by rw[qa,h.1],λi x y b a=>?_};rw[qh]at a
 cases e:zs[i]? with
 |none=>rw[e]at a;cases a
 |some z=>rw[e]at a;cases a;exact h.2 i x z b e
end
theorem A2.eQ:∀{xs:List V} {ds:List PyData},A2 (DV H) xs ds->fG H xs ds
 |[],[],_=>.nil
 |[],_::_,h=>by cases h.1
 |_::_,[],h=>by cases h.1
 |x::xs,d::ds,h=>.cons (h.2 0 x d rfl rfl) (A2.eQ h.tail)
def O5(h:dV H ws des ds):A2 (ay H ws) des ds:={h.1,λi x y c d=>by
 obtain⟨v,a,b⟩:=h.2 i y d;rw[c]at a;cases a
 exact b}
def vF{α β:Type}{a:Addr}{xs:List V}{js:List α}{own:List Str}{fr:List (Str×Nat)}{g:TG}{r:TT}{te:TE}{σ:L2.St}{H:Hp}{Q:VK}(R:Hp->V->α->Prop)(S:Hp->V->β->Prop)(f:α->Option β)(F:∀H H' v j,ab H H'->R H v j->R H' v j)(q:∀H H' v j,ab H H'->S H v j->S H' v j)(B:aw H a xs)(hz:xs.length≤1000)(t:A2 (R H) xs js)(hs:∀x j H' (m:V->Hp->Prop) (n:Hp->Prop),j∈js->ab H H'->R H' x j->(∀b y l,f j=some b->ab H' l->S l y b->m y l)->(∀d,f j=none->ab H' d->n d) →
   g x (bc own fr σ) H' λk H2=>r k H2 λb d=>if b=true then te k d m else n d)(hd:∀H' p zs,ab H H'->H p=none->H' p=some (.lst zs)->A2 (S H') zs (js.filterMap f)->Q (.ref p) H'):l6 own fr g r te σ Q (rG a) H:=by
 refine f' (xs:=xs) (qj (aV hz)) (λi ys H'=>ab H H'/\A2 (S H') ys ((js.take i).filterMap f)) {ab.refl H,.nil} (λi ys H' h=>h.1.seq B) ?_ ?_
 ·rintro i x ys H' m n o ⟨s,c⟩ k1 C
  obtain⟨j,A,D⟩:=t.at o
  have u:js.take (i+1)=js.take i++[j]:=by rw[zo,A];rfl
  refine hs x j H' m n (qk A) s (F _ _ _ _ s D) (λb y l e z E=>k1 y l {s.trans z,?_}) λd e w=>C d {s.trans w,?_}
  ·rw[u,List.filterMap_append,show List.filterMap f [j]=[b] from by simp[e]]
   exact(c.imp λ_ _ _ h=>q _ _ _ _ z h).snoc E
  ·rw[u,List.filterMap_append,show List.filterMap f [j]=[] from by simp[e],List.append_nil]
   exact c.imp λ_ _ _ h=>q _ _ _ _ w h
 ·rintro H' p ys ⟨s,c⟩ _ g
  rw[t.1,zn]at c;exact hd _ p ys (s.up g) (s.free g) aG (c.imp λ_ _ _ h=>q _ _ _ _ (ab.new g) h)
def pa{α:Type}{a:Addr}{xs:List V}{js:List α}{own:List Str}{fr:List (Str×Nat)}{g:TG}{te:TE}{σ:L2.St}{H:Hp}{Q:VK}(R S:Hp->V->α->Prop)(l:∀H H' v j,ab H H'->R H v j->R H' v j)(k:∀H H' v j,ab H H'->S H v j->S H' v j)(i:aw H a xs)(hz:xs.length≤1000)(n:A2 (R H) xs js)(hs:∀x j H' (c:V->Hp->Prop),j∈js->ab H H'->R H' x j->(∀y f,ab H' f->S f y j->c y f)->g x (bc own fr σ) H' λb H2=>te b H2 c)(hd:∀H' p zs,ab H H'->H p=none->H' p=some (.lst zs)->A2 (S H') zs js->Q (.ref p) H'):l6 own fr g (λ_ H Q=>Q true H) te σ Q (rG a) H:=by
 refine vF R S some l k i hz n (λx j H' c h q s r k1 t=>?_) λH' p zs s g e d=>hd H' p zs s g e (by rw[List.filterMap_some]at d;exact d)
 have e:(λb H2=>if true=true then te b H2 c else h H2)=λb H2=>te b H2 c:=by
  funext b H2
  rw[q0 rfl]
 show g x (bc own fr σ) H' λb H2=>if true=true then te b H2 c else h H2
 rw[e];exact hs x j H' c q s r λy f o m=>k1 j y f rfl o m
structure GC(k:Nat)(d:PyData):Prop where
 lay:d.canLay0=true
 sP:d.depth≤k
theorem wO{k:Nat}:∀{ds:List PyData},(∀d∈ds,d.depth≤k)->PyData.depthAll ds≤k
 |[],_=>zd _
 |d::ds,h=>by
  rw[PyData.depthAll];exact Nat.max_le.mpr {h d ql,wO λx a=>h x (qo _ a)}
def GC.lst{k:Nat}{ds:List PyData}(h:∀d∈ds,GC k d):GC (k+1) (.list ds) :=
 {by rw[PyData.canLay0];exact kW λd hd=>(h d hd).lay,by rw[PyData.depth];exact wg (wO λd hd=>(h d hd).sP)}
def GC.tup{k:Nat}{ds:List PyData}(h:∀d∈ds,GC k d):GC (k+1) (.tuple ds) :=
 {by rw[PyData.canLay0];exact kW λd hd=>(h d hd).lay,by rw[PyData.depth];exact wg (wO λd hd=>(h d hd).sP)}
def GC.up{k m:Nat}(h:GC k d)(e:k≤m):GC m d:={h.lay,qg h.sP e}
def f_{k:Nat}(i:Int):GC k (.int i):={U,zd _}
def G8{k:Nat}(b:Bool):GC k (.bool b):={U,zd _}
def Cs{k:Nat}:GC k .none:={U,zd _}
def cf{k:Nat}(h:PyData.strOk z=true):GC k (.str z):={h,zd _}
def cx{k:Nat}:∀d∈([]:List PyData),GC k d:=λ_ h=>nomatch h
def aJ{k:Nat}(h:GC k d)(t:∀d∈ds,GC k d):∀x∈d::ds,GC k x:=List.forall_mem_cons.mpr {h,t}
def GC.self{k:Nat}(h:GC k d):PyData.eqv d d=true:=PySem.SeqAt.eqv_refl d h.lay
abbrev wA(ws:List Str)(j:Nat):Str:=ws.getD j ""
def yY(ws:List Str)(j k:Nat):KD:=.tup [.inr (wA ws j),.inl (k:Int)]
abbrev kD(ws:List Str)(d:Dd):KD:=yY ws d.aB d.num
def Mn(ws:List Str)(d:Dd):PyData:=.tuple [.str (wA ws d.aB),.int d.num]
def sj(ws:List Str)(d:Dd):PyData:=.tuple [.str (wA ws d.aB),.int d.num,.tuple (d.hd.map λ(n:Nat)=>.int (n:Int)),d.br,.tuple d.wt]
def pF(h:ws[j]?=some w):wA ws j=w:=by
 rw[wA,qu,h];rfl
def gV(h:j<ws.length):ws[j]?=some (wA ws j):=by
 rw[wA,qu,qc h];rfl
def ly(h:j<ws.length):wA ws j∈ws:=qk (gV h)
def tL(nd:ws.Nodup){i j k l:Nat}(hi:i<ws.length)(a:j<ws.length)(h:yY ws i k=yY ws j l):i=j/\k=l:=by
 unfold yY at h;injection h with h;injection h with h1 h2;injection h1 with h1;injection h2 with h2;injection h2 with h2;refine{fN nd (gV hi) ?_,()};rw[h1];exact gV a
abbrev e_(H:Hp)(ws:List Str)(v:V)(p:Nat×Nat):Prop:=GK H (yY ws p.1 p.2) v
def dB{k:KD}(s:ab H H')(h:GK H k v):GK H' k v:=by
 cases k with
 |aT=>exact h
 |int i=>exact h
 |tup ks=>obtain⟨b,e,h⟩:=h;exact{b,e,s _ _ h}
 |two ks f=>obtain⟨b,c,d,e,h1,h2,a⟩:=h;exact{b,c,d,e,s _ _ h1,s _ _ h2,s _ _ a}
abbrev nm(d:Dd):Nat×Nat:=(d.aB,d.num)
def e_.dt(h:e_ H ws v (nm d)):DT H v (Mn ws d):=by
 obtain⟨b,rfl,e⟩:=h;exact .tup e (.cons (.str _) (.cons (.int _) .nil))
def ay.dt(h:ay H ws v d):DT H v (sj ws d):=by
 obtain⟨q,w,e,b,x,rfl,hw,a,c,h1,h2⟩:=h;unfold sj;rw[pF hw];refine .tup a (.cons (.str _) (.cons (.int _) (.cons (.tup c ?_) (.cons h1 (.cons h2 .nil)))));have:=L2.bU H (d.hd.map λ(n:Nat)=>(n:Int));rw[zj,zj]at this;exact this
def Gd(ws:List Str)(d:Dd):Prop:=GC 10 (sj ws d)
section
variable {ws:List Str}(hw:∀w∈ws,cm w)
include hw
theorem mi{k:Nat}(h:w∈ws):GC k (.str w):=cf (gM (hw w h))
theorem AR(h:cX ws ds):GC 1 (.tuple ds):=by
 obtain⟨w,n,rfl,a,_⟩:=h;exact .tup (aJ (mi hw a) (aJ (f_ _) cx))
theorem Hv(h:cD ws ds):GC 1 (.tuple ds):=by
 rcases h with rfl|h
 ·exact .tup (aJ (cf ∅) (aJ (f_ _) cx))
 ·exact AR hw h
theorem pH(h:iV ws ds):GC 1 (.tuple ds):=by
 obtain⟨w,n,i,rfl,a,_⟩:=h;exact .tup (aJ (mi hw a) (aJ (f_ _) (aJ (f_ _) cx)))
theorem P8(h:eN ws d):GC 2 d:=by
 obtain⟨ds,z,rfl,h1,h2⟩:=h;refine .tup (aJ (pH hw h1) (aJ (cf ?_) cx));rcases h2 with rfl|rfl <;> decide +kernel
theorem AE:∀c∈("abcdefghijklmnopqrstuvwxyz .,":Str).cps.toList,PyData.strOk {#[c]}=true:=∅
theorem N3(h:eP ws d):GC 2 d:=by
 rcases h with⟨c,rfl,a⟩|⟨z,rfl,hz⟩|⟨ds,rfl,hd⟩
 ·exact cf (AE hw c a)
 ·exact .tup (aJ (cf ∅) (aJ (cf (gM hz)) cx))
 ·exact .tup (aJ (cf ∅) (aJ (Hv hw hd) cx))
theorem u_(a:∀n,P n->GC 1 (.tuple n))(h:vT P d):GC 2 d:=by
 rcases h with rfl|⟨n,rfl,hn⟩
 ·exact Cs
 ·exact(a n hn).up ⋯
theorem JC(h:sI ws d):GC 2 d:=by
 rcases h with rfl|⟨w,z,rfl,hm,hz⟩
 ·exact Cs
 ·exact .tup (aJ (mi hw hm) (aJ (cf (gM hz)) cx))
theorem Oi{g:List PyData}(h:bA ws num g):GC 4 (.tuple g):=by
 have P:∀{p},cD ws p->GC 3 (.tuple p):=λh=>(Hv hw h).up ⋯
 have N:∀{p},cX ws p->GC 3 (.tuple p):=λh=>(AR hw h).up ⋯
 have S:∀{p},eN ws p->GC 3 p:=λh=>(P8 hw h).up ⋯
 have W:∀{z:Str},cm z->GC 3 (.str z):=λh=>cf (gM h)
 cases h with
 |nothing=>exact .tup (aJ (cf ∅) cx)
 |part p h1=>exact .tup (aJ (cf ∅) (aJ (P h1) cx))
 |move n p h1 h2=>exact .tup (aJ (cf ∅) (aJ (N h1) (aJ (P h2) cx)))
 |cut n h1=>exact .tup (aJ (cf ∅) (aJ (N h1) cx))
 |put p b o h1 h2 c e f=>exact .tup (aJ (cf ∅) (aJ (P h1) (aJ ((u_ (ws:=ws) hw (λ_=>pH hw) h2).up ⋯) (aJ (.tup λd hd=>N3 hw (f d hd)) cx))))
 |out p l h1 h2 c e f =>
  refine .tup (aJ (cf ∅) (aJ (P h1) (aJ (.tup λd hd=>?_) cx)));obtain⟨n,hn,rfl⟩:=qf.mp hd;exact(pH hw (e n hn)).up ⋯
 |mark p j i z v h1 h2 c e f =>
  refine .tup (aJ (cf ∅) (aJ (P h1) (aJ (S h2) (aJ (S c) (aJ (W e) (aJ ?_ cx))))));rcases f with rfl|⟨z',rfl,hz⟩
  ·exact Cs
  ·exact W hz
 |note p j i z h1 h2 c e=>exact .tup (aJ (cf ∅) (aJ (P h1) (aJ (S h2) (aJ (S c) (aJ (W e) cx)))))
 |line p z v h1 h2 c=>exact .tup (aJ (cf ∅) (aJ (P h1) (aJ (cf (by rcases h2 with rfl|rfl <;> decide +kernel)) (aJ ((u_ (ws:=ws) hw (λ_=>AR hw) c).up ⋯) cx))))
 |i6 p n h1 h2=>exact .tup (aJ (cf ∅) (aJ (P h1) (aJ (N h2) cx)))
 |cell p a b z h1 h2 c e =>
  refine .tup (aJ (cf ∅) (aJ (P h1) (aJ (N h2) (aJ (N c) (aJ ?_ cx)))));rcases e with rfl|e
  ·exact cf ∅
  ·exact W e
 |leave p w t y h1 h2 c=>exact .tup (aJ (cf ∅) (aJ (P h1) (aJ (mi hw h2) (aJ (cf (by revert t;decide +kernel)) (aJ (G8 _) cx)))))
 |back k n h1 h2 c=>exact .tup (aJ (cf (by rcases h1 with rfl|rfl <;> decide +kernel)) (aJ (f_ _) cx))
 |hL k z h1 h2=>exact .tup (aJ (cf (by rcases h1 with rfl|rfl <;> decide +kernel)) (aJ (W h2) cx))
 |jC m h1 h2 =>
  refine .tup (aJ (cf ∅) (aJ (.tup λd hd=>?_) cx));obtain⟨n,hn,rfl⟩:=qf.mp hd;exact f_ _
theorem HJ(hd:d.aB<ws.length)(h1:sI ws d.br)(h2:bA ws d.num d.wt):Gd ws d:=by
 refine .tup (aJ (mi hw (ly hd)) (aJ (f_ _) (aJ (.tup λx a=>?_) (aJ ((JC hw h1).up ⋯) (aJ ((Oi hw h2).up ⋯) cx)))));obtain⟨n,hn,rfl⟩:=qf.mp a;exact f_ _
theorem t6(hd:d.aB<ws.length):GC 1 (Mn ws d):=.tup (aJ (mi hw (ly hd)) (aJ (f_ _) cx))
end
def TD(H:Hp)(ws:List Str)(kvs:List (KD×V×V))(es:List Dd):Prop:=A2 (λe d=>e.1=kD ws d/\e_ H ws e.2.1 (nm d)/\ay H ws e.2.2 d) kvs es
def TD.same(h:TD H ws kvs es)(s:ab H H'):TD H' ws kvs es:=h.imp λ_ _ _ ⟨a,b,c⟩=>{a,dB s b,c.mono s}
section
variable {H:Hp}{ws:List Str}{kvs:List (KD×V×V)}{es:List Dd}(nd:ws.Nodup)(hw:∀d∈es,d.aB<ws.length)
include nd hw
theorem TD.keys(h:TD H ws kvs es)(u:es.Pairwise λa b=>¬(a.aB=b.aB/\a.num=b.num)):(kvs.map (·.1)).Nodup:=by
 rw[List.Nodup,vi,wk];intro i j hi l f e;obtain⟨a,k,h1,_⟩:=h.at (qc hi);obtain⟨b,g,h2,_⟩:=h.at (qc l);rw[h1,h2]at e
 have d:i<es.length:=by rw[←h.1];exact hi
 have c:j<es.length:=by rw[←h.1];exact l
 rw[qc d]at k;rw[qc c]at g;cases k;cases g;exact wk.mp u i j d c f (tL nd (hw _ (vg d)) (hw _ (vg c)) e)
theorem TD.get(h:TD H ws kvs es)(u:es.Pairwise λa b=>¬(a.aB=b.aB/\a.num=b.num))(hd:d∈es):∃v,vG kvs (kD ws d)=some v/\ay H ws v d:=by
 obtain⟨i,hi,rfl⟩:=zw hd;obtain⟨e,f,h1,h2,c⟩:=h.to (qc hi);exact{e.2.2,DW (h.keys nd hw u) f h1,c}
theorem TD.no(h:TD H ws kvs es){j k:Nat}(c:j<ws.length)(hn:∀d∈es,¬(d.aB=j/\d.num=k)):vG kvs (yY ws j k)=none:=D' λe b z=>by
 obtain⟨i,hi,rfl⟩:=zw b;obtain⟨d,hd,h1,_⟩:=h.at (qc hi);have a:=qk hd;rw[h1]at z;exact hn d a (tL nd (hw d a) c z)
end
def cL(ws:List Str):List (Key×V):=ws.zipIdx.map λp=>(.inr p.1,.int (p.2:Int))
def He(h:j<ws.length):(cL ws)[j]?=some (.inr (wA ws j),.int (j:Int)):=by
 unfold cL;rw[qh,List.getElem?_zipIdx,gV h]
 simp
def GW(nd:ws.Nodup):((cL ws).map (·.1)).Nodup:=by
 unfold cL;rw[zj,show((λ(p:Key×V)=>p.1)∘λ(p:Str×Nat)=>((Sum.inr p.1:Key),V.int (p.2:Int)))=(λz:Str=>(Sum.inr z:Key))∘Prod.fst from rfl,←zj];rw[show(ws.zipIdx.map Prod.fst)=ws from by simp];exact List.Pairwise.map _ (λa b h e=>h (by injection e)) nd
def Hj(nd:ws.Nodup)(h:j<ws.length):cN (cL ws) (.inr (wA ws j))=some (.int (j:Int)):=by
 have a:((Sum.inr (wA ws j):Key),V.int (j:Int))∈cL ws:=qk (He h);have hn:=GW nd;generalize cL ws=l at a hn;unfold cN
 induction l with
 |nil=>cases a
 |cons x r b =>
  rw[qi,zk]at hn;rcases qv.mp a with e|e
  ·subst e;simp
  ·have ne:¬(x.1=(Sum.inr (wA ws j):Key)):=λz=>hn.1 (qf.mpr {_,e,z.symm})
   rw[List.find?_cons_of_neg (by simpa using ne)];exact b e hn.2
def IP(ws:List Str):(cL ws).length=ws.length:=by unfold cL;simp
def F1(a:V):List (Str×V):=cQ "hands" a []
def F2(a b:V):List (Str×V):=cQ "seats" b (F1 a)
def F3(a b c:V):List (Str×V):=cQ "told" c (F2 a b)
def F4(a b c d:V):List (Str×V):=cQ "heights" d (F3 a b c)
def F5(a b c d e:V):List (Str×V):=cQ "sorted_names" e (F4 a b c d)
def F6(a b c d e:V):List (Str×V):=cQ "kept_book" .aT (F5 a b c d e)
theorem mj(f:Str)(v:V):∀fs:List (Str×V),(cQ f v fs).length≤fs.length+1
 |[]=>qb _
 |(k,x)::r=>by
  rw[cQ]
  split
  ·exact ye _
  ·exact wg (mj f v r)
section
variable {a b c d e:V}
def Kd:(F1 a).length≤1:=mj _ _ _
def J7:(F2 a b).length≤2:=qg (mj _ _ _) (wg Kd)
def Jf:(F3 a b c).length≤3:=qg (mj _ _ _) (wg J7)
def L0:(F4 a b c d).length≤4:=qg (mj _ _ _) (wg Jf)
def AM:(F5 a b c d e).length≤5:=qg (mj _ _ _) (wg L0)
def tG:(F3 a b c).lookup ("told":Str)=some c:=by unfold F3;rw[cj,q0 rfl]
def yT:(F3 a b c).lookup ("hands":Str)=some a:=by unfold F3 F2 F1;rw[cj,qt ∅,cj,qt ∅,cj,q0 rfl]
def IY:(F4 a b c d).lookup ("told":Str)=some c:=by unfold F4;rw[cj,qt ∅,tG]
def Hc:(F4 a b c d).lookup ("seats":Str)=some b:=by unfold F4 F3 F2;rw[cj,qt ∅,cj,qt ∅,cj,q0 rfl]
def Km:(F4 a b c d).lookup ("heights":Str)=some d:=by unfold F4;rw[cj,q0 rfl]
def u7(h:m∉(["hands","seats","told","heights"]:List Str)):(F4 a b c d).lookup m=none:=by
 simp only[List.mem_cons,List.not_mem_nil,or_false,not_or]at h
 unfold F4 F3 F2 F1;rw[cj,qt h.2.2.2,cj,qt h.2.2.1,cj,qt h.2.1,cj,qt h.1];rfl
def GV:(F6 a b c d e).lookup ("hands":Str)=some a:=by
 unfold F6 F5 F4;rw[cj,qt ∅,cj,qt ∅,cj,qt ∅,yT]
def LK:(F6 a b c d e).lookup ("seats":Str)=some b:=by
 unfold F6 F5;rw[cj,qt ∅,cj,qt ∅,Hc]
def Js:(F6 a b c d e).lookup ("told":Str)=some c:=by
 unfold F6 F5;rw[cj,qt ∅,cj,qt ∅,IY]
def Om:(F6 a b c d e).lookup ("heights":Str)=some d:=by
 unfold F6 F5;rw[cj,qt ∅,cj,qt ∅,Km]
def Eu:(F6 a b c d e).lookup ("sorted_names":Str)=some e:=by
 unfold F6 F5;rw[cj,qt ∅,cj,q0 rfl]
def vM(h:m∉(["hands","seats","told","heights","sorted_names","kept_book"]:List Str)):(F6 a b c d e).lookup m=none:=by
 simp only[List.mem_cons,List.not_mem_nil,or_false,not_or]at h
 unfold F6 F5;rw[cj,qt h.2.2.2.2.2,cj,qt h.2.2.2.2.1];exact u7 (by simp[h.1,h.2.1,h.2.2.1,h.2.2.2.1])
end
structure Sw(ws:List Str)(hn:Nat->Nat->Nat)(es:List Dd):Prop where
 nd:ws.Nodup
 wh:Wh ws.length es
 hg:HG ws.length es hn
 gd:∀d∈es,Gd ws d
 bR:es.length≤63
theorem Sw.perm{es fs:List Dd}(h:Sw ws hn es)(p:fs.Perm es):Sw ws hn fs :=
 {h.nd,h.wh.perm p,h.hg.sub λd hd=>p.mem_iff.mp hd,λd hd=>h.gd d (p.mem_iff.mp hd),by rw[p.length_eq];exact h.bR}
def HD(ws:List Str)(hn:Nat->Nat->Nat)(es:List Dd)(kvs:List (KD×V×V)):Prop:=∀d∈es,vG kvs (kD ws d)=some (.int (hn d.aB d.num))
def KO(C:Addr)(H:Hp)(x:Addr)(ws:List Str)(hn:Nat->Nat->Nat)(es:List Dd):Prop:=∃dx fs a sp kvs,H x=some (.ins C dx fs)/\fs.lookup ("heights":Str)=some (.ref a)/\fs.lookup ("seats":Str)=some (.ref sp)/\H a=some (.dG kvs)/\HD ws hn es kvs/\H sp=some (.dK (cL ws))
inductive FK(C:Addr)(H:Hp)(x:Addr)(ws:List Str)(hn:Nat->Nat->Nat)(ss:List Dd):Prop
 |mk(dx hp sp tp gp np:Addr)(kvs hvs:List (KD×V×V))(ns:List V)(es:List Dd)(ob:H x=some (.ins C dx (F6 (.ref hp) (.ref sp) (.ref tp) (.ref gp) (.ref np))))(rl:RL H hp ws)(se:H sp=some (.dK (cL ws)))(to:Rd H tp (.dG kvs))(td:TD H ws kvs es)(pe:es.Perm ss)(he:H gp=some (.dG hvs))(hd:HD ws hn ss hvs)(nl:H np=some (.lst ns))(na:A2 (e_ H ws) ns (ss.map nm))(sw:Sw ws hn ss)(up:ss.Pairwise (klt hn))
theorem FK.same(h:FK C H x ws hn b)(s:ab H H'):FK C H' x ws hn b:=by
 obtain⟨dx,k,sp,tp,c,m,kvs,a,e,es,n,l,o,to,td,d,f,hd,i,na,j,up⟩:=h;exact{dx,k,sp,tp,c,m,kvs,a,e,es,s _ _ n,l.mono s,s _ _ o,Rd.same to s,td.same s,d,s _ _ f,hd,s _ _ i,na.imp λ_ _ _ g=>dB s g,j,up}
def FK.ko(h:FK C H x ws hn b):KO C H x ws hn b:=by
 obtain⟨dx,l,sp,tp,c,n,kvs,a,i,es,e,m,f,to,td,g,d,hd,j,na,k,up⟩:=h;exact{dx,_,c,sp,a,e,Om,LK,d,hd,f}
def KO.same(h:KO C H x ws hn es)(s:ab H H'):KO C H' x ws hn es:=by
 obtain⟨dx,fs,a,sp,kvs,h1,h2,d,b,e,c⟩:=h;exact{dx,fs,a,sp,kvs,s _ _ h1,h2,d,s _ _ b,e,s _ _ c}
def Pz{row:List Nat}(W:Wh m ds)(c:kx m ds row)(a:j<m):aK row j≤ds.length:=by
 rw[←Qs W c a];exact qg (j5 _ _) (j5 _ _)
def NZ(W:Wh m ds)(hd:d∈ds)(h:n∈d.hd):n≤ds.length:=by
 obtain⟨i,hi,rfl⟩:=zw h;have:=Pz W (W.past d hd) (j:=i) (by rw[←W.len d hd];exact hi);unfold aK at this;rw[qu,qc hi]at this;exact this
def mE(m:Nat)(a:List Dd):List Nat:=(List.range m).map λj=>(a.filter λd=>decide (d.aB=j)).length
def iJ(H:Hp)(ws:List Str)(hn:Nat->Nat->Nat)(ps:Dd->List Dd)(v:V)(d:Dd):Prop:=∃b c dv f e a,v=.ref b/\H b=some (.tup [c,dv,f,.ref e])/\e_ H ws c (nm d)/\ay H ws dv d/\DT H f (lV hn d)/\H e=some (.lst a)/\A2 (e_ H ws) a ((ps d).map nm)
theorem iJ.same(h:iJ H ws hn ps v d)(s:ab H H'):iJ H' ws hn ps v d:=by
 obtain⟨b,f,dv,j,c,a,e,h1,h2,l,i,m,k⟩:=h;exact{b,f,dv,j,c,a,e,s _ _ h1,dB s h2,l.mono s,i.same s,s _ _ m,k.imp λ_ _ _ g=>dB s g}
def oW(ws:List Str)(hn:Nat->Nat->Nat)(ps:Dd->List Dd)(d:Dd):PyData:=.tuple [Mn ws d,sj ws d,lV hn d,.list ((ps d).map (Mn ws))]
theorem iJ.dv(h:iJ H ws hn ps v d):DV H v (oW ws hn ps d):=by
 obtain⟨b,n,dv,o,m,l,rfl,h1,h2,j,g,k,c⟩:=h;refine .tup (aH.of h1) (.cons (e_.dt h2).dv (.cons (ay.dt j).dv (.cons g.dv (.cons (.lst (aw.of k) (A2.eQ ?_)) .nil))));refine{by rw[c.1,qa,qa],λi x y f a=>?_};rw[qh]at a
 cases e:(ps d)[i]? with
 |none=>rw[e]at a;cases a
 |some z =>
  rw[e]at a;cases a;exact(e_.dt (d:=z) (c.2 i x (nm z) f (by rw[qh,e];rfl))).dv
def x'{ws:List Str}{i:Nat}{x:V}(h:(ws.map V.str)[i]?=some x):i<ws.length/\x=.str (wA ws i):=by
 have hi:=(qw.mp h).1;rw[qa]at hi;rw[qh,gV hi]at h;exact{hi,(qE h).symm}
def CN(h:(bY r)[i]?=some x):i<r.length/\x=.int (aK r i:Nat):=by
 have hi:=(qw.mp h).1;rw[qa]at hi;refine{hi,?_};rw[qh,qc hi]at h;rw[←qE h];unfold aK;rw[qu,qc hi];rfl
def Ec(h:i<r.length):(bY r)[i]?=some (.int (aK r i:Nat)):=by
 unfold aK;rw[qh,qu,qc h];rfl
def Im(row:List Nat)(i:Nat):bx row (i+1)=bx row i++if 0<aK row i then[(i,aK row i)] else[]:=by
 unfold bx;rw[je,List.filter_append,zf]
 by_cases h:0<aK row i
 ·rw[q0 h,show List.filter (λj=>decide (0<aK row j)) [i]=[i] from kh (p:=λj=>decide (0<aK row j)) (qA h)];rfl
 ·rw[qt h,show List.filter (λj=>decide (0<aK row j)) [i]=[] from List.filter_cons_of_neg (p:=λj=>decide (0<aK row j)) (by simpa using h)];rfl
def G3{j k:Nat}(h:H p=some (.tup [.str (wA ws j),.int (k:Int)])):e_ H ws (.ref p) (j,k):={p,U,h}
theorem ay.aB(h:ay H ws v d):d.aB<ws.length:=by
 obtain⟨_,_,_,_,_,_,hw,_⟩:=h;exact(qw.mp hw).1
def ay.out(h:ay H ws v d):∃q a b x,v=.ref q/\H q=some (.tup [.str (wA ws d.aB),.int (d.num:Int),.ref a,b,x])/\H a=some (.tup (bY d.hd)):=by
 obtain⟨q,w,a,b,x,e,hw,c,f,_⟩:=h;exact{q,a,b,x,e,by rw[pF hw];exact c,f}
theorem KI:∀{ys:List V} {kvs:List (Key×V)},A2 (λy e=>∃b,y=.ref b/\H b=some (.tup [kV e.1,e.2])) ys kvs->rL H ys kvs
 |[],[],_=>trivial
 |[],_::_,h=>by cases h.1
 |_::_,[],h=>by cases h.1
 |y::ys,e::es,h=>{h.2 0 y e rfl rfl,KI h.tail}
def F9(h:TD H ws kvs es)(e:H a=some o)(c:∀ys,o≠.tup ys):TD (upd H a o') ws kvs es:=h.imp λ_ _ _ ⟨x,⟨b,d,y⟩,z⟩=>{x,{b,d,by rw[aD (Ab y e c)];exact y},z.wr e c}
def nZ:∀ys,(HO.dG kvs)≠.tup ys:=λ_ z=>by cases z
def TD.put{t v:V}(nd:ws.Nodup)(h:TD H ws kvs es)(hn:e_ H ws t (nm d))(p:ay H ws v d)(u:es.Pairwise λa b=>¬(a.aB=b.aB/\a.num=b.num))(one:∀a∈es,a.aB=d.aB->a.num=d.num->a=d) :
  ∃f,TD H ws (pG kvs (kD ws d) t v) f/\(f.Pairwise λa b=>¬(a.aB=b.aB/\a.num=b.num))/\∀e,e∈f↔e∈es\/e=d:=by
 have hw:∀e∈es,e.aB<ws.length:=λe k=>by
  obtain⟨i,hi,rfl⟩:=zw k;obtain⟨_,_,_,_,x⟩:=h.to (qc hi);exact ay.aB x
 have hd:=ay.aB p;unfold pG
 by_cases q:d∈es
 ·obtain⟨D,n,_⟩:=h.get nd hw u q
  rw[n,q0 (show(some D).isSome=true from rfl)];refine{es,{by rw[qa,h.1],λi x y g A=>?_},u,λe=>{.inl,λz=>z.elim id λz=>by rw[z];exact q}};rw[qh]at g
  cases s:kvs[i]? with
  |none=>rw[s]at g;cases g
  |some c =>
   rw[s]at g;have l:=h.2 i c y s A;have j:x=(if c.1=kD ws d then(c.1,c.2.1,v) else c):=(qE g).symm
   by_cases r:c.1=kD ws d
   ·have m:(if c.1=kD ws d then(c.1,c.2.1,v) else c)=(c.1,c.2.1,v):=q0 r
    have B:=qk A
    have o:y=d:=by
     have:=tL nd (hw y B) hd (l.1.symm.trans r);exact one y B this.1 this.2
    subst o;rw[j,m];exact{l.1,l.2.1,p}
   ·have m:(if c.1=kD ws d then(c.1,c.2.1,v) else c)=c:=qt r
    rw[j,m];exact l
 ·have n:vG kvs (kD ws d)=none:=h.no nd hw hd λe k z=>q (by rw[←one e k z.1 z.2];exact k)
  rw[n,qt ⋯];refine{es++[d],h.snoc {U,hn,p},List.pairwise_append.mpr {u,List.pairwise_singleton _ _,λa w b C z=>?_},λe=>by simp};rw[zb.mp C]at z;exact q (by rw[←one a w z.1 z.2];exact w)
theorem wR{α β:Type}(p:α->Bool)(f:α->β):∀l:List α,(l.filterMap λe=>if p e=true then some (f e) else none)=(l.filter p).map f
 |[]=>rfl
 |a::l=>by
  by_cases h:p a=true
  ·rw[yz (b:=f a) (by rw[q0 h]),kh h,qi,wR p f l]
  ·rw[jw (by rw[qt h]),List.filter_cons_of_neg h,wR p f l]
def Nz{ws:List Str}(nd:ws.Nodup){a:List Dd}(hw:∀d∈a,d.aB<ws.length){j:Nat}(b:j<ws.length):((a.map λe=>PyData.str (wA ws e.aB)).countP λd=>PyData.eqv d (.str (wA ws j)))=(a.filter λd=>decide (d.aB=j)).length:=by
 rw[List.countP_map,←List.countP_eq_length_filter];refine List.countP_congr λd hd=>?_;show PyData.eqv (.str (wA ws d.aB)) (.str (wA ws j))=true↔_;rw[PyData.eqv,beq_iff_eq,decide_eq_true_iff];constructor
 ·intro h
  exact fN nd (gV (hw d hd)) (by rw[h];exact gV b)
 ·rintro rfl
  rfl
def lr(H:Hp)(x:Addr)(o:HO):del (upd H x o) x=del H x:=by
 funext b
 by_cases e:b=x
 ·subst e;rw[i3,i3]
 ·rw[jW e,jW e,aD e]
def jN(H:Hp)(x:Addr):ab (del H x) H:=λb o h=>by
 by_cases e:b=x
 ·subst e;rw[i3]at h;cases h
 ·rwa [jW e]at h
def sA(h:H b=some o)(e:b≠x):(del H x) b=some o:=by rw[jW e];exact h
def Of{es fs:List Dd}(h1:es.Pairwise λa b=>¬(a.aB=b.aB/\a.num=b.num))(h2:fs.Pairwise λa b=>¬(a.aB=b.aB/\a.num=b.num))(h:∀d,d∈es↔d∈fs):es.Perm fs:=by
 have n:∀{l:List Dd},(l.Pairwise λa b=>¬(a.aB=b.aB/\a.num=b.num))->l.Nodup:=λh=>h.imp λ{a b} g e=>g (by rw[e];exact{U,U})
 exact(List.perm_ext_iff_of_nodup (n h1) (n h2)).mpr h
def F8(h:ay H ws v d)(s:ie H H'):ay H' ws v d:=by
 obtain⟨q,w,g,b,x,e,h1,h2,c,a,f⟩:=h;exact{q,w,g,b,x,e,h1,s _ _ h2,s _ _ c,a.bK s,f.bK s}
def m7(h:e_ H ws v p)(s:ie H H'):e_ H' ws v p:=by
 obtain⟨b,e,h⟩:=h;exact{b,e,s _ _ h}
def TD.bK(h:TD H ws kvs es)(s:ie H H'):TD H' ws kvs es:=h.imp λ_ _ _ ⟨a,b,c⟩=>{a,m7 b s,F8 c s}
def Nm(e:H x=some o)(a:∀ys,o≠.tup ys):ie H (del H x):=λb xs h=>by
 rw[jW (DJ h e a)];exact h
def rH(e:H x=some o)(a:∀ys,o≠.tup ys):ie H (upd H x o'):=λb xs h=>by
 rw[aD (DJ h e a)];exact h
def FG{fs:List (Str×V)}:∀ys,(HO.ins C dx fs)≠.tup ys:=λ_ z=>by cases z
def A2.JV{α β γ:Type}{R:α->β->Prop}{f:γ->β}{xs:List α}{zs:List γ}(h:A2 R xs (zs.map f)):A2 (λx z=>R x (f z)) xs zs:={by rw[h.1,qa],λi x z a b=>h.2 i x (f z) a (by rw[qh,b];rfl)}
def ID(h1:H y=none)(h2:H a=none):ab H (del (upd (upd H a o1) y o2) y):=λb o h=>by
 have n1:b≠y:=cg h h1;rw[jW n1,aD n1,aD (cg h h2)];exact h
def FK.Rc(h:FK C H x ws hn a):a.Pairwise (klt hn):=by
 obtain⟨_,_,_,_,_,_,_,_,_,_,_,_,_,_,_,_,_,_,_,_,_,up⟩:=h;exact up
def FK.RX(h:FK C H x ws hn a):Sw ws hn a:=by
 obtain⟨_,_,_,_,_,_,_,_,_,_,_,_,_,_,_,_,_,_,_,_,b,_⟩:=h;exact b
def FK.obj(h:FK C H x ws hn c):∃dx fs,H x=some (.ins C dx fs)/\∀m:Str,m∉(["hands","seats","told","heights","sorted_names","kept_book"]:List Str)->fs.lookup m=none:=by
 obtain⟨dx,_,_,_,_,_,_,_,_,_,a,_⟩:=h;exact{dx,_,a,λm b=>vM b}
def AO(hw:∀w∈ws,cm w)(hd:d.aB<ws.length)(g:Gd ws d)(b:∀e∈ps d,e.aB<ws.length):GC 12 (oW ws hn ps d):=by
 refine .tup (aJ ((t6 hw hd).up ⋯) (aJ (g.up ⋯) (aJ (.tup (aJ (f_ _) (aJ (f_ _) cx))) (aJ ((GC.lst (k:=1) λx a=>?_).up ⋯) cx))));obtain⟨e,c,rfl⟩:=qf.mp a;exact t6 hw (b e c)
def N5(c:List Nat):KeysAre (c.map λ(n:Nat)=>.int (n:Int)) 0:=by
 have all:∀d∈c.map (λ(n:Nat)=>PyData.int (n:Int)),∃i,d=.int i:=λd hd=>by
  obtain⟨n,_,rfl⟩:=qf.mp hd;exact{_,U}
 refine{kW λd hd=>?_,λd hd=>?_,λa f b e=>?_,λd hd=>?_}
 ·obtain⟨i,rfl⟩:=all d hd;rfl
 ·obtain⟨i,rfl⟩:=all d hd;exact trivial
 ·obtain⟨i,rfl⟩:=all a f;obtain⟨j,rfl⟩:=all b e;rfl
 ·obtain⟨i,rfl⟩:=all d hd;exact zd _
def Qr(hn:Nat->Nat->Nat)(es:List Dd):KeysAre (es.map (lV hn)) 2:=by
 have all:∀d∈es.map (lV hn),∃i j,d=.tuple [.int i,.int j]:=λd hd=>by
  obtain⟨n,_,rfl⟩:=qf.mp hd;exact{_,_,U}
 refine{kW λd hd=>?_,λd hd=>?_,λa e b c=>?_,λd hd=>?_}
 ·obtain⟨i,j,rfl⟩:=all d hd;rfl
 ·obtain⟨i,j,rfl⟩:=all d hd;exact trivial
 ·obtain⟨i,j,rfl⟩:=all a e;obtain⟨k,l,rfl⟩:=all b c;rfl
 ·obtain⟨i,j,rfl⟩:=all d hd;exact qz rfl
def OD{ix:List Nat}(b:ix.Perm (List.range es.length))(a:Dd):(ix.map λi=>es.getD i a).Perm es:=by
 refine(b.map _).trans (.of_eq ?_);apply wm;intro i;rw[qh]
 by_cases hi:i<es.length
 ·rw[yn hi,qc hi]
  show some (es.getD i a)=_;rw[qu,qc hi];rfl
 ·rw[List.getElem?_eq_none (by simpa using hi),List.getElem?_eq_none (by simpa using hi)];rfl
def Qw{es:List Dd}{ix:List Nat}(f:fS (es.map λd=>PyData.int (d.hd.sum:Nat)) ix)(e:Dd):(ix.map λi=>es.getD i e).Perm es/\(ix.map λi=>es.getD i e).Pairwise λa b=>a.hd.sum≤b.hd.sum:=by
 obtain⟨g,p2⟩:=f;rw[qa]at g;refine{OD g e,?_};rw[vi]at p2 ⊢;refine p2.imp_of_mem λ{a b} k j c=>?_
 have h:∀i,i∈ix->dq (es.map λd=>PyData.int (d.hd.sum:Nat)) i=.int ((es.getD i e).hd.sum:Nat):=λi hi=>by
  have:i<es.length:=zy.mp (g.mem_iff.mp hi);unfold dq;rw[qu,qh,qu,qc this];rfl
 rw[h a k,h b j,cH]at c;have:=of_decide_eq_false c;omega
open Classical in
noncomputable def ll(H:Hp)(S:Addr->Prop):Hp:=λb=>if S b then none else H b
def k_{S:Addr->Prop}(h:H b=some o)(n:¬S b):ll H S b=some o:=by
 unfold ll;rw[qt n];exact h
def Ny{S:Addr->Prop}:ab (ll H S) H:=λb o h=>by
 unfold ll at h
 by_cases e:S b
 ·rw[q0 e]at h;cases h
 ·rw[qt e]at h;exact h
def FK.all(h:∀S:Addr->Prop,(∀b,S b->False)->FK C (ll H S) x ws hn a):FK C H x ws hn a:=(h (λ_=>False) λ_ z=>z).same Ny
inductive xP(vs:List V)(H:Hp)(Q:VK)(_:XK):Prop
 |mk(v ws d:_)(_:vs=[v])(_:ay H ws v d)(_:∀H' nv,ab H H'->e_ H' ws nv (nm d)->Q nv H')
inductive AY(vs:List V)(H:Hp)(Q:VK)(_:XK):Prop
 |mk(dp des ws fs:_)(_:vs=[.ref dp])(_:H dp=some (.lst des))(_:A2 (ay H ws) des fs)(_:ws.Nodup)(_:(∀d∈fs,Gd ws d))(_:fs.length≤1000)(_:(∀a∈fs,∀b∈fs,a.aB=b.aB->a.num=b.num->a=b))(_:∀H' t kvs es,ab H H'->H t=none->H' t=some (.dG kvs)->TD H' ws kvs es->(es.Pairwise λa b=>¬(a.aB=b.aB/\a.num=b.num))->(∀d,d∈es↔d∈fs)->Q (.ref t) H')
inductive Aj(vs:List V)(H:Hp)(Q:VK)(_:XK):Prop
 |mk(rp v ws d:_)(_:vs=[.ref rp,v])(_:RL H rp ws)(_:ay H ws v d)(_:d.hd.length=ws.length)(_:∀H' p ns,ab H H'->H p=none->H' p=some (.lst ns)->A2 (e_ H' ws) ns (bx d.hd ws.length)->Q (.ref p) H')
inductive C9(vs:List V)(H:Hp)(Q:VK)(_:XK):Prop
 |mk(v u ws d e:_)(_:vs=[v,u])(_:ay H ws v d)(_:ay H ws u e)(_:d.hd.length≤1000)(_:e.hd.length=d.hd.length)(_:∀H' b,ab H H'->(b=true↔∀i,i<d.hd.length->aK e.hd i≤aK d.hd i)->Q (.bl b) H')
inductive xh(vs:List V)(H:Hp)(Q:VK)(_:XK):Prop
 |mk(rp tp v ws d es kvs:_)(_:vs=[.ref rp,.ref tp,v])(_:RL H rp ws)(_:Rd H tp (.dG kvs))(_:TD H ws kvs es)(_:ws.Nodup)(_:Wh ws.length es)(_:ay H ws v d)(_:d∈es)(_:∀H',ab H H'->Q .aT H')
inductive yN(vs:List V)(H:Hp)(Q:VK)(_:XK):Prop
 |mk(v ws d:_)(_:vs=[v])(_:ay H ws v d)(_:d.hd.length≤6)(_:(∀n∈d.hd,n≤1000))(_:Q (.int (d.hd.sum:Nat)) H)
inductive EZ(vs:List V)(H:Hp)(Q:VK)(_:XK):Prop
 |mk(rp tp ws hn es kvs:_)(_:vs=[.ref rp,.ref tp])(_:RL H rp ws)(_:Rd H tp (.dG kvs))(_:TD H ws kvs es)(_:Sw ws hn es)(_:∀H' g hvs,ab H H'->H g=none->H' g=some (.dG hvs)->HD ws hn es hvs->Q (.ref g) H')
inductive Es(vs:List V)(H:Hp)(Q:VK)(_:XK):Prop
 |mk(rp ws:_)(_:vs=[.ref rp])(_:RL H rp ws)(_:ws.Nodup)(_:∀H' s,ab H H'->H s=none->H' s=some (.dK (cL ws))->Q (.ref s) H')
inductive Cm(cF:Addr)(vs:List V)(H:Hp)(Q:VK)(_:XK):Prop
 |mk(x dx rp dp ws hn des fs es:_)(_:vs=[.ref x,.ref rp,.ref dp])(_:H x=some (.ins cF dx []))(_:RL (del H x) rp ws)(_:(del H x) dp=some (.lst des))(_:A2 (ay (del H x) ws) des fs)(_:Sw ws hn es)(_:(∀d,d∈es↔d∈fs))(_:fs.length≤1000)(_:∀H' ss,ab (del H x) H'->ss.Perm es->(∀S:Addr->Prop,(∀b,S b->∃o,(del H x) b=some o/\∀ys,o≠.tup ys)->FK cF (ll H' S) x ws hn ss)->Q .aT H')
inductive EV(cF:Addr)(vs:List V)(H:Hp)(Q:VK)(_:XK):Prop
 |mk(x ws hn ss:_)(_:vs=[.ref x])(_:FK cF H x ws hn ss)(_:∀H' p,ab H H'->H p=none->RL H' p ws->Q (.ref p) H')
inductive Ds(cF:Addr)(vs:List V)(H:Hp)(Q:VK)(_:XK):Prop
 |mk(x ws hn ss:_)(_:vs=[.ref x])(_:FK cF H x ws hn ss)(_:∀H' p ns,ab H H'->H p=none->H' p=some (.lst ns)->A2 (e_ H' ws) ns (ss.map nm)->Q (.ref p) H')
inductive ET(cF:Addr)(vs:List V)(H:Hp)(Q:VK)(_:XK):Prop
 |mk(x ws hn ss:_)(_:vs=[.ref x])(_:FK cF H x ws hn ss)(_:∀H' p,ab H H'->H p=none->H' p=some (.tup (bY (mE ws.length ss)))->Q (.ref p) H')
inductive y4(cF:Addr)(vs:List V)(H:Hp)(Q:VK)(_:XK):Prop
 |mk(x v ws hn ss d:_)(_:vs=[.ref x,v])(_:FK cF H x ws hn ss)(_:e_ H ws v (nm d))(_:d∈ss)(_:∀u,ay H ws u d->Q u H)
inductive zE(cF:Addr)(vs:List V)(H:Hp)(Q:VK)(_:XK):Prop
 |mk(x v ws hn es d:_)(_:vs=[.ref x,v])(_:KO cF H x ws hn es)(_:e_ H ws v (nm d))(_:d∈es)(_:d.aB<ws.length)(_:ws.Nodup)(_:∀H' kv,ab H H'->DT H' kv (lV hn d)->Q kv H')
inductive DZ(cF:Addr)(vs:List V)(H:Hp)(Q:VK)(_:XK):Prop
 |mk(x v ws hn ss d:_)(_:vs=[.ref x,v])(_:FK cF H x ws hn ss)(_:e_ H ws v (nm d))(_:d∈ss)(_:∀H' p ns,ab H H'->H p=none->H' p=some (.lst ns)->A2 (e_ H' ws) ns ((ss.filter (mJ d.hd)).map nm)->Q (.ref p) H')
inductive wZ(cF:Addr)(vs:List V)(H:Hp)(Q:VK)(_:XK):Prop
 |mk(x cp ws hn ss row:_)(_:vs=[.ref x,.ref cp])(_:FK cF H x ws hn ss)(_:H cp=some (.tup (bY row)))(_:row.length=ws.length)(_:∀H' p ns,ab H H'->H p=none->H' p=some (.lst ns)->A2 (e_ H' ws) ns ((ss.filter (mJ row)).map nm)->Q (.ref p) H')
section
variable {K:PySem.W.Frag}{cF:Addr}{vs:List V}{H:Hp}{Q:VK}{E:XK}
end
end My
namespace L2
open PySem PySem.Spec PySem.W PyProof.Rows
section
variable {P:Program}{w:World}{A:Around}{R:Result->Shared->Prop}{s:Shared}{E:Value->Shared->Prop}
def tR(P:Program)(w:World)(h:Heap)(a:Addr)(zs:List Str):Prop:=h.SetOf (strKind P w) a (λk=>decide (k∈zs)) zs.length
def Rk(items:Array Value)(zs:List Str):Prop:=items.size=zs.length/\∀(i:Nat) v z,items[i]?=some v->zs[i]?=some z->∃t,v=.str z t
def tR.move(x:tR P w h a zs)(b:∀o,h.get? a=some o->h'.get? a=some o):tR P w h' a zs:=by
 obtain⟨o,es,ep,t,h1,h2⟩:=x;exact{o,es,ep,t,b _ h1,h2}
def Ph{I S l:Addr}(Z:A.in1.handled=none)(D:l≠I)(B:S≠l)(n:S≠I)(E:zs.Nodup)(hn:zs.length≤1000) :
  ∀(k i:Nat) (s:Shared),zs.length - i=k->i≤zs.length->s.heap.IsListIter I l i->s.heap.IsList l items->Rk items zs->tR P w s.heap S (zs.take i) →
   (∀h' tk,(∀b o,b≠S->b≠I->s.heap.get? b=some o->h'.get? b=some o)->tR P w h' S zs->R (.ok (.ret .none)) { s with heap:=h',toks:=tk }) →
   codeAny (model P w) A (.builtin "set.update.loop" {[.ref S,.ref I],[]}) R s:=by
 have W:=Walks.list (prog:=P) (w:=w) (A:=A.in1) Z I l D items;intro k
 induction k with
 |zero =>
  intro i s Y hi a y f r Q
  have J:i=zs.length:=()
  subst J;refine codeAny_builtin F.entry_set_update_loop ?_;rw[Around.under_plainId F.plain_set_update_loop _];show wpAny _ A.in1 (pyNext (.ref I) >>= _) _ _ s;refine qq (W.done s _ _ {by rw[f.1];exact a,y} λh' tk d=>?_);show wpAny _ A.in1 (ret Value.none) _ _ _;rw[zn]at r;obtain⟨oi,ei,ci,X⟩:=id a;refine qs (Q h' tk (λb o _ nI e=>d b o (by simpa using nI) e) (r.move λo e=>d S o (by simpa using n) e))
 |succ k ih =>
  intro i s Y hi a y f r Q
  have g:i<zs.length:=()
  refine codeAny_builtin F.entry_set_update_loop ?_;rw[Around.under_plainId F.plain_set_update_loop _];show wpAny _ A.in1 (pyNext (.ref I) >>= _) _ _ s;refine qq (W.item i s _ _ (by rw[f.1];exact g) {a,y} λv h' tk hP m d=>?_);have p:zs[i]?=some zs[i]:=qc g;obtain⟨oi,ei,ci,X⟩:=id a
  have G:=r.move λo e=>d S o (by simpa using n) e
  obtain⟨V,rfl⟩:=f.2 i v _ hP p;show wpAny _ A.in1 (holding [Value.str zs[i] V] (setAdd S (.str zs[i] V)) >>= _) _ _ _;refine qq (qG ?_);unfold setAdd;refine qG ?_;refine qq ((strKind P w).pyHash (k:=zs[i]) (strKind_is _ _ _ _) ?_)
  have q:zs[i]∉zs.take i:=λz=>by
   obtain⟨j,hj,e⟩:=zw z;rw[zq]at hj;rw[gz]at e;have:=(wk.mp E) j i () g ();exact this e
  have U:zs.take (i+1)=zs.take i++[zs[i]]:=by rw[zo,p];rfl
  have hf:decide (zs[i]∈zs.take i)=false:=decide_eq_false q;refine wpAny_setAddHashed_of (knd:=strKind P w) (s:={ s with heap:=h',toks:=_ }) (strKind_is _ _ _ _) rfl G (by rw[zq];unfold scanBound;omega) λh2 sb h=>?_;have h:tR P w h2 S (zs.take i++[zs[i]]):=SetOf_congr h (λk=>by rw[wn,Bool.or_eq_true,decide_eq_true_eq,decide_eq_true_eq,decide_eq_true_eq,qy,zb]) (by rw[hf,qm];rfl);rw[←U]at h;have k2:∀c o,c≠S->h'.get? c=some o->h2.get? c=some o:=λc o nc e=>(sb.2 c nc).trans e;obtain⟨C,t,N,O⟩:=m.1;obtain⟨x,K,L,H,M⟩:=m.2;refine qs {plainId_quiet F.plain_set_update_loop _,ih (i+1) _ () g {C,k2 _ _ (Ne.symm n) t,N,O} {x,k2 _ _ (Ne.symm B) K,L,H,M} f h λh3 T kp u=>?_};exact Q h3 T (λc o n1 n2 e=>kp c o n1 n2 (k2 c o n1 (d c o (by simpa using n2) e))) u
end
section
variable {prog:Program}{w:World}{A:Around}{E:Value->Shared->Prop}{s:Shared}
def M0(hh:A.handled=none)(V:s.heap.IsList l items)(C:Rk items zs)(z:zs.Nodup)(hn:zs.length≤1000)(h:∀(h':Heap) (tk:Nat),tR prog w h' ↑s zs->(∀b o,b<↑s->s.heap.get? b=some o->h'.get? b=some o)->Q (.ref ↑s) { s with heap:=h',toks:=tk }) :
  wpAny (model prog w) A (call (.type "set") [.ref l]) Q E s:=by
 obtain⟨c,tl,T⟩:=F.called_set.mro;have B:=F.called_set.made;have H:=F.called_set.sub;refine wpAny_call (codeAny_of_tree ?_);show wpAny _ _ (callAny (.type "set") _) _ _ _;refine qs {Code.quiet_builtin _ ∅,codeAny_builtin F.entry_type_call ?_};rw[Around.under_plain (weight_type_call_type "set" [.ref l] []) rfl];have h1:=F.called_set.notType;have h2:=F.called_set.canCreate;have Z:=F.typeCall_set_1 (.ref l)
 repeat (any_goals (first|assumption|wp_step))
 refine codeAny_mono (code_set_new_1 (.ref l) (E:=E) (Q₁:=λobj g=>∃led:Bool,obj=.ref ↑s/\g={ s with heap:=s.heap.push { cls:=.type "set",dict:=none,data:=.set #[] 0 (.fresh 0 0 led) } }) λled=>{led,U,U}) λr g x=>?_
 cases r with
 |error e=>exact x
 |ok fl =>
  cases fl with
  |ret obj =>
   obtain⟨led,rfl,rfl⟩:=x;have M:(s.heap.push { cls:=.type "set",dict:=none,data:=.set #[] 0 (.fresh 0 0 led) }).get? ↑s=some { cls:=.type "set",dict:=none,data:=.set #[] 0 (.fresh 0 0 led) }:=qD _ rfl;have W:Shared.TypeIs { s with heap:=s.heap.push { cls:=.type "set",dict:=none,data:=.set #[] 0 (.fresh 0 0 led) } } (.ref ↑s) "set":={_,M,U};have hlk:=F.called_set.init.lookup;have hbi:=F.called_set.init.bind (.ref ↑s)
   repeat (any_goals (first|assumption|wp_step))
   refine codeAny_mono (codeAny_call_builtin (R:=wants (λr f=>r=.none/\∃h' tk,f={ s with heap:=h',toks:=tk }/\tR prog w h' ↑s zs/\(∀b o,b<↑s->s.heap.get? b=some o->h'.get? b=some o)) E) F.called_set.init.plain F.entry_set_init (check_set_init_1 W ?_)) λp f a=>?_
   ·obtain⟨Y,u,q,J,t⟩:=V
    obtain⟨O,k,D,d⟩:=Y
    simp only at q t
    subst q;subst t;have v:(s.heap.push { cls:=.type "set",dict:=none,data:=.set #[] 0 (.fresh 0 0 led) }).get? l=some { cls:=.type "list",dict:=k,data:=.seq items J,slots:=d }:=qC _ u;have K:=F.sub_list_set;have L:=F.sub_list_frozenset
    have hne:(Value.type "list"==Value.type "dict")=false:=⋯
    have n:(s.heap.push { cls:=.type "set",dict:=none,data:=.set #[] 0 (.fresh 0 0 led) }).IsList l items:={_,v,U,J,U};unfold Builtin.«set.__init__» noKeywords Builtin.Frozenset.updateFrom;generalize G:pyIter=PI
    wp_walk
    subst G;refine wpAny_pyIter_list n ?_;refine qq (wpAny_runValue ?_);have m:l<↑s:=qB u;have hsz:(s.heap.push { cls:=.type "set",dict:=none,data:=.set #[] 0 (.fresh 0 0 led) }).objs.size=↑s+1:=Heap.size_push ..;rw[hsz];have X:((s.heap.push { cls:=.type "set",dict:=none,data:=.set #[] 0 (.fresh 0 0 led) }).push { cls:=.type "list_iterator",data:=.fields #[.ref l,.int 0 0] }).get? ↑s=some { cls:=.type "set",dict:=none,data:=.set #[] 0 (.fresh 0 0 led) }:=qC _ M;have k0:∀b o,s.heap.get? b=some o->((s.heap.push { cls:=.type "set",dict:=none,data:=.set #[] 0 (.fresh 0 0 led) }).push { cls:=.type "list_iterator",data:=.fields #[.ref l,.int 0 0] }).get? b=some o:=λb o e=>qC _ (qC _ e);have hI:((s.heap.push { cls:=.type "set",dict:=none,data:=.set #[] 0 (.fresh 0 0 led) }).push { cls:=.type "list_iterator",data:=.fields #[.ref l,.int 0 0] }).IsListIter (↑s+1) l 0:={_,by rw[←hsz];exact qD _ rfl,U,U};refine Ph (P:=prog) (w:=w) (A:=A.in1.in1) (I:=↑s+1) (S:=↑s) (l:=l) (items:=items) (zs:=zs) (by simp[hh]) (Nat.ne_of_lt (Nat.lt_succ_of_lt m)) (Nat.ne_of_gt m) (Nat.ne_of_lt (Nat.lt_succ_self _)) z hn (zs.length - 0) 0 _ rfl (Nat.zero_le _) hI (n.push _) C ?_ ?_
    ·exact SetOf_congr ((setObjOf_fresh (knd:=strKind prog w) led).setOf X (by unfold scanBound;omega)) (λ_=>by simp) rfl
    ·intro h' tk kp j
     refine qs ?_;show wpAny _ _ (ret Value.none) _ _ _;refine qs {U,h',tk,U,j,λb o N e=>?_};exact kp b o (qd N) (qd (zr N)) (k0 b o e)
   ·cases p with
    |error e=>exact a
    |ok i =>
     cases i with
     |ret r =>
      obtain⟨rfl,h',tk,rfl,j,y⟩:=a
      repeat (any_goals (first|assumption|wp_step))
      exact h _ _ j y
     |_=>exact a.elim
  |_=>exact x.elim
end
inductive GB(xs:List V)(H:Hp)(Q:VK):Prop
 |mk(p:Addr)(ys:List V)(zs:List Str)(_:xs=[.ref p])(_:aw H p ys)(_:ys=zs.map V.str)(_:zs.Nodup)(_:zs.length≤1000)(_:∀q H',H q=none->ab H H'->H' q=some (j0 q zs.length)->Q (.ref q) H')
section
variable {X:Cx}
def Q5(A:X.calm=true):bj X (.type "set") (GB):=by
 intro pins s σ H xs us Q I r h;obtain⟨p,ys,zs,rfl,B,rfl,l,hn,q⟩:=h;obtain⟨u,rfl,C⟩:=vals1 r;cases C;obtain⟨y,w,pl,hz⟩:=I.list B;have c:=w.length;rw[qa]at c;refine M0 (zs:=zs) (I.ok.hd A) pl.isList {by rw[qx,←c],λi v z n K=>?_} l hn λh' tk E kp=>?_
 ·rw[y7]at n
  obtain⟨M,d,f⟩:=w.get (i:=i) (x:=.str z) (by rw[qh,K];rfl);rw[n]at d;cases d;exact f
 ·obtain⟨o,es,ep,t,h1,h2,F,_,_,_,D,m⟩:=E
  have hf:=I.a6.fresh (a:=↑s) (qb _);refine{.ref ↑s,upd H ↑s (j0 ↑s zs.length),?_,U,q _ _ hf (ab.new hf) aG};refine I.laid (t':=tk) (h':=h') (o:=j0 ↑s zs.length) (λb u e=>kp b u (qB e) e) (qb _) {{o,es,ep,t,h1,h2,F,m,by rw[←m];exact D},{o,h1},λL N x k=>?_};obtain⟨o',g,j,t',G,J⟩:=x;exact{o',g,j,t',k _ G,J}
end
def fM(o:Obj)(xs:List V):Bool:=match o with
 |⟨.type t,none,.seq its _,_⟩=>t=="tuple"&&decide (its.toList.map ej=xs.map some)
 |_=>false
def uf(K:PySem.W.Frag)(c:Addr×List V):Bool:=match K.lookup c.1 with
 |some o=>fM o c.2&&Nat.ble c.2.length 1000
 |none=>false
def NM(h:ej u=some x):RelV x u:=by
 cases u <;> simp only[ej,Option.some.injEq,reduceCtorEq]at h <;> subst h <;> first|rfl|exact⟨_,U⟩
theorem HF:∀{us:List Value} {xs:List V},us.map ej=xs.map some->aA xs us
 |[],[],_=>.nil
 |u::us,x::xs,h=>by
  rw[qi,qi]at h;injection h with h1 h2;exact .cons (NM h1) (HF h2)
def NA(e:h.get? b=some o)(t:fM o xs=true)(g:xs.length≤sizeLine):aQ P w H h b (.tup xs):=by
 obtain⟨c,d,dt,i⟩:=o;unfold fM at t
 cases c <;> cases d <;> cases dt <;> first|exact absurd t qp|skip
 rename_i ty a n
 have t:(ty=="tuple"&&decide (a.toList.map ej=xs.map some))=true:=t;rw[ze]at t
 have f:ty = "tuple":=by simpa using t.1
 subst f;exact{g,a.toList,HF (qF t.2),_,e,U,n,by simp}
def Ov{P:Program}{w:World}{K:PySem.W.Frag}{mg mb:Str->Option Value}{CX:qY}{k:Nat}{fa a:Addr}{fd:FuncData}{x:Str}{sp:Sp}{c:Shared}{vs:List Value}{ns:List Int}{Ps:List Addr}{M:Addr->Option (List V)}(KX:K.In c.heap)(hns:c.heap.Ns mainGlobals mg)(i:c.heap.Ns builtinsNs mb)(hbb:∀x:Str,x≠"__name__"->mb x=bootBuiltins x)(Z:c.heap.NoLimit)(hg:c.gens=#[])(hnt:noTabs K=true)(hnl:nO K=true)(A:∀Q∈Ps,c.heap.get? Q=some (tabObj #[])/\isCodeTable c.heap Q)(hbm:∀Q∈Ps,c.heap.BuiltinsAt mg Q)(R:∀b xs,M b=some xs->∃o,K.lookup b=some o/\fM o xs=true/\xs.length≤sizeLine)(X:c.heap.get? a=some { cls:=.type "list",data:=.seq vs.toArray })(hi:IntsAre vs ns)(hl:ns.length≤sizeLine)(hr:aZ k callerA)(F:∀base:Heap,K.In base->base.Ns mainGlobals mg->(∀Q∈Ps,base.BuiltinsAt mg Q)->cE P w K mg base CX k fa fd [x] sp)(L:∀(s:Shared) (u:Value),BindsTo s fd {[u],[]} [(x,u)])(hsp:∀H:Hp,oD Ps M H->aw H a (ns.map V.int)->sp [.ref a] H (λv _=>v=.bl true) λ_ _ _=>False)(hCX:∀H e s',CX [] H c (λ_ _ _=>False) e s'->False) :
  codeAny (model P w) callerA (.call (.ref fa) {[.ref a],[]}) (λr s'=>r=.ok (.ret (.bool true))/\OldK c.heap s'.heap/\s'.os=c.os/\AllBare s'.gens) c:=by
 have rv:=Ir hi;have lenV:=hi.length
 have naP:a∉Ps:=λz=>by
  have:=(A a z).1;rw[X]at this;cases this
 have kP:∀Q∈Ps,K.lookup Q=none:=λQ hQ=>by
  cases q:K.lookup Q with
  |none=>rfl
  |some o =>
   have e:=KX Q o q;rw[(A Q hQ).1]at e;cases e;have h2:=zm.mp hnt (Q,_) (mem_of_lookupK q);exact absurd (show false=true from h2) qp
 have mP:∀b xs,M b=some xs->b∉Ps:=λb xs e z=>by
  obtain⟨o,h1,_⟩:=R b xs e;rw[kP b z]at h1;cases h1
 have ma:M a=none:=by
  cases q:M a with
  |none=>rfl
  |some xs =>
   obtain⟨o,h1,h2,_⟩:=R a xs q;have e:=KX a o h1;rw[X]at e;cases e;have h2:(("list"=="tuple")&&decide (vs.toArray.toList.map ej=xs.map some))=true:=h2;rw[ze]at h2;exact absurd h2.1 ⋯
 have Y:∀H:Hp,oD Ps M H->aw H a (ns.map V.int)->dm P w H c.heap->(∀b,H b≠none->b=a\/b∈Ps\/∃xs,M b=some xs)->(H a≠none->K.lookup a=none) →
   codeAny (model P w) callerA (.call (.ref fa) {[.ref a],[]}) (λr s'=>r=.ok (.ret (.bool true))/\OldK c.heap s'.heap/\s'.os=c.os/\AllBare s'.gens) c:=by
  intro H hO hS N hA hK
  let H0:Hp:=λb=>if(M b).isSome=true then none else H b
  have S:∀b,H b=none->H0 b=none:=λb e=>by
   show(if(M b).isSome=true then none else H b)=none
   split
   ·rfl
   ·exact e
  have H0m:∀b xs,M b=some xs->H0 b=none:=λb xs e=>by
   show(if(M b).isSome=true then none else H b)=none;rw[e];rfl
  have f:∀{b:Addr} {o:Obj},c.heap.get? b=some o->H0 b=none->(hB c.heap H0).get? b=some o:=λe n=>Nf e n
  have none_of:∀{b:Addr} {o:Obj},c.heap.get? b=some o->(∀xs y,o.data≠.seq xs y)->o.data≠.fields #[]->H b=none:=λ{b o} e d1 d2=>by
   cases q:H b with
   |none=>rfl
   |some u =>
    rcases hA b (by rw[q];simp) with e' |e' |⟨xs,e'⟩
    ·subst e'
     rw[X]at e;cases e;exact absurd rfl (d1 _ _)
    ·rw[(A b e').1]at e;cases e
     exact absurd rfl d2
    ·rcases hO b with⟨_,z⟩|⟨_,ys,_,z⟩|⟨_,z,_⟩
     ·exact absurd (by assumption) (mP b xs e')
     ·obtain⟨_,its,_,o',ho',_,n,hd'⟩:=(show aQ P w H c.heap b (.tup ys) from N b _ z)
      rw[e]at ho';cases ho';exact absurd hd' (d1 _ _)
     ·rw[e']at z;cases z
  have D:∀{b:Addr} {m:Str->Option Value},c.heap.Ns b m->(hB c.heap H0).Ns b m:=λ{b m} ⟨o,es,ep,e,d,r⟩=>{o,es,ep,f e (S _ (none_of e (λxs y z=>by rw[d]at z;cases z) (λz=>by rw[d]at z;cases z))),d,r}
  have hKb:K.In (hB c.heap H0):=λb o e=>f (KX b o e) (by
   cases q:H b with
   |none=>exact S b q
   |some u =>
    rcases hA b (by rw[q];simp) with e' |e' |⟨xs,e'⟩
    ·subst e'
     rw[hK (by rw[q];simp)]at e;cases e
    ·rw[kP b e']at e;cases e
    ·exact H0m b xs e')
  have hBb:∀Q∈Ps,(hB c.heap H0).BuiltinsAt mg Q:=λQ hQ=>by
   obtain⟨bm,ob,b1,b2,b3,b4,b5,b6,b7,b8⟩:=hbm Q hQ;exact{bm,ob,b1,b2,b3,b4,f b5 (S _ (none_of b5 (λxs y z=>by rw[b8]at z;cases z) (λz=>by rw[b8]at z;cases z))),b6,b7,b8}
  have hM:Mod K mg (hB c.heap H0):={hKb,D hns,{mb,D i,hbb},let⟨mc,h1,h2⟩:=Z;{mc,D h1,h2}}
  have hbs:∀b o,(hB c.heap H0).get? b=some o->c.heap.get? b=some o/\(H b=none\/∃xs,H b=some (.tup xs)):=λb o e=>by
   obtain⟨h1,h2⟩:=PP e;refine{h1,?_};rcases hO b with⟨G,z⟩|⟨_,xs,_,z⟩|⟨_,z,_⟩
   ·have C:(if(M b).isSome=true then none else H b)=none:=h2
    have mb:M b=none:=by
     cases q:M b with
     |none=>rfl
     |some xs=>exact absurd G (mP b xs q)
    rw[mb,qt ⋯,z]at C;cases C
   ·exact .inr {xs,z}
   ·have C:(if(M b).isSome=true then none else H b)=none:=h2
    rw[z,qt ⋯]at C;exact .inl C
  have e0:ik P w K mg (hB c.heap H0) callerA [] c H:={U,hM,hbs,Nat.le_of_eq (Qm _ _),trivial,λb i=>absurd (show b∈([]:List Addr) from i) (by simp),N,.of_eq hg};refine codeAny_mono ((F _ hKb (D hns) hBb).run callerA [] c H {[.ref a],[]} [.ref a] [.ref a] _ _ hr e0 (L c (.ref a)) (.cons rfl .nil) (hsp H hO hS)) λr s' h=>?_
  cases r with
  |error e=>exact(hCX H e s' h).elim
  |ok fl =>
   cases fl with
   |next=>exact False.elim h
   |brk=>exact False.elim h
   |cont=>exact False.elim h
   |ret u =>
    obtain⟨v,H',os,bare,un,I,r',q⟩:=h;have q':v=.bl true:=q;subst q';obtain rfl:u=Value.bool true:=r';refine{U,{λb o e=>?_,λb o e=>un.there b o e (by simp)},os,bare};rcases hO b with⟨G,z⟩|⟨_,xs,_,z⟩|⟨_,_,z|⟨ob,xs,z⟩⟩
    ·obtain⟨J,z2⟩:=un.dY b _ z
     have e2:s'.heap.get? b=some { cls:=.none,data:=.fields (#[]++J) }:=I b _ z2;rw[(A b G).1]at e;cases e;exact .inr (.inl {(A b G).2,U,#[],J,U,e2})
    ·exact .inl (un.dI b o xs e z)
    ·exact .inl (un.keep b o e z (by intro y;exact absurd (show b∈([]:List Addr) from y) (by simp)) (by simp))
    ·have z2:=un.dX b ob _ z
     obtain⟨e1,_⟩:=N b _ z;obtain⟨e2,_⟩:=I b _ z2;rw[e]at e1;cases e1;exact .inl e2
 have t:∀j:Option HO,(∀u,j=some u->aQ P w (λb=>if b∈Ps then some (.kA #[]) else match M b with|some xs=>some (.tup xs)|none=>if b=a then j else none) c.heap a u) →
   dm P w (λb=>if b∈Ps then some (.kA #[]) else match M b with|some xs=>some (.tup xs)|none=>if b=a then j else none) c.heap:=λj O b u z=>by
  by_cases i:b∈Ps
  ·have z':=(q0 i).symm.trans z
   cases z';exact(A b i).1
  ·have T:=(qt i).symm.trans z
   cases E:M b with
   |some xs =>
    simp only[E]at T
    cases T;obtain⟨o,h1,h2,h3⟩:=R b xs E;exact NA (KX b o h1) h2 h3
   |none =>
    simp only[E]at T
    by_cases g:b=a
    ·rw[q0 g]at T
     subst g;exact O u T
    ·rw[qt g]at T;cases T
 have l:∀j:Option HO,(j=none\/∃o xs,j=some (.eD o (.lst xs)))->oD Ps M (λb=>if b∈Ps then some (.kA #[]) else match M b with|some xs=>some (.tup xs)|none=>if b=a then j else none):=λj O b=>by
  by_cases i:b∈Ps
  ·exact .inl {i,q0 i}
  ·cases E:M b with
   |some xs=>exact .inr (.inl {i,xs,U,(qt i).trans (by simp only[E])})
   |none =>
    refine .inr (.inr {i,U,?_})
    by_cases g:b=a
    ·have:(if b∈Ps then some (.kA #[]) else match M b with|some xs=>some (.tup xs)|none=>if b=a then j else none)=j:=(qt i).trans (by simp only[E];rw[q0 g])
     rcases O with z|⟨o,xs,z⟩
     ·exact .inl (this.trans z)
     ·exact .inr ⟨o,xs,this.trans z⟩
    ·exact .inl ((qt i).trans (by simp only[E];rw[qt g]))
 have p:∀j:Option HO,∀b,(if b∈Ps then some (.kA #[]) else match M b with|some xs=>some (.tup xs)|none=>if b=a then j else none)≠none->b=a\/b∈Ps\/∃xs,M b=some xs:=λj b z=>by
  by_cases i:b∈Ps
  ·exact .inr (.inl i)
  ·cases E:M b with
   |some xs=>exact .inr (.inr {xs,U})
   |none =>
    by_cases g:b=a
    ·exact .inl g
    ·exact absurd ((qt i).trans (by simp only[E];rw[qt g])) z
 have B:∀j:Option HO,(if a∈Ps then some (.kA #[]) else match M a with|some xs=>some (.tup xs)|none=>if a=a then j else none)=j:=λj=>(qt naP).trans (by simp only[ma];exact q0 trivial)
 cases hk:K.lookup a with
 |some o =>
  have e:=KX a o hk;rw[X]at e;cases e;exact(NN hnl hk).elim
 |none =>
  exact Y _ (l (some (.eD { cls:=.type "list",data:=.seq vs.toArray } (.lst (ns.map V.int)))) (.inr {_,_,U})) (.inr {{ cls:=.type "list",data:=.seq vs.toArray },B _}) (t _ λu z=>by
   cases z
   exact{X,by rw[qa];exact hl,vs,_,rv,X}) (p _) λ_=>hk
def oR{l:PySem.W.OpenLaw}{n k:Nat}{q:Program}{r:List Str}{XP:(Str->Option Value)->Heap->Prop}{Z:World->Heap->Prop}{d:DefRec}{K:Params->PySem.W.Frag}{CX:qY}{sp:Sp}{x:Str}{Ps:List Addr}(I:List Str)(j:List (Addr×List V))(tb:Str->Addr)(hn:l.most=some n)(hn2:n≤sizeLine)(S:d.params.defaults=[])(hr:aZ k callerA)(hY:∀(w:World) (h:Heap),Z w h->(K w.params).In h)(hYT:∀(w:World) (h:Heap),Z w h->∀Q∈Ps,h.get? Q=some (tabObj #[]))(hC:∀w:World,∀Q∈Ps,∃t∈I,codeHdIn (K w.params) (NP (K w.params) t) Q=true)(hnt:∀w:World,noTabs (K w.params)=true)(R:∀w:World,nO (K w.params)=true)(htb:∀w:World,∀t∈I,nS (K w.params) t=tb t)(A:∀w:World,∀t∈I,nS (K w.params) t∈Ps)(X:∀w:World,(j.all λc=>uf (K w.params) c)=true)(hmd:(j.map (·.1)).Nodup)(F:∀(w:World) (mg:Str->Option Value) (fa:Addr) (h:Heap),(K w.params).In h->h.Ns mainGlobals mg->mg d.name=some (.ref fa) →
   ∃fd:FuncData,(∀(s:Shared) (u:Value),BindsTo s fd {[u],[]} [(x,u)]) ∧
    ∀base:Heap,(K w.params).In base->base.Ns mainGlobals mg->(∀t∈I,base.BuiltinsAt mg (nS (K w.params) t))->cE l.prog w (K w.params) mg base CX k fa fd [x] sp)(hsp:∀(H:Hp) (a:Addr) (L:List Int),L.length≤n->(∀t∈I,H (tb t)=some (.kA #[]))->(∀c∈j,H c.1=some (.tup c.2))->aw H a (L.map V.int)->sp [.ref a] H (λv _=>v=.bl true) λ_ _ _=>False)(P:∀(H:Hp) (s:Shared) (e:Value) (s':Shared),CX [] H s (λ_ _ _=>False) e s'->False) :
  PySem.W.WalkO q r XP Z l.row.toRowW d [] (λf vs=>PySem.call f vs):=by
 refine Att.jE hn S λw s₀ m mg mb fa o pm cd doc a vs L G Y ho hd hcd hmg B y p hg=>?_;have O:=hY w _ Y;obtain⟨fd,hb,hF⟩:=F w mg fa _ O G.T.g hmg;have N:=hYT w _ Y
 have hbm:∀Q∈Ps,m.heap.BuiltinsAt mg Q:=λQ J=>by
  obtain⟨bm,ob,b1,b2,E,b4,b5,b6⟩:=G.T.bmain;refine{bm,ob,b1,b2,λq=>?_,λq=>?_,E,b4,b5,b6}
  ·obtain⟨o,es,ep,e,hd,_⟩:=G.T.g
   rw[q,e]at E;cases E;rw[hd]at b6;cases b6
  ·rw[q,N Q J]at E;cases E;cases b4
 let M:Addr->Option (List V):=λb=>(j.find? λc=>decide (c.1=b)).map (·.2)
 have hMc:∀b xs,M b=some xs->(b,xs)∈j:=λb xs e=>by
  obtain⟨c,i,rfl⟩:=vf.mp e
  have h1:c.1=b:=by simpa using List.find?_some i
  rw[←h1];exact yd i
 have D:∀c∈j,M c.1=some c.2:=λc i=>by
  have go:∀(l:List (Addr×List V)),(l.map (·.1)).Nodup->c∈l->(l.find? λd=>decide (d.1=c.1)).map (·.2)=some c.2:=λl=>by
   induction l with
   |nil=>intro _ z;cases z
   |cons d l ih =>
    intro nd hm;rw[qi,zk]at nd;rw[wf]
    by_cases h:d.1=c.1
    ·rw[qA h]
     rcases qv.mp hm with z|z
     ·rw[z];rfl
     ·exact absurd (h▸qf.mpr {c,z,U}:d.1∈l.map (·.1)) nd.1
    ·rw[decide_eq_false h]
     rcases qv.mp hm with z|z
     ·exact absurd (by rw[z]) h
     ·exact ih nd.2 z
  exact go j hmd i
 have look:∀c∈j,∃o,(K w.params).lookup c.1=some o/\fM o c.2=true/\c.2.length≤sizeLine:=λc i=>by
  have h:=zm.mp (X w) c i;unfold uf at h
  cases q:(K w.params).lookup c.1 with
  |none=>rw[q]at h;exact absurd h qp
  |some o =>
   rw[q]at h;have h:(fM o c.2&&Nat.ble c.2.length 1000)=true:=h;rw[ze]at h;exact{o,U,h.1,qj (aV (qz h.2))}
 refine Ov (M:=M) O G.T.g G.T.b G.T.builtins G.T.nolimit hg (hnt w) (R w) (λQ J=>{N Q J,(((codeHd_of_K O (hC w Q J).choose_spec.2)).tab (N Q J)).isCodeTable}) hbm (λb xs e=>look _ (hMc b xs e)) B y (qg p hn2) hr (λbase h1 h2 h3=>hF base h1 h2 λt C=>h3 _ (A w t C)) hb (λH hO hS=>hsp H a L p (λt C=>htb w t C▸?_) (λc i=>?_) hS) λH e s'=>P H m e s'
 ·rcases hO (nS (K w.params) t) with z|z|z
  ·exact z.2
  ·exact absurd (A w t C) z.1
  ·exact absurd (A w t C) z.1
 ·rcases hO c.1 with z|⟨_,ys,hy,z⟩|⟨_,z,_⟩
  ·obtain⟨o,h1,h2,_⟩:=look c i
   have e:=O _ _ h1;rw[N _ z.1]at e;cases e;exact absurd h2 qp
  ·rw[D c i]at hy
   cases hy;exact z
  ·rw[D c i]at z;cases z
end L2
namespace My
open PySem L2 PyProof.Rows
def top(i:Nat):Stmt:=PySem.Challenge.pw_pagefolk_k11_whole_sent_and_read.main.body.getD i (.Pass {0,0,0,0})
def clsAt(s:Stmt)(j:Nat):Stmt:=match s with|.ClassDef _ _ _ b _ _ _ _ _ _ _=>b.getD j (.Pass {0,0,0,0})|_=>.Pass {0,0,0,0}
abbrev pb:Stmt:=top 9
abbrev qV:Stmt:=top 10
abbrev nr:Stmt:=top 11
abbrev mO:Stmt:=top 12
abbrev pw:Stmt:=top 13
abbrev mQ:Stmt:=top 14
abbrev m4:Stmt:=top 15
abbrev qR:Stmt:=top 16
abbrev o8:Stmt:=top 17
abbrev oX:Stmt:=top 18
abbrev mV:Stmt:=top 19
abbrev oU:Stmt:=top 20
abbrev mT:Stmt:=top 21
abbrev o9:Stmt:=top 22
abbrev oZ:Stmt:=top 23
abbrev nJ:Stmt:=top 24
abbrev lL:Stmt:=top 25
abbrev lB:Stmt:=top 26
abbrev nF:Stmt:=top 27
abbrev pZ:Stmt:=top 28
abbrev qX:Stmt:=top 29
abbrev oE:Stmt:=top 30
abbrev oC:Stmt:=top 31
abbrev pk:Stmt:=top 32
abbrev ox:Stmt:=top 33
abbrev p8:Stmt:=top 34
abbrev lz:Stmt:=top 36
abbrev rg:Stmt:=top 37
abbrev mU:Stmt:=top 38
abbrev qM:Stmt:=top 45
abbrev oK:Stmt:=top 46
abbrev p':Stmt:=top 47
abbrev qS:Stmt:=top 48
abbrev oq:Stmt:=top 49
abbrev mM:Stmt:=top 50
abbrev nk:Stmt:=top 51
abbrev nE:Stmt:=top 52
abbrev oB:Stmt:=top 53
abbrev og:Stmt:=top 54
abbrev nh:Stmt:=top 55
abbrev pT:Stmt:=top 56
abbrev mL:Stmt:=top 57
abbrev qP:Stmt:=top 58
abbrev nQ:Stmt:=top 59
abbrev qW:Stmt:=top 60
abbrev mR:Stmt:=top 61
abbrev pY:Stmt:=top 62
abbrev n':Stmt:=top 63
abbrev pE:Stmt:=top 64
abbrev qL:Stmt:=top 65
abbrev pQ:Stmt:=top 66
abbrev n6:Stmt:=top 67
abbrev nA:Stmt:=top 69
abbrev oa:Stmt:=top 70
abbrev mW:Stmt:=top 71
abbrev pJ:Stmt:=top 73
abbrev oM:Stmt:=top 74
abbrev oz:Stmt:=top 75
abbrev oh:Stmt:=top 76
abbrev ou:Stmt:=top 77
abbrev lI:Stmt:=top 78
abbrev nB:Stmt:=top 79
abbrev oI:Stmt:=top 82
abbrev nH:Stmt:=top 83
abbrev oF:Stmt:=top 84
abbrev pP:Stmt:=top 85
abbrev p6:Stmt:=top 86
abbrev p4:Stmt:=top 87
abbrev pM:Stmt:=top 88
abbrev n4:Stmt:=top 89
abbrev lJ:Stmt:=top 90
abbrev ri:Stmt:=top 91
abbrev oA:Stmt:=top 92
abbrev nY:Stmt:=top 93
abbrev qK:Stmt:=top 94
abbrev mZ:Stmt:=top 95
abbrev iD:Stmt:=top 96
abbrev pL:Stmt:=top 97
abbrev m_:Stmt:=top 98
abbrev fm:Stmt:=top 99
abbrev oG:Stmt:=clsAt (top 80) 0
abbrev nU:Stmt:=clsAt (top 80) 1
abbrev pK:Stmt:=clsAt (top 80) 3
abbrev lQ:Stmt:=clsAt (top 80) 4
abbrev oY:Stmt:=clsAt (top 80) 6
abbrev lH:Stmt:=clsAt (top 80) 7
abbrev pW:Stmt:=clsAt (top 80) 8
abbrev km:Stmt:=clsAt (top 80) 9
abbrev LF:List Str:=["thing"]
abbrev Gn:List Str:=["thing","length"]
abbrev LL:List Str:=["thing","least"]
abbrev Gw:List Str:=["thing","texts"]
abbrev Lj:List Str:=["thing"]
abbrev Ks:List Str:=["thing"]
abbrev IH:List Str:=["thing"]
abbrev G2:List Str:=["deed"]
abbrev Hk:List Str:=["roll","thing"]
abbrev GN:List Str:=["roll","thing"]
abbrev K2:List Str:=["roll","thing"]
abbrev Fy:List Str:=["roll","thing"]
abbrev Jn:List Str:=["roll","thing"]
abbrev Ho:List Str:=["roll","thing"]
abbrev Lm:List Str:=["roll","thing"]
abbrev G4:List Str:=["roll","thing"]
abbrev uD:List Str:=["roll","thing"]
abbrev uW:List Str:=["roll","thing"]
abbrev Hw:List Str:=["roll","thing"]
abbrev LM:List Str:=["roll","thing"]
abbrev JL:List Str:=["roll","thing"]
abbrev Gy:List Str:=["roll","thing"]
abbrev Hg:List Str:=["roll","thing"]
abbrev KQ:List Str:=["roll","thing"]
abbrev JJ:List Str:=["roll","thing"]
abbrev Kg:List Str:=["roll","thing"]
abbrev Fl:List Str:=["roll","number","thing","forms"]
abbrev Hz:List Str:=["roll","thing"]
abbrev JG:List Str:=["roll","thing"]
abbrev Ll:List Str:=["name"]
abbrev J0:List Str:=["counts"]
abbrev Jt:List Str:=["branch"]
abbrev HR:List Str:=["side"]
abbrev K3:List Str:=["sign"]
abbrev I0:List Str:=["text"]
abbrev Gp:List Str:=["thing"]
abbrev LQ:List Str:=["what","listed"]
abbrev FP:List Str:=["deed","head"]
abbrev vJ:List Str:=["word","digits"]
abbrev KZ:List Str:=["word"]
abbrev Ld:List Str:=["word","told"]
abbrev FD:List Str:=["word"]
abbrev JX:List Str:=["word"]
abbrev Jv:List Str:=["word","told"]
abbrev HU:List Str:=["word"]
abbrev Gc:List Str:=["word"]
abbrev Jd:List Str:=["word"]
abbrev Lr:List Str:=["word"]
abbrev JE:List Str:=["word"]
abbrev FL:List Str:=["word"]
abbrev GJ:List Str:=["word"]
abbrev Gx:List Str:=["word"]
abbrev FY:List Str:=["kind","words"]
abbrev IA:List Str:=["words","readers","things"]
abbrev Kp:List Str:=["roll","text","words","head","deed"]
abbrev Hf:List Str:=["deeds","told","deed","name"]
abbrev LW:List Str:=["roll","deed"]
abbrev HH:List Str:=["deed","other"]
abbrev HN:List Str:=["roll","told","deed","name","other"]
abbrev Gz:List Str:=["deed"]
abbrev I_:List Str:=["roll","told","heights","deed","below"]
abbrev HB:List Str:=["roll"]
abbrev GA:List Str:=["_law_cell","_law_many","_law_found","_law_digits","_law_k","_law_number","_law_mixed"]
abbrev Hr:List Str:=["_law_number","_law_word_here","_law_many","_law_k"]
abbrev JU:List Str:=["_law_cell","_law_draws_here","_law_roll_here","_law_k","_law_word_here","_law_letter"]
abbrev Ih:List Str:=["_law_number","_law_roll_here","_law_more"]
abbrev JD:List Str:=["_law_number","_law_roll_here"]
abbrev GR:List Str:=["_law_number","_law_roll_here"]
abbrev HP:List Str:=["_law_number","_law_roll_here"]
abbrev JM:List Str:=["_law_number","_law_roll_here","_law_kind"]
abbrev vZ:List Str:=["_law_draws_here","_law_roll_here"]
abbrev Lq:List Str:=["_law_draws_here","_law_roll_here","_law_found","_law_number","_law_name_here"]
abbrev FE:List Str:=["_law_kind","_law_more","_law_roll_here","_law_part_here","_law_name_here","_law_behind"]
abbrev Hy:List Str:=["_law_kind","_law_more","_law_roll_here","_law_part_here","_law_name_here","_law_sides","_law_value","_law_word_here"]
abbrev KU:List Str:=["_law_draws_here","_law_roll_here","_law_number","_law_kind","_law_more","_law_to"]
abbrev Fv:List Str:=["_law_number","_law_roll_here"]
abbrev nL:List Str:=["_law_script","_law_most","_law_cells","_law_roll_here","_law_many","_law_known","_law_table","_law_deeds","_law_k","_law_cell","_law_draws_here","_law_who","_law_turn","_law_other","_law_to","_law_theirs","_law_number","_law_heard","_law_what_here"]
abbrev LD:List Str:=["_law_folk","_law_found","_law_name_here"]
abbrev IQ:List Str:=["_law_deeds","_law_cell","_law_found","_law_k","_law_deed","_law_at"]
abbrev vp:List Str:=["_law_script","_law_roll_here","_law_deeds","_law_texts","_law_sent","_law_found"]
abbrev Kr:List Str:=["self","roll","deeds","deed"]
abbrev Jz:List Str:=["self"]
abbrev G7:List Str:=["self"]
abbrev uU:List Str:=["self","made_by"]
abbrev Kt:List Str:=["self","name"]
abbrev IR:List Str:=["self","name"]
abbrev Li:List Str:=["self","name"]
abbrev wD:List Str:=["self","counts"]
abbrev ak:Addr:=579
abbrev cz:Addr:=25
abbrev eA:Addr:=22
abbrev eh:Addr:=24
abbrev cG:Addr:=23
abbrev dn:Addr:=200
abbrev bZ:Addr:=423
abbrev dj:Addr:=199
abbrev bu:Addr:=194
abbrev eG:Addr:=86
abbrev dJ:Addr:=180
abbrev bL:Addr:=107
abbrev b0:Addr:=93
abbrev a':Addr:=100
abbrev aY:Addr:=152
abbrev cq:Addr:=128
abbrev a_:Addr:=121
abbrev bV:Addr:=145
abbrev dE:Addr:=140
abbrev dN:Addr:=187
abbrev fc:Addr:=173
abbrev bF:Addr:=166
abbrev bM:Addr:=159
abbrev cu:Addr:=417
abbrev bD:Addr:=349
abbrev bq:Addr:=363
abbrev bT:Addr:=335
abbrev aR:Addr:=356
abbrev aX:Addr:=342
abbrev be:Addr:=405
abbrev bf:Addr:=398
abbrev bO:Addr:=384
abbrev aW:Addr:=377
abbrev cO:Addr:=412
def cY:List (Str×Addr):=[("nothing",201),("part",202),("move",203),("cut",204),("put",205),("out",206),("mark",207),("note",208),("line",209),("strike",210),("cell",211),("leave",212),("back",213),("again",214),("bring",215),("drop",216),("pour",217)]
def bX:List (Str×Addr):=[("nothing",424),("part",425),("move",426),("cut",427),("put",428),("out",429),("mark",430),("note",431),("line",432),("strike",433),("cell",434),("leave",435),("back",436),("again",437),("bring",438),("drop",439),("pour",440)]
abbrev MS:List (Addr×List V):=[(cz,[.str "read",.str "note",.str "write",.str "give"]),(eA,[.str "",.int 0]),(eh,[.str "row",.str "column"]),(cG,[.str "ahead",.str "behind"]),(201,[]),(202,[.ref a']),(203,[.ref b0,.ref a']),(204,[.ref b0]),(205,[.ref a',.ref a_,.ref dE]),(206,[.ref a',.ref bV]),(207,[.ref a',.ref cq,.ref cq,.ref aY,.ref bM]),(208,[.ref a',.ref cq,.ref cq,.ref aY]),(209,[.ref a',.ref fc,.ref bL]),(210,[.ref a',.ref b0]),(211,[.ref a',.ref b0,.ref b0,.ref bF]),(212,[.ref a',.ref eG,.ref dJ,.ref dN]),(213,[.ref bu]),(214,[.ref bu]),(215,[.ref aY]),(216,[.ref aY]),(217,[.ref dj]),(424,[]),(425,[.ref aR]),(426,[.ref bD,.ref aR]),(427,[.ref bD]),(428,[.ref aR,.ref aW]),(429,[.ref aR]),(430,[.ref aR,.ref bO,.ref bO,.ref aX,.ref bf]),(431,[.ref aR,.ref bO,.ref bO,.ref aX]),(432,[.ref aR,.ref aX,.ref bq]),(433,[.ref aR,.ref bD]),(434,[.ref aR,.ref bD,.ref bD,.ref be]),(435,[.ref aR,.ref aX,.ref aX,.ref cO]),(436,[.ref bT]),(437,[.ref bT]),(438,[.ref aX]),(439,[.ref aX]),(440,[.ref cu])]
structure Txt(K:PySem.W.Frag)(mg:Str->Option Value)(tk:Str->Tok):Prop where
 gK:mg "all"=none
 k8:mg "bool"=none
 xB:mg "dict"=none
 el:mg "enumerate"=none
 fy:mg "int"=none
 aC:mg "isinstance"=none
 bh:mg "len"=none
 gQ:mg "list"=none
 lS:mg "max"=none
 fe:mg "range"=none
 uB:mg "set"=none
 jQ:mg "sorted"=none
 dU:mg "str"=none
 vP:mg "sum"=none
 bG:mg "tuple"=none
 lY:mg "zip"=none
 ir:mg "MOST_DIGITS"=some (.int 7 (tk "MOST_DIGITS"))
 gI:mg "MOST_LETTERS"=some (.int 8 (tk "MOST_LETTERS"))
 iw:mg "MOST_NUMBER"=some (.int 1000000 (tk "MOST_NUMBER"))
 fv:mg "MOST_SIGNS"=some (.int 12 (tk "MOST_SIGNS"))
 cz:mg "LEAVES"=some (.ref cz)
 eA:mg "MAIN"=some (.ref eA)
 eh:mg "WAYS"=some (.ref eh)
 cG:mg "WHERES"=some (.ref cG)
 dn:mg "FORMS"=some (.ref dn)
 bZ:mg "READERS"=some (.ref bZ)
 nP:mg "Folk"=some (.ref ak)
 aS:j_ K ak
 pC:PySem.W.makesIn K ak=true/\PySem.W.keepIn K (.ref ak)=true
 b':cJ K ak "hands"
 eg:cJ K ak "heights"
 fP:cJ K ak "kept_book"
 dD:cJ K ak "seats"
 bt:cJ K ak "sorted_names"
 bN:cJ K ak "told"
def As(w:Str)(n:Int)(hs:List PyData)(b:PyData)(ws:List Str):Str:=Txt.join " " (([w,toString n,Txt.join "," (hs.map bI),jU b]:List Str)++ws)
structure Jg(H:Hp)(v:V)(w:Str)(n:Int)(hs:List PyData)(b:PyData)(ws:List Str):Prop where
 at':∃q hq vb vx ds,v=.ref q/\H q=some (.tup [.str w,.int n,hq,vb,vx])/\DT H hq (.tuple hs)/\DT H vb b/\DT H vx (.tuple ds)/\Wt ds ws
 wl:w.length≤8
 nn:Nb n
 hl:hs.length≤10
 hf:∀d∈hs,Flat1 d
 bo:qN b
def xN(h:Nb n):n.natAbs.log2<1920:=((rE (H:=λ_=>none) (DT.int n) (.inr {n,U,h})).1.resolve_left (λ⟨_,e⟩=>nomatch e)).elim λi e=>by
 obtain⟨e,h⟩:=e;cases e;exact h
def LX(h:qN b):(jU b).length≤100:=by
 rcases h with rfl|⟨a,c,rfl,ha,hc⟩
 ·decide
 ·have q:=nW "." [a,c]
  have d:(".":Str).length=1:=rfl;rw[d]at q;have e:(List.map (λx=>x.length) [a,c]).sum=a.length+(c.length+0):=rfl;rw[e]at q;show(Txt.join "." [a,c]).length≤100;have f:[a,c].length=2:=rfl;omega
def EO{w:Str}{n:Int}{hs:List PyData}{b:PyData}{ws:List Str}(h1:w.length≤8)(h2:Nb n)(i:hs.length≤10)(h:∀d∈hs,Flat1 d)(k:qN b)(f:ws.length≤15/\∀w∈ws,w.length≤100) :
  ((([w,toString n,Txt.join "," (hs.map bI),jU b]:List Str)++ws).map (·.length)).sum+(([w,toString n,Txt.join "," (hs.map bI),jU b]:List Str)++ws).length * (" ":Str).length≤16777216:=by
 have a:=fI (ws:=([w,toString n,Txt.join "," (hs.map bI),jU b]:List Str)++ws) (c:=100) λx e=>by
  rcases qy.mp e with e|e
  ·simp only[List.mem_cons,List.not_mem_nil,or_false]at e
   rcases e with rfl|rfl|rfl|rfl
   ·omega
   ·exact qg (Cz (d:=.int n) (.inr ⟨n,U,h2⟩)) ⋯
   ·exact yB i h
   ·exact LX k
  ·exact f.2 x e
 have g:(" ":Str).length=1:=rfl
 have j:(([w,toString n,Txt.join "," (hs.map bI),jU b]:List Str)++ws).length=4+ws.length:=by rw[qm];rfl
 rw[j]at a ⊢;rw[g];have:=f.1;omega
def jD(hw:∀w∈ws,cm w)(h:cX ws ds):b9 ds:=by
 obtain⟨w,n,rfl,a,h1,h2⟩:=h;refine .inr {w,[.int n],U,eY (hw w a),gM (hw w a),c_ (hw w a),(qz rfl),λx b=>?_};rw[zb.mp b];exact{n,U,(),()}
def gN(hw:∀w∈ws,cm w)(h:cD ws ds):b9 ds:=h.elim .inl (jD hw)
def lC(hw:∀w∈ws,cm w)(h:iV ws ds):b9 ds:=by
 obtain⟨w,n,i,rfl,a,h1,h2,d,c⟩:=h;refine .inr {w,[.int n,.int i],U,eY (hw w a),gM (hw w a),c_ (hw w a),(qz rfl),λx b=>?_}
 simp only[List.mem_cons,List.not_mem_nil,or_false]at b
 rcases b with rfl|rfl
 ·exact⟨n,U,(),()⟩
 ·exact⟨i,U,(),()⟩
def sV(hw:∀w∈ws,cm w)(h:eN ws d):kT d:=by
 obtain⟨ds,z,rfl,h1,h2⟩:=h;exact{ds,z,U,lC hw h1,h2}
def MQ:∀c∈("abcdefghijklmnopqrstuvwxyz .,":Str).cps.toList,PyData.strOk {#[c]}=true:=∅
def M6(hw:∀w∈ws,cm w)(h:eP ws d):o_ d:=by
 rcases h with⟨c,rfl,a⟩|⟨z,rfl,hz⟩|⟨ds,rfl,hd⟩
 ·exact .inl ⟨_,U,by show 1≤8;decide,MQ c a⟩
 ·exact .inr (.inl ⟨z,U,c_ hz,gM hz⟩)
 ·exact .inr (.inr ⟨ds,U,gN hw hd⟩)
def uK(a:∀n,P n->b9 n)(h:vT P b):b=.none\/∃n,b=.tuple n/\b9 n:=by
 rcases h with rfl|⟨n,rfl,hn⟩
 ·exact .inl rfl
 ·exact .inr ⟨n,U,a n hn⟩
def Kh(h:L6 d):r0 d:=by
 rcases h with rfl|⟨z,rfl,hz⟩
 ·exact .inl rfl
 ·exact .inr ⟨z,U,eY hz,c_ hz⟩
def AK{α:Type}{P:α->Prop}{a:α}(h:P a):∀x∈[a],P x:=λx b=>by rw[zb.mp b];exact h
def Mp{α:Type}{P:α->Prop}{a b:α}(h:P a)(h2:P b):∀x∈[a,b],P x:=λx c=>by
 simp only[List.mem_cons,List.not_mem_nil,or_false]at c
 rcases c with rfl|rfl
 ·exact h
 ·exact h2
def Fk:Fm->Addr
 |.part=>a'|.name=>b0|.Fe=>a_|.signs=>dE|.Fb=>bV|.side=>cq|.word=>aY|.won=>bM|.way=>fc|.line=>bL|.Fi=>bF|.hand=>eG|.leave=>dJ|.truth=>dN|.num=>bu|.counts=>dj
structure Md(H:Hp):Prop where
 way:H eh=some (.tup [.str "row",.str "column"])
 RD:H cz=some (.tup [.str "read",.str "note",.str "write",.str "give"])
 RE:H cG=some (.tup [.str "ahead",.str "behind"])
 Ri:∀z,match fV cY z with
  |some a=>∃fs,fZ z=some fs/\H a=some (.tup (fs.map λf=>.ref (Fk f)))
  |none=>fZ z=none
def Md.same(m:Md H)(s:ab H H'):Md H':={s _ _ m.way,s _ _ m.RD,s _ _ m.RE,λz=>by
 have h:=m.Ri z
 split at h
 ·obtain⟨fs,h1,h2⟩:=h;exact{fs,h1,s _ _ h2}
 ·exact h}
def lh(hw:∀w∈ws,cm w)(h:cX ws ds):cC (.tuple ds) (eJ ds):=by
 obtain⟨w,n,rfl,a,h1,h2⟩:=h;exact{w,n,U,hw w a,{(),()},tz (eY (hw w a))}
def hJ(hw:∀w∈ws,cm w)(h:cD ws ds):gL (.tuple ds) (eJ ds):=by
 rcases h with rfl|h
 ·exact .inl ⟨U,HW⟩
 ·exact .inr (lh hw h)
def AJ(hw:∀w∈ws,cm w)(h:iV ws ds):jJ (.tuple ds) (eJ ds):=by
 obtain⟨w,n,i,rfl,a,h1,h2,c,b⟩:=h;exact{w,n,i,U,hw w a,{(),()},{(),()},tz (eY (hw w a))}
def tm(hw:∀w∈ws,cm w)(h:eN ws d):pR d (CU d):=by
 obtain⟨ds,z,rfl,h1,h2⟩:=h;refine{_,_,z,U,AJ hw h1,?_};show(z = "ahead" /\ eJ ds++(if z = "ahead" then("<":Str) else ">")=_)\/(z = "behind" /\ eJ ds++(if z = "ahead" then("<":Str) else ">")=_);rcases h2 with rfl|rfl
 ·exact .inl ⟨U,by rw[q0 rfl]⟩
 ·exact .inr ⟨U,by rw[qt ∅]⟩
def xQ(hw:∀w∈ws,cm w)(h:eP ws d):iF d (CG d):=by
 rcases h with⟨c,rfl,a⟩|⟨z,rfl,hz⟩|⟨ds,rfl,hd⟩
 ·exact .inl ⟨c,U,a,U⟩
 ·exact .inr (.inl ⟨z,U,hz,U⟩)
 ·exact .inr (.inr ⟨_,_,U,hJ hw hd,U⟩)
def HS(hw:∀w∈ws,cm w)(h:sI ws d):E6 d (jU d):=by
 rcases h with rfl|⟨a,b,rfl,h1,h2⟩
 ·exact .inl ⟨U,U⟩
 ·exact .inr ⟨a,b,U,hw a h1,h2,U⟩
def BD(h:(decide (0<z.cps.size)&&(decide (z.cps.size≤8)&&z.cps.toList.all λc=>decide (97≤c/\c≤122)))=true):cm z:=by
 simp only[Bool.and_eq_true]at h
 exact{qF h.1,qF h.2.1,λc a=>qF (zm.mp h.2.2 c a)}
def Mu(hw:∀w∈ws,cm w)(h1:1≤ws.length)(J:ws.length≤6)(hn:num≤1000000)(h:bA ws num C):∃u,Wt C u/\eO C u:=by
 have no:∀{k:Str},decide (k = "put")=false->decide (k = "out")=false->iT k [] []:=λa b=>.no (of_decide_eq_false a) (of_decide_eq_false b)
 have f:∀{k:Str} {rs:List Rm} {ds:List PyData} {zs:List Str},fA k=some rs->L2.F3 rs ds zs->decide (k = "put")=false->decide (k = "out")=false->eO (.str k::ds) (k::zs):=λ{k rs ds zs} a b c d=>by
  have:=eO.mk k rs ds zs [] [] a b (no c d)
  rwa [wo,wo]at this
 have m:∀{z:Str},cm z->iI (.str z)=z:=λh=>gB (eY h)
 cases h with
 |nothing=>exact{_,.bR "nothing" [] (by simp) ⋯ (λ_ z=>nomatch z),f (rs:=[]) rfl .nil ∅ ∅}
 |part p G=>exact{_,.names "part" [p] (by simp) (Nat.le_of_ble_eq_true rfl) (AK (gN hw G)),f (rs:=[.part]) rfl (.cons (hJ hw G) .nil) ∅ ∅}
 |move n p h1 h2=>exact{_,.names "move" [n,p] (by simp) (Nat.le_of_ble_eq_true rfl) (Mp (jD hw h1) (gN hw h2)),f (rs:=[.name,.part]) rfl (.cons (lh hw h1) (.cons (hJ hw h2) .nil)) ∅ ∅}
 |cut n h1=>exact{_,.names "cut" [n] (by simp) (Nat.le_of_ble_eq_true rfl) (AK (jD hw h1)),f (rs:=[.name]) rfl (.cons (lh hw h1) .nil) ∅ ∅}
 |i6 p n h1 h2=>exact{_,.names "strike" [p,n] (by simp) (Nat.le_of_ble_eq_true rfl) (Mp (gN hw h1) (jD hw h2)),f (rs:=[.part,.name]) rfl (.cons (hJ hw h1) (.cons (lh hw h2) .nil)) ∅ ∅}
 |put p b B h1 h2 j g s =>
  refine{_,.put p b B (gN hw h1) (uK (λ_=>lC hw) h2) g λd hd=>M6 hw (s d hd),.mk "put" [.part,.snN] [.tuple p,b] [eJ p,iI b] [.tuple B] (B.map CG) rfl (.cons (hJ hw h1) (.cons ?_ .nil)) (.put B _ rfl (L2.F2.map λd hd=>xQ hw (s d hd)) (by rw[qa];exact g))};rcases h2 with rfl|⟨n,rfl,hn⟩
  ·exact .inl ⟨U,U⟩
  ·exact .inr (by rw[eU (lC hw hn)];exact AJ hw hn)
 |out p A h1 h2 j g s =>
  refine{_,.out p A (gN hw h1) j λn hn=>lC hw (g n hn),.mk "out" [.part] [.tuple p] [eJ p] [.tuple (A.map .tuple)] (A.map eJ) rfl (.cons (hJ hw h1) .nil) (.out _ _ rfl ?_ (by rw[qa];exact j))}
  have:∀l:List (List PyData),(∀n∈l,iV ws n)->L2.F2 jJ (l.map .tuple) (l.map eJ):=λl=>by
   induction l with
   |nil=>exact λ_=>.nil
   |cons a l I=>exact λh=>.cons (AJ hw (h a ql)) (I λx r=>h x (qo _ r))
  exact this A g
 |mark p F E z v h1 h2 j g s =>
  refine{_,.mark "mark" p F E [.str z,v] (.inl rfl) (gN hw h1) (sV hw h2) (sV hw j) (qz rfl) (Mp (.inr {z,U,eY g,c_ g}) (Kh s)),f (rs:=[.part,.side,.side,.plain,.plainN]) rfl (.cons (hJ hw h1) (.cons (tm hw h2) (.cons (tm hw j) (.cons (show fT (.str z) (iI (.str z)) from by rw[m g];exact{U,g}) (.cons ?_ .nil))))) ∅ ∅};rcases s with rfl|⟨y,rfl,hy⟩
  ·exact .inl ⟨U,U⟩
  ·exact .inr (by rw[m hy];exact⟨U,hy⟩)
 |note p F E z h1 h2 j g=>exact{_,.mark "note" p F E [.str z] (.inr rfl) (gN hw h1) (sV hw h2) (sV hw j) (qz rfl) (AK (.inr {z,U,eY g,c_ g})),f (rs:=[.part,.side,.side,.plain]) rfl (.cons (hJ hw h1) (.cons (tm hw h2) (.cons (tm hw j) (.cons (show fT (.str z) (iI (.str z)) from by rw[m g];exact{U,g}) .nil)))) ∅ ∅}
 |line p z v h1 h2 j =>
  refine{_,.line p z v (gN hw h1) h2 (uK (λ_=>jD hw) j),f (rs:=[.part,.plain,.gP]) rfl (.cons (hJ hw h1) (.cons ?_ (.cons ?_ .nil))) ∅ ∅}
  ·rcases h2 with rfl|rfl
   ·exact⟨U,BD ∅⟩
   ·exact⟨U,BD ∅⟩
  ·rcases j with rfl|⟨n,rfl,hn⟩
   ·exact .inl ⟨U,U⟩
   ·exact .inr (by rw[eU (jD hw hn)];exact lh hw hn)
 |cell p a b z h1 h2 j g =>
  refine{_,.cell p a b z (gN hw h1) (jD hw h2) (jD hw j) (by rcases g with rfl|g;decide;exact c_ g),f (rs:=[.part,.name,.name,.eR]) rfl (.cons (hJ hw h1) (.cons (lh hw h2) (.cons (lh hw j) (.cons ?_ .nil)))) ∅ ∅};rcases g with rfl|g
  ·exact .inl ⟨U,by rw[q0 rfl]⟩
  ·exact .inr (by rw[qt (eY g)];exact⟨U,g⟩)
 |leave p w t y h1 h2 j =>
  have D:cm t:=by
   have H:∀t∈(["read","note","write","give"]:List Str),(decide (0<t.cps.size)&&(decide (t.cps.size≤8)&&t.cps.toList.all λc=>decide (97≤c/\c≤122)))=true:=∅
   exact BD (H t j)
  exact{_,.leave p w t y (gN hw h1) (eY (hw w h2)) (c_ (hw w h2)) (eY D) (c_ D),f (rs:=[.part,.plain,.plain,.truth]) rfl (.cons (hJ hw h1) (.cons {U,hw w h2} (.cons {U,D} (.cons {y,U,U} .nil)))) ∅ ∅}
 |back k n h1 h2 j =>
  have q:Nb n:={(),()};rcases h1 with rfl|rfl
  ·exact⟨_,.bR "back" [.int n] (by simp) (Nat.le_of_ble_eq_true rfl) (AK ⟨.inr ⟨n,U,q⟩,λz=>nomatch z⟩),f (rs:=[.number]) rfl (.cons ⟨n,U,q,U⟩ .nil) ∅ ∅⟩
  ·exact⟨_,.bR "again" [.int n] (by simp) (Nat.le_of_ble_eq_true rfl) (AK ⟨.inr ⟨n,U,q⟩,λz=>nomatch z⟩),f (rs:=[.number]) rfl (.cons ⟨n,U,q,U⟩ .nil) ∅ ∅⟩
 |hL k z h1 h2 =>
  rcases h1 with rfl|rfl
  ·exact⟨_,.bR "bring" [.str z] (by simp) (Nat.le_of_ble_eq_true rfl) (AK ⟨.inl ⟨z,U,c_ h2⟩,λe=>eY h2 (PyData.str.inj e)⟩),f (rs:=[.plain]) rfl (.cons ⟨U,h2⟩ .nil) ∅ ∅⟩
  ·exact⟨_,.bR "drop" [.str z] (by simp) (Nat.le_of_ble_eq_true rfl) (AK ⟨.inl ⟨z,U,c_ h2⟩,λe=>eY h2 (PyData.str.inj e)⟩),f (rs:=[.plain]) rfl (.cons ⟨U,h2⟩ .nil) ∅ ∅⟩
 |jC o h2 j =>
  cases o with
  |nil=>rw[←h2]at h1;exact absurd h1 ⋯
  |cons c o =>
   rw[qr]at h2
   have q:∀x∈c::o,Nb x:=λx r=>{(j x r).1,by have:=(j x r).2;omega}
   refine{_,.jC c (o.map .int) (by rw[qa];omega) λx r=>?_,f (rs:=[.counts]) rfl (.cons {c::o,w5 _ _,by rw[qr];omega,U,q,?_} .nil) ∅ ∅}
   ·obtain⟨i,hi,rfl⟩:=qf.mp (show x∈(c::o).map PyData.int from r)
    exact .inr {i,U,q i hi}
   ·show Txt.join "," (((c::o).map PyData.int).map bI)=_
    rw[zj];rfl
def DP:Rm->Addr
 |.number=>bT|.plain=>aX|.name=>bD|.part=>aR|.gP=>bq|.snN=>aW|.side=>bO|.plainN=>bf|.eR=>be|.truth=>cO|.counts=>cu
structure Mr(H:Hp):Prop where
 md:Md H
 main:H eA=some (.tup [.str "",.int 0])
 Rz:∀z,match fV bX z with
  |some a=>∃rs,fA z=some rs/\H a=some (.tup (rs.map λr=>.ref (DP r)))
  |none=>fA z=none
theorem Mr.same(m:Mr H)(s:ab H H'):Mr H':={m.md.same s,s _ _ m.main,λz=>by
 have h:=m.Rz z
 split at h
 ·obtain⟨fs,h1,h2⟩:=h;exact{fs,h1,s _ _ h2}
 ·exact h}
inductive kM(P:PyData->Str->Prop)(vs:List V)(H:Hp)(Q:VK)(_:XK):Prop
 |mk(z d:_)(_:vs=[.str z])(_:Mr H)(_:P d z)(_:∀v H',ab H H'->DT H' v d->Q v H')
def fE(f:Addr)(sp:Sp):Prop:=∃r,f=DP r/\sp=kM (iv r)
def A':Sp:=kM Lc
def Ej:Sp:=kM fT
def Cr:Sp:=kM cC
def zT:Sp:=kM gL
def Az:Sp:=kM (iv .gP)
def Cv:Sp:=kM jJ
def zR:Sp:=kM (iv .snN)
def Br:Sp:=kM pR
def BW:Sp:=kM iF
def xG:Sp:=kM (iv .plainN)
def Df:Sp:=kM (iv .eR)
def Bs:Sp:=kM (iv .truth)
def z9:Sp:=kM cM
def BI:Sp:=kM E6
inductive En(vs:List V)(H:Hp)(Q:VK)(_:XK):Prop
 |mk(k p es ys:_)(_:vs=[.str k,.ref p])(_:Mr H)(_:H p=some (.lst (List.map V.str ys)))(_:iT k es ys)(_:∀q xs H',H q=none->ab H H'->H' q=some (.lst xs)->cn H' xs es->Q (.ref q) H')
inductive Bj(vs:List V)(H:Hp)(Q:VK)(_:XK):Prop
 |mk(p ds zs:_)(_:vs=[.ref p])(_:Mr H)(_:H p=some (.lst (List.map V.str zs)))(_:eO ds zs)(_:zs.length≤20)(_:∀v H',ab H H'->DT H' v (.tuple ds)->Q v H')
structure Fj(ws:List Str)(za:Str)(n:Int)(cs:List Int)(b:PyData)(wt:List PyData)(wds:List Str):Prop where
 Jc:za∈ws
 n1:1≤n
 n2:n≤63
 lc:cs.length=ws.length
 hc:∀c∈cs,0≤c/\c≤1000000
 own:cs[ws.idxOf za]?=some (n - 1)
 br:sI ws b
 wh:bA ws n wt
 rw:eO wt wds
 bR:wds.length≤15/\∀w∈wds,w.length≤100
theorem oJ:∀{a:List Int} {xs:List V},cn H xs (a.map PyData.int)->xs=a.map V.int
 |[],_,.nil=>rfl
 |c::a,_,.cons h t=>by rw[k4 h,oJ t];rfl
inductive y_(vs:List V)(H:Hp)(Q:VK)(_:XK):Prop
 |mk(p ws za n cs b wt wds:_)(_:vs=[.ref p,.str (As za n (cs.map PyData.int) b wds)])(_:Mr H)(_:RL H p ws)(_:Fj ws za n cs b wt wds)(_:∀v H',ab H H'->DT H' v (.tuple [.str za,.int n,.tuple (cs.map PyData.int),b,.tuple wt])->Q v H')
section
variable {vs:List V}{H:Hp}{Q:VK}{E:XK}
end
def Fc:List (Str×Addr×List Fm):=List.zipWith (λa b=>(a.1,a.2,b.2)) cY mn
def E':List (Str×Addr×List Rm):=List.zipWith (λa b=>(a.1,a.2,b.2)) bX kL
def Md.of(h:∀c∈MS,H c.1=some (.tup c.2)):Md H:=by
 refine{h (eh,[.str "row",.str "column"]) ∅,h (cz,[.str "read",.str "note",.str "write",.str "give"]) ∅,h (cG,[.str "ahead",.str "behind"]) ∅,λz=>?_}
 have g:cY=Fc.map λp=>(p.1,p.2.1):=∅
 have d:mn=Fc.map λp=>(p.1,p.2.2):=∅
 have f1:fV cY z=(Fc.find? λp=>decide (p.1=z)).map (·.2.1):=by
  unfold fV;rw[g,jf,jg];rfl
 have f2:fZ z=(Fc.find? λp=>decide (p.1=z)).map (·.2.2):=by
  unfold fZ;rw[d,jf,jg];rfl
 rw[f1,f2]
 cases e:Fc.find? λp=>decide (p.1=z) with
 |none=>rfl
 |some p =>
  have b:=yd e
  have a:∀p∈Fc,(p.2.1,p.2.2.map λf=>V.ref (Fk f))∈MS:=∅
  exact{_,U,h _ (a p b)}
theorem Mr.of(h:∀c∈MS,H c.1=some (.tup c.2)):Mr H:=by
 refine{Md.of h,h (eA,[.str "",.int 0]) ∅,λz=>?_}
 have g:bX=E'.map λp=>(p.1,p.2.1):=∅
 have d:kL=E'.map λp=>(p.1,p.2.2):=∅
 have f1:fV bX z=(E'.find? λp=>decide (p.1=z)).map (·.2.1):=by
  unfold fV;rw[g,jf,jg];rfl
 have f2:fA z=(E'.find? λp=>decide (p.1=z)).map (·.2.2):=by
  unfold fA;rw[d,jf,jg];rfl
 rw[f1,f2]
 cases e:E'.find? λp=>decide (p.1=z) with
 |none=>rfl
 |some p =>
  have b:=yd e
  have a:∀p∈E',(p.2.1,p.2.2.map λf=>V.ref (DP f))∈MS:=∅
  exact{_,U,h _ (a p b)}
def QO(ws:List Str):Fm->PyData->Prop
 |.part=>λd=>∃p,d=.tuple p/\cD ws p
 |.name=>λd=>∃p,d=.tuple p/\cX ws p
 |.Fe=>vT (iV ws)
 |.signs=>λd=>∃ds,d=.tuple ds/\1≤ds.length/\ds.length≤12/\∀x∈ds,eP ws x
 |.Fb=>λd=>∃a:List (List PyData),d=.tuple (a.map .tuple)/\1≤a.length/\a.length≤12/\(∀m∈a,iV ws m)/\a.Nodup
 |.side=>eN ws
 |.word=>λd=>∃z,d=.str z/\cm z
 |.won=>L6
 |.way=>λd=>∃z,d=.str z/\z∈(["row","column"]:List Str)
 |.line=>vT (cX ws)
 |.Fi=>λd=>∃z,d=.str z/\(z = "" \/ cm z)
 |.hand=>λd=>∃z,d=.str z/\z∈ws
 |.leave=>λd=>∃z,d=.str z/\z∈(["read","note","write","give"]:List Str)
 |.truth=>λd=>∃b,d=.bool b
 |.num=>λd=>∃n,d=.int n/\1≤n/\n≤1000000
 |.counts=>λd=>∃e:List Int,d=.tuple (e.map PyData.int)/\e.length=ws.length/\∀c∈e,0≤c/\c≤1000000
inductive G'(P:List Str->PyData->Prop)(vs:List V)(H:Hp)(Q:VK)(_:XK):Prop
 |mk(p ws v d:_)(_:vs=[.ref p,v])(_:Md H)(_:RL H p ws)(_:DT H v d)(_:P ws d)(_:∀H',ab H H'->Q (.bl true) H')
def jM(a:Fm):Sp:=G' λws=>QO ws a
def hG(f:Addr)(sp:Sp):Prop:=∃a,f=Fk a/\sp=jM a
inductive w_(vs:List V)(H:Hp)(Q:VK)(_:XK):Prop
 |mk(z:_)(_:vs=[.str z])(_:z.length≤1000)(_:∀H',ab H H'->Q (.bl (ef z)) H')
inductive Dg(vs:List V)(H:Hp)(Q:VK)(_:XK):Prop
 |mk(a xs n:_)(_:vs=[.ref a,.int n])(_:H a=some (.tup xs))(_:(xs.length:Int)=n)(_:Q (.bl true) H)
inductive ya(vs:List V)(H:Hp)(Q:VK)(_:XK):Prop
 |mk(i n:_)(_:vs=[.int i,.int n])(_:n≤i)(_:i≤1000000)(_:Q (.bl true) H)
inductive zZ(vs:List V)(H:Hp)(Q:VK)(_:XK):Prop
 |mk(z p zs:_)(_:vs=[.str z,.ref p])(_:H p=some (.tup (List.map V.str zs)))(_:Q (.bl (decide (z∈zs))) H)
inductive yF(vs:List V)(H:Hp)(Q:VK)(_:XK):Prop
 |mk(a w n:_)(_:vs=[.ref a])(_:H a=some (.tup [.str w,.int n]))(_:(w = ""->n=0))(_:∀H',ab H H'->Q (.bl (decide (w = ""))) H')
inductive Dh(vs:List V)(H:Hp)(Q:VK)(_:XK):Prop
 |mk(a w n:_)(_:vs=[.ref a])(_:H a=some (.tup [.str w,.int n]))(_:cm w)(_:1≤n)(_:n≤1000000)(_:∀H',ab H H'->Q (.bl true) H')
inductive EU(vs:List V)(H:Hp)(Q:VK)(_:XK):Prop
 |mk(v d ws:_)(_:vs=[v])(_:DT H v d)(_:eP ws d)(_:(∀w∈ws,cm w))(_:∀H',ab H H'->Q (.bl true) H')
def Bh:Sp:=jM .hand
def x6:Sp:=jM .name
def Aw:Sp:=jM .part
def C7:Sp:=jM .line
def EB:Sp:=G' λws d=>∃p,d=.tuple p/\iV ws p
def BV:Sp:=jM .Fe
def x8:Sp:=jM .side
def BC:Sp:=G' eP
def D3:Sp:=jM .signs
def D6:Sp:=jM .Fb
def yP:Sp:=G' sI
def Bz:Sp:=jM .counts
def EE:Sp:=jM .word
def xA:Sp:=jM .won
def CQ:Sp:=jM .Fi
def E4:Sp:=jM .way
def Ao:Sp:=jM .leave
def zW:Sp:=jM .truth
def AH:Sp:=jM .num
inductive Bi(vs:List V)(H:Hp)(Q:VK)(_:XK):Prop
 |mk(p ws n v d:_)(_:vs=[.ref p,.int n,v])(_:Md H)(_:RL H p ws)(_:n≤1000000)(_:DT H v (.tuple d))(_:bA ws n d)(_:∀H',ab H H'->Q (.bl true) H')
inductive Ea(vs:List V)(H:Hp)(Q:VK)(_:XK):Prop
 |mk(p ws q za n vc cs vb b vw wt wds:_)(_:vs=[.ref p,.ref q])(_:Md H)(_:RL H p ws)(_:H q=some (.tup [.str za,.int n,vc,vb,vw]))(_:DT H vc (.tuple (List.map PyData.int cs)))(_:DT H vb b)(_:DT H vw (.tuple wt))(_:Fj ws za n cs b wt wds)(_:∀H',ab H H'->Q (.bl true) H')
section
variable {vs:List V}{H:Hp}{Q:VK}{E:XK}
def R0(h:G' P vs H Q E):vs.length=2:=by obtain⟨_,_,_,_,rfl,_⟩:=h;rfl
def d2(h:DT H v (.tuple [a,b])):∃p x y,v=.ref p/\H p=some (.tup [x,y])/\DT H x a/\DT H y b:=by
 obtain⟨p,xs,rfl,e,t⟩:=c9 h
 cases t with
 |cons h1 t=>cases t with
  |cons h2 t=>cases t;exact{p,_,_,U,e,h1,h2}
def jX(h:DT H v (.tuple [.str w,.int n])):∃p,v=.ref p/\H p=some (.tup [.str w,.int n]):=by
 obtain⟨p,x,y,rfl,e,h1,h2⟩:=d2 h;cases h1;cases h2;exact{p,U,e}
def ux(h:DT H v (.tuple [.str w,.int n,.int i])):∃p,v=.ref p/\H p=some (.tup [.str w,.int n,.int i]):=by
 obtain⟨p,xs,rfl,e,t⟩:=c9 h
 cases t with
 |cons h1 t=>cases t with
  |cons h2 t=>cases t with
   |cons a t=>cases t;cases h1;cases h2;cases a;exact{p,U,e}
theorem dat:∀{xs:List V} {ds:List PyData} {i:Nat},cn H xs ds->xs[i]?=some x->∃d,ds[i]?=some d/\DT H x d
 |_,_,0,.cons h _,e=>by cases e;exact{_,U,h}
 |_,_,i+1,.cons _ t,e=>dat (i:=i) t e
theorem Mj:∀{xs:List V} {ds:List PyData},cn H xs ds->xs.length=ds.length
 |_,_,.nil=>rfl
 |_,_,.cons _ t=>congrArg (·+1) (Mj t)
end
def sh:(List.replicate n true).all id=true:=zm.mpr λx a=>(List.mem_replicate.mp a).2
def Oy{fr:List (Str×Nat)}{g:TG}{k:TT}(hz:xs.length≤1000)(o:H a=some (.tup xs))(hs:∀(i:Nat) x H' (d:V->Hp->Prop) (f:Hp->Prop),xs[i]?=some x->ab H H'->(∀h,ab H' h->d (.bl true) h)->g x (bc own fr σ) H' λc H2=>k c H2 λb l=>if b=true then te c l d else f l)(hd:∀H' p,ab H H'->H' p=none->Q (.ref p) (upd H' p (.lst (List.replicate xs.length (.bl true))))):l6 own fr g k te σ Q (KH a) H :=
 sr (iZ hz) (λi ys H'=>ab H H'/\ys=List.replicate i (.bl true)) {ab.refl H,U} (λ_ _ _ q=>aH.of (q.1 _ _ o)) (λi x ys H' d f m ⟨e,j⟩ k1 _=>hs i x H' d f m e λh r=>k1 _ _ {e.trans r,by rw[j,ki]}) λH' p ys ⟨e,j⟩ _ n=>by rw[j];exact hd H' p e n
inductive FW(ws:List Str):List Fm->List PyData->Prop
 |nil:FW ws [] []
 |cons {f:Fm} {d:PyData} {fs:List Fm} {ds:List PyData}:QO ws f d->FW ws fs ds->FW ws (f::fs) (d::ds)
theorem FW.len:∀{fs:List Fm} {ds:List PyData},FW ws fs ds->ds.length=fs.length
 |_,_,.nil=>rfl
 |_,_,.cons _ t=>congrArg (·+1) t.len
theorem FW.at:∀{fs:List Fm} {ds:List PyData} {i:Nat},FW ws fs ds->fs[i]?=some f->ds[i]?=some d->QO ws f d
 |_,_,0,.cons h _,e,e2=>by cases e;cases e2;exact h
 |_,_,i+1,.cons _ t,e,e2=>t.at (i:=i) e e2
def Qk(hn:n≤1000000)(h:bA ws n f):∃z fs ds,f=.str z::ds/\fZ z=some fs/\FW ws fs ds/\(z∈(["back","again"]:List Str)->∃i,ds=[.int i]/\i<n):=by
 cases h with
 |nothing=>exact{_,_,_,U,U,.nil,λh=>absurd h ∅}
 |part p h=>exact{_,[.part],_,U,U,.cons {_,U,h} .nil,λh=>absurd h ∅}
 |move m p h1 h2=>exact{_,[.name,.part],_,U,U,.cons {_,U,h1} (.cons {_,U,h2} .nil),λh=>absurd h ∅}
 |cut m h1=>exact{_,[.name],_,U,U,.cons {_,U,h1} .nil,λh=>absurd h ∅}
 |put p b q h1 h2 c d e=>exact{_,[.part,.Fe,.signs],_,U,U,.cons {_,U,h1} (.cons h2 (.cons {_,U,c,d,e} .nil)),λh=>absurd h ∅}
 |out p l h1 h2 c d e=>exact{_,[.part,.Fb],_,U,U,.cons {_,U,h1} (.cons {_,U,h2,c,d,e} .nil),λh=>absurd h ∅}
 |mark p j g z v h1 h2 c d e=>exact{_,[.part,.side,.side,.word,.won],_,U,U,.cons {_,U,h1} (.cons h2 (.cons c (.cons {_,U,d} (.cons e .nil)))),λh=>absurd h ∅}
 |note p j g z h1 h2 c d=>exact{_,[.part,.side,.side,.word],_,U,U,.cons {_,U,h1} (.cons h2 (.cons c (.cons {_,U,d} .nil))),λh=>absurd h ∅}
 |line p z v h1 h2 c=>exact{_,[.part,.way,.line],_,U,U,.cons {_,U,h1} (.cons {_,U,by simpa using h2} (.cons c .nil)),λh=>absurd h ∅}
 |i6 p m h1 h2=>exact{_,[.part,.name],_,U,U,.cons {_,U,h1} (.cons {_,U,h2} .nil),λh=>absurd h ∅}
 |cell p a b z h1 h2 c d=>exact{_,[.part,.name,.name,.Fi],_,U,U,.cons {_,U,h1} (.cons {_,U,h2} (.cons {_,U,c} (.cons {_,U,d} .nil))),λh=>absurd h ∅}
 |leave p w t y h1 h2 c=>exact{_,[.part,.hand,.leave,.truth],_,U,U,.cons {_,U,h1} (.cons {_,U,h2} (.cons {_,U,c} (.cons {_,U} .nil))),λh=>absurd h ∅}
 |back k i h1 h2 c=>rcases h1 with rfl|rfl <;> exact{_,[.num],_,U,U,.cons {_,U,h2,()} .nil,λ_=>{_,U,c}}
 |hL k z h1 h2=>rcases h1 with rfl|rfl <;> exact{_,[.word],_,U,U,.cons {_,U,h2} .nil,λh=>absurd h ∅}
 |jC o h1 h2=>exact{_,[.counts],_,U,U,.cons {_,U,h1,h2} .nil,λh=>absurd h ∅}
def L5:PyData->Key
 |.str z=>.inr z
 |.int i=>.inl i
 |_=>.inl 0
def N6(f:iV ws a)(e:iV ws b)(h:a.map L5=b.map L5):a=b:=by
 obtain⟨w,n,i,rfl,_⟩:=f;obtain⟨c,g,d,rfl,_⟩:=e;have h:([.inr w,.inl n,.inl i]:List Key)=[.inr c,.inl g,.inl d]:=h
 simp at h
 rw[h.1,h.2.1,h.2.2]
theorem Ij:∀{l:List (List PyData)},l.Nodup->(∀a∈l,iV ws a)->(l.map (·.map L5)).Nodup
 |[],_,_=>wj
 |a::l,nd,h=>by
  have nd:=zk.mp nd;refine zk.mpr {λm=>?_,Ij nd.2 λx d=>h x (qo _ d)};obtain⟨b,c,e⟩:=qf.mp m;exact nd.1 (N6 (h b (qo _ c)) (h a ql) e▸c)
def rP(h:0<j)(k:∀r:Int,0≤r->r<j->Q (.int r) H):rI (λ_ j=>0<j) (λi j=>.int (i % j)) (.int i) (.int j) H Q:={_,_,U,U,h,k _ (Int.emod_nonneg _ (Int.ne_of_gt h)) (Int.emod_lt_of_pos _ h)}
def OS(h:wK i j)(k:∀r:Int,Q (.int r) H):rI wK (λi j=>.int (i / j)) (.int i) (.int j) H Q:={_,_,U,U,h,k _}
inductive B3(vs:List V)(H:Hp)(Q:VK)(_:XK):Prop
 |mk(v ds:_)(_:vs=[v])(_:DT H v (.tuple ds))(_:b9 ds)(_:∀H',ab H H'->Q (.str (eJ ds)) H')
inductive DC(vs:List V)(H:Hp)(Q:VK)(_:XK):Prop
 |mk(v ds:_)(_:vs=[v])(_:DT H v (.tuple ds))(_:ds.length≤10)(_:(∀d∈ds,Flat1 d))(_:∀H',ab H H'->Q (.str (Txt.join "," (ds.map bI))) H')
inductive zC(vs:List V)(H:Hp)(Q:VK)(_:XK):Prop
 |mk(v d:_)(_:vs=[v])(_:DT H v d)(_:qN d)(_:∀H',ab H H'->Q (.str (jU d)) H')
inductive De(vs:List V)(H:Hp)(Q:VK)(_:XK):Prop
 |mk(v d:_)(_:vs=[v])(_:DT H v d)(_:kT d)(_:∀H',ab H H'->Q (.str (CU d)) H')
inductive D7(vs:List V)(H:Hp)(Q:VK)(_:XK):Prop
 |mk(v d:_)(_:vs=[v])(_:DT H v d)(_:o_ d)(_:∀H',ab H H'->Q (.str (CG d)) H')
inductive C_(vs:List V)(H:Hp)(Q:VK)(_:XK):Prop
 |mk(z:Str)(_:vs=[.str z])(_:Q (.str (if z = "" then "!" else z)) H)
inductive Dz(vs:List V)(H:Hp)(Q:VK)(_:XK):Prop
 |mk(v d:_)(_:vs=[v])(_:DT H v d)(_:eX d)(_:∀H',ab H H'->Q (.str (iI d)) H')
inductive EX(vs:List V)(H:Hp)(Q:VK)(_:XK):Prop
 |mk(v ds ws:_)(_:vs=[v])(_:DT H v (.tuple ds))(_:Wt ds ws)(_:∀H' p,ab H H'->H' p=some (.lst (ws.map V.str))->Q (.ref p) H')
inductive BN(vs:List V)(H:Hp)(Q:VK)(_:XK):Prop
 |mk(v w n hs b ws:_)(_:vs=[v])(_:Jg H v w n hs b ws)(_:∀H',ab H H'->Q (.str (As w n hs b ws)) H')
inductive yJ(vs:List V)(H:Hp)(Q:VK)(_:XK):Prop
 |mk(dp des cell:_)(_:vs=[.ref dp,.int cell])(_:H dp=some (.lst des))(_:des.length≤500)(_:∀H' p zs,ab H H'->H p=none->H' p=some (.lst zs)->zs.Perm des->Q (.ref p) H')
def Lb(ws:List Str)(hn:Nat->Nat->Nat)(a:List Hs.Dd):PyData:=.list (.tuple ((mE ws.length a).map λ(n:Nat)=>.int (n:Int))::.list (ws.map .str)::a.map (oW ws hn λd=>a.filter (Hs.mJ d.hd)))
inductive zH(vs:List V)(H:Hp)(Q:VK)(_:XK):Prop
 |mk(x ws hn ss:_)(_:vs=[.ref x])(_:FK ak H x ws hn ss)(_:∀H' p,ab H H'->H p=none->DV H' (.ref p) (Lb ws hn ss)->Q (.ref p) H')
inductive i9(vs:List V)(H:Hp)(Q:VK)(_:XK):Prop
 |mk(sp ns:_)(_:vs=[.ref sp])(_:aw H sp (List.map V.int ns))(_:ns.length≤63)(_:Mr H)(_:∀H',Q (.bl true) H')
def mz:∀(H:Hp) (a:Addr) (b:List Int),b.length≤63->(∀t∈([]:List Str),H 0=some (.kA #[]))->(∀c∈MS,H c.1=some (.tup c.2))->aw H a (b.map V.int)->i9 [.ref a] H (λv _=>v=.bl true) λ_ _ _=>False:=λH a b h1 _ e d=>{a,b,U,d,h1,Mr.of e,λ_=>rfl}
def hI(d:Hs.Dd):List Int:=d.hd.map λ(n:Nat)=>(n:Int)
structure yQ(ws:List Str)(d:Hs.Dd)(wds:List Str):Prop where
 d8:Fj ws (wA ws d.aB) d.num (hI d) d.br d.wt wds
 wt:Wt d.wt wds
 aB:d.aB<ws.length
def Mh(ws:List Str)(d:Hs.Dd)(a:List Str):Str:=As (wA ws d.aB) d.num ((hI d).map PyData.int) d.br a
def JZ(h:RL H1 s ws)(nd:ws.Nodup)(W:Hs.Wh ws.length ds)(u:ds.length≤62)(hd:d∈ds)(t:sI ws d.br)(o:bA ws d.num d.wt):∃b,yQ ws d b:=by
 have bR:=C0 W hd;have a:=W.aB d hd;have m:=W.len d hd;have own:=W.own d hd;obtain⟨b,g,i⟩:=Mu h.wd h.pos h.bR (num:=d.num) () o;have f:=gV a;have n:wA ws d.aB∈ws:=qk f
 have l:∀c∈hI d,0≤c/\c≤1000000:=λc p=>by
  obtain⟨k,q,rfl⟩:=qf.mp p;obtain⟨j,w,e⟩:=zw q;have:=bR.2 j ()
  have v:Hs.aK d.hd j=k:=by
   unfold Hs.aK;rw[qu,qc w,e];rfl
  omega
 refine{b,{n,(),(),by unfold hI;rw[qa];exact m,l,?_,t,o,i,g.len},g,a};have r:ws.idxOf (wA ws d.aB)=d.aB:=Hs.fN nd (Ie n) f;unfold hI;rw[r,qh,qc ()]
 have v:Hs.aK d.hd d.aB=d.hd[d.aB]'():=by
  unfold Hs.aK;rw[qu,qc ()];rfl
 show some ((d.hd[d.aB]'():Nat):Int)=_
 congr 1
 omega
def yQ.ok(h:yQ ws d b)(i:RL H1 l ws)(at':Hs.ay H ws v d):Jg H v (wA ws d.aB) d.num ((hI d).map PyData.int) d.br b:=by
 have n1:=h.d8.n1;have n2:=h.d8.n2;obtain⟨q,t,j,m,p,rfl,g,eq,k,tb,o⟩:=at';have s:=pF g;subst s
 have f:DT H (.ref j) (.tuple ((hI d).map PyData.int)):=.tup k (by
  have:=L2.bU H (d.hd.map λ(n:Nat)=>(n:Int));rw[zj]at this
  exact this)
 refine{{q,.ref j,m,p,d.wt,U,eq,f,tb,o,h.wt},c_ (i.wd _ h.d8.Jc),{(),()},by rw[qa,h.d8.lc];have:=i.bR;omega,λy r=>?_,?_}
 ·obtain⟨c,e,rfl⟩:=qf.mp r
  exact .inr {c,U,(h.d8.hc c e).1,by have:=(h.d8.hc c e).2;omega}
 ·rcases h.d8.br with hb|⟨a,c,hb,ha,e⟩
  ·exact .inl hb
  ·exact .inr ⟨a,c,hb,c_ (i.wd a ha),c_ e⟩
def FC(hw:d.aB<ws.length)(h:DT H v (.tuple [.str (wA ws d.aB),.int d.num,.tuple ((hI d).map PyData.int),d.br,.tuple d.wt])):Hs.ay H ws v d:=by
 cases h with
 |tup e t =>
  obtain⟨⟩|⟨⟨⟩,⟨⟩|⟨⟨⟩,⟨⟩|⟨b,⟨⟩|⟨tb,⟨⟩|⟨a,⟨⟩⟩⟩⟩⟩⟩:=t
  cases b with
  |tup c th =>
   have:=My.bU th;subst this;refine{_,_,_,_,_,U,gV hw,e,?_,tb,a};rw[c];unfold hI;rw[zj];rfl
def Qt:∀i:Nat,i<64->∀j:Nat,j<64->([toString (i:Int)]:List Str)=([toString (j:Int)]:List Str)->i=j:=∅
def v5{k:Addr}(hw:RL H1 k ws)(hd:Fj ws h n f b j d):∀x∈([h,toString n,Txt.join "," ((f.map PyData.int).map bI),jU b]:List Str)++d,dC x:=λx a=>by
 have i:Nb n:={by have:=hd.n1;omega,by have:=hd.n2;omega};have l:cM (.tuple (f.map PyData.int)) (Txt.join "," ((f.map PyData.int).map bI)):={f,λe=>by have:=hd.lc;have:=hw.pos;rw[e]at *;simp at *;omega,by have:=hd.lc;have:=hw.bR;omega,U,λc g=>{(hd.hc c g).1,by have:=(hd.hc c g).2;omega},by rw[List.map_map];rfl};rcases qy.mp a with a|a
 ·simp only[List.mem_cons,List.not_mem_nil,or_false]at a
  rcases a with rfl|rfl|rfl|rfl
  ·exact ip (hw.wd _ hd.Jc)
  ·exact kZ i
  ·exact cM.fr l
  ·exact E6.fr (HS hw.wd hd.br)
 ·exact eO.fr hd.rw x a
def HC(hw:RL H1 i ws)(hd:Fj ws d n f b h a):Txt.split (As d n (f.map PyData.int) b a) " "=([d,toString n,Txt.join "," ((f.map PyData.int).map bI),jU b]:List Str)++a:=sU (c:=32) (by simp) λx g e=>(v5 hw hd x g 32 e).1 rfl
def FQ{g:Addr}(hw:RL H1 g ws)(h:yQ ws d f)(h':yQ ws d' c)(e:Mh ws d f=Mh ws d' c):wA ws d.aB=wA ws d'.aB/\d.num=d'.num:=by
 have a:=HC hw h.d8;have b:=HC hw h'.d8;unfold Mh at e;rw[e,b]at a;injection a with a1 a;injection a with a2 _;have n2:=h.d8.n2;have i:=h'.d8.n2;exact{a1.symm,Qt _ () _ () (by rw[a2])}
def yX{g:List PyData}(hw:RL H1 i ws)(hd:Fj ws e n f b g a):PyData.strOk (As e n (f.map PyData.int) b a)=true:=by
 have fr:=v5 hw hd;show Array.all _ _=true;rw[←jq];refine zm.mpr λc d=>qA ?_;rcases JT d with h|⟨x,hx,d⟩
 ·rw[h];decide
 ·exact(fr x hx c d).2
theorem vQ{α:Type}{P:V->α->Prop}:∀{ys:List V},(∀y∈ys,∃k,P y k)->∃ks:List α,A2 P ys ks
 |[],_=>{[],.nil}
 |y::ys,h=>by
  obtain⟨k,d⟩:=h y ql;obtain⟨ks,a⟩:=vQ λz hz=>h z (qo _ hz);refine{k::ks,by rw[qr,qr,a.1],λm z j b c=>?_}
  cases m with
  |zero=>cases b;cases c;exact d
  |succ m=>exact a.2 m z j (by simpa using b) (by simpa using c)
theorem IV{α:Type}{P:α->Prop}{g:α->V}:∀{zs:List V} {es:List α},A2 (λv d=>P d/\v=g d) zs es->zs=es.map g
 |[],[],_=>rfl
 |[],_::_,h=>by cases h.1
 |_::_,[],h=>by cases h.1
 |z::zs,e::es,h=>by rw[qi,←(h.2 0 z e rfl rfl).2,←IV h.tail]
def CI:af LF ["thing"] (aa pb):={U,U,U,∅,U,∅,∅}
def Bx:af Gn ["thing","length"] (aa qV):={U,U,U,∅,U,∅,∅}
def zA:af LL ["thing","least"] (aa nr):={U,U,U,∅,U,∅,∅}
def zS:af Gw ["thing","texts"] (aa mO):={U,U,U,∅,U,∅,∅}
def BZ:af G2 ["deed"] (aa qR):={U,U,U,∅,U,∅,∅}
def B0:af KQ ["roll","thing"] (aa pk):={U,U,U,∅,U,∅,∅}
def A9:af Ll ["name"] (aa qM):={U,U,U,∅,U,∅,∅}
def x5:af J0 ["counts"] (aa oK):={U,U,U,∅,U,∅,∅}
def EJ:af Jt ["branch"] (aa p'):={U,U,U,∅,U,∅,∅}
def CC:af I0 ["text"] (aa mM):={U,U,U,∅,U,∅,∅}
def J_:af vJ ["word"] (aa og):={U,U,U,∅,U,∅,∅}
def xy:af FL ["word"] (aa qL):={U,U,U,∅,U,∅,∅}
def Dc:af LW ["roll","deed"] (aa oM):={U,U,U,∅,U,∅,∅}
def BG:af HH ["deed","other"] (aa oz):={U,U,U,∅,U,∅,∅}
def BY:af Gz ["deed"] (aa ou):={U,U,U,∅,U,∅,∅}
def yA:af HB ["roll"] (aa nB):={U,U,U,∅,U,∅,∅}
def BQ:af Jz ["self"] (aa nU):={U,U,U,∅,U,∅,∅}
def xw:af G7 ["self"] (aa pK):={U,U,U,∅,U,∅,∅}
def Jr:af uU ["self"] (aa lQ):={U,U,U,∅,U,∅,∅}
def Dr:af Kt ["self","name"] (aa oY):={U,U,U,∅,U,∅,∅}
def xo:af IR ["self","name"] (aa lH):={U,U,U,∅,U,∅,∅}
def Cp:af wD ["self","counts"] (aa km):={U,U,U,∅,U,∅,∅}
def iX:af GA ["_law_cell","_law_many"] (aa oI):={U,U,U,∅,U,∅,∅}
def lg:af Hr ["_law_number"] (aa nH):={U,U,U,∅,U,∅,∅}
def F_:af Ih ["_law_number","_law_roll_here"] (aa pP):={U,U,U,∅,U,∅,∅}
def pS:af IQ ["_law_deeds","_law_cell"] (aa m_):={U,U,U,∅,U,∅,∅}
def ES:af Lj ["thing"] (aa pw):={U,U,U,∅,U,∅,∅}
def C2:af Ks ["thing"] (aa mQ):={U,U,U,∅,U,∅,∅}
def DN:af Hk ["roll","thing"] (aa o8):={U,U,U,∅,U,∅,∅}
def Ex:af Hw ["roll","thing"] (aa nF):={U,U,U,∅,U,∅,∅}
def zI:af LM ["roll","thing"] (aa pZ):={U,U,U,∅,U,∅,∅}
def C5:af JL ["roll","thing"] (aa qX):={U,U,U,∅,U,∅,∅}
def BK:af Gy ["roll","thing"] (aa oE):={U,U,U,∅,U,∅,∅}
def yR:af Hg ["roll","thing"] (aa oC):={U,U,U,∅,U,∅,∅}
def D5:af JJ ["roll","thing"] (aa ox):={U,U,U,∅,U,∅,∅}
def AL:af Kg ["roll","thing"] (aa p8):={U,U,U,∅,U,∅,∅}
def BL:af HR ["side"] (aa qS):={U,U,U,∅,U,∅,∅}
def Bf:af K3 ["sign"] (aa oq):={U,U,U,∅,U,∅,∅}
def Bt:af KZ ["word"] (aa nh):={U,U,U,∅,U,∅,∅}
def x_:af GJ ["word"] (aa pQ):={U,U,U,∅,U,∅,∅}
def sy:af Hf ["deeds"] (aa pJ):={U,U,U,∅,U,∅,∅}
def CB:af HN ["roll","told","deed"] (aa oh):={U,U,U,∅,U,∅,∅}
def Aq:af Li ["self","name"] (aa pW):={U,U,U,∅,U,∅,∅}
def kF:af JU ["_law_cell"] (aa oF):={U,U,U,∅,U,∅,∅}
def BU:af JD ["_law_number","_law_roll_here"] (aa p6):={U,U,U,∅,U,∅,∅}
def B6:af GR ["_law_number","_law_roll_here"] (aa p4):={U,U,U,∅,U,∅,∅}
def A4:af Fv ["_law_number","_law_roll_here"] (aa mZ):={U,U,U,∅,U,∅,∅}
def A1:af IH ["thing"] (aa m4):={U,U,U,∅,U,∅,∅}
def xO:af GN ["roll","thing"] (aa oX):={U,U,U,∅,U,∅,∅}
def DM:af Hz ["roll","thing"] (aa rg):={U,U,U,∅,U,∅,∅}
def xq:af Gp ["thing"] (aa nk):={U,U,U,∅,U,∅,∅}
def LZ:af Ld ["word"] (aa pT):={U,U,U,∅,U,∅,∅}
def J9:af Jv ["word"] (aa nQ):={U,U,U,∅,U,∅,∅}
def B7:af Lr ["word"] (aa n'):={U,U,U,∅,U,∅,∅}
def DY:af JE ["word"] (aa pE):={U,U,U,∅,U,∅,∅}
def A_:af Gx ["word"] (aa n6):={U,U,U,∅,U,∅,∅}
def sW:af I_ ["roll","told"] (aa lI):={U,U,U,∅,U,∅,∅}
def xp:af HP ["_law_number","_law_roll_here"] (aa pM):={U,U,U,∅,U,∅,∅}
def IM:af JM ["_law_number","_law_roll_here"] (aa n4):={U,U,U,∅,U,∅,∅}
def rr:af Lq ["_law_draws_here","_law_roll_here"] (aa ri):={U,U,U,∅,U,∅,∅}
def Dx:af LD ["_law_folk"] (aa pL):={U,U,U,∅,U,∅,∅}
def Af:af K2 ["roll","thing"] (aa mV):={U,U,U,∅,U,∅,∅}
def Bm:af Fy ["roll","thing"] (aa oU):={U,U,U,∅,U,∅,∅}
def DA:af Jn ["roll","thing"] (aa mT):={U,U,U,∅,U,∅,∅}
def zK:af LQ ["what"] (aa nE):={U,U,U,∅,U,∅,∅}
def xM:af FD ["word"] (aa mL):={U,U,U,∅,U,∅,∅}
def C1:af JX ["word"] (aa qP):={U,U,U,∅,U,∅,∅}
def Em:af HU ["word"] (aa qW):={U,U,U,∅,U,∅,∅}
def Ak:af Gc ["word"] (aa mR):={U,U,U,∅,U,∅,∅}
def Iw:af Kr ["self","roll","deeds"] (aa oG):={U,U,U,∅,U,∅,∅}
def Ag:af vZ ["_law_draws_here","_law_roll_here"] (aa lJ):={U,U,U,∅,U,∅,∅}
def mC:af Hy ["_law_kind","_law_more","_law_roll_here"] (aa nY):={U,U,U,∅,U,∅,∅}
def BH:af Ho ["roll","thing"] (aa o9):={U,U,U,∅,U,∅,∅}
def BR:af Lm ["roll","thing"] (aa oZ):={U,U,U,∅,U,∅,∅}
def Di:af G4 ["roll","thing"] (aa nJ):={U,U,U,∅,U,∅,∅}
def C':af uW ["roll","thing"] (aa lB):={U,U,U,∅,U,∅,∅}
def J2:af FP ["deed"] (aa oB):={U,U,U,∅,U,∅,∅}
def zU:af Jd ["word"] (aa pY):={U,U,U,∅,U,∅,∅}
def rN:af FE ["_law_kind","_law_more","_law_roll_here"] (aa oA):={U,U,U,∅,U,∅,∅}
def A0:af uD ["roll","thing"] (aa lL):={U,U,U,∅,U,∅,∅}
def A8:af FY ["kind","words"] (aa nA):={U,U,U,∅,U,∅,∅}
def sT:af KU ["_law_draws_here","_law_roll_here","_law_number"] (aa qK):={U,U,U,∅,U,∅,∅}
def GG:af Fl ["roll","number","thing"] (aa lz):={U,U,U,∅,U,∅,∅}
def DF:af IA ["words"] (aa oa):={U,U,U,∅,U,∅,∅}
def dW:af nL ["_law_script","_law_most"] (aa iD):={U,U,U,∅,U,∅,∅}
def CD:af JG ["roll","thing"] (aa mU):={U,U,U,∅,U,∅,∅}
def sM:af Kp ["roll","text"] (aa mW):={U,U,U,∅,U,∅,∅}
def ml:af vp ["_law_script"] (aa fm):={U,U,U,∅,U,∅,∅}
section
variable (P:Program)(w:World)(K:PySem.W.Frag)(mg:Str->Option Value)(base:Heap)
abbrev fB:Prop:=bz P w K mg base 1 "is_word" ["thing"] w_
abbrev fz:Prop:=bz P w K mg base 1 "is_tuple_of" ["thing","length"] Dg
abbrev iE:Prop:=bz P w K mg base 1 "is_number" ["thing","least"] ya
abbrev gY:Prop:=bz P w K mg base 1 "is_one_of" ["thing","texts"] zZ
abbrev lT:Prop:=bz P w K mg base 1 "name_of" ["deed"] xP
abbrev vY:Prop:=bz P w K mg base 1 "is_truth" ["roll","thing"] zW
abbrev jS:Prop:=bz P w K mg base 1 "shown_name" ["name"] B3
abbrev nj:Prop:=bz P w K mg base 1 "shown_counts" ["counts"] DC
abbrev vS:Prop:=bz P w K mg base 1 "shown_branch" ["branch"] zC
abbrev vX:Prop:=bz P w K mg base 1 "shown_text" ["text"] C_
abbrev iG:Prop:=bz P w K mg base 1 "read_number" ["word"] A'
abbrev uR:Prop:=bz P w K mg base 1 "read_truth" ["word"] Bs
abbrev pq:Prop:=bz P w K mg base 1 "last_heard" ["roll","deed"] Aj
abbrev ua:Prop:=bz P w K mg base 1 "had_heard_as_much" ["deed","other"] C9
abbrev t9:Prop:=bz P w K mg base 1 "how_many_heard" ["deed"] yN
abbrev uc:Prop:=bz P w K mg base 1 "seats_of" ["roll"] Es
abbrev vI:Prop:=lA P w K mg base 1 ak "roll" ["self"] (EV ak) false
abbrev tW:Prop:=lA P w K mg base 1 ak "names" ["self"] (Ds ak) false
abbrev vH:Prop:=lA P w K mg base 1 ak "counts" ["self"] (ET ak) false
abbrev tU:Prop:=lA P w K mg base 1 ak "deed" ["self","name"] (y4 ak) false
abbrev oT:Prop:=lA P w K mg base 1 ak "key" ["self","name"] (zE ak) true
abbrev vD:Prop:=lA P w K mg base 1 ak "names_within" ["self","counts"] (wZ ak) false
abbrev nX:Prop:=bz P w K mg base 1 "_law_draws" ["_law_cell","_law_many"] A6
abbrev iL:Prop:=bz P w K mg base 1 "_law_word" ["_law_number"] yC
abbrev j1:Prop:=bz P w K mg base 1 "_law_name" ["_law_number","_law_roll_here"] D2
abbrev tP:Prop:=bz P w K mg base 1 "_law_mixed_up" ["_law_deeds","_law_cell"] yJ
abbrev rj:Prop:=bz P w K mg base 2 "is_main" ["thing"] yF
abbrev oj:Prop:=bz P w K mg base 2 "is_any_name" ["thing"] Dh
abbrev pA:Prop:=bz P w K mg base 2 "is_hand" ["roll","thing"] Bh
abbrev tS:Prop:=bz P w K mg base 2 "is_plain_word" ["roll","thing"] EE
abbrev uQ:Prop:=bz P w K mg base 2 "is_word_or_none" ["roll","thing"] xA
abbrev uw:Prop:=bz P w K mg base 2 "is_word_or_empty" ["roll","thing"] CQ
abbrev t_:Prop:=bz P w K mg base 2 "is_way" ["roll","thing"] E4
abbrev uo:Prop:=bz P w K mg base 2 "is_leave" ["roll","thing"] Ao
abbrev v_:Prop:=bz P w K mg base 2 "is_deed_number" ["roll","thing"] AH
abbrev pN:Prop:=bz P w K mg base 2 "is_counts" ["roll","thing"] Bz
abbrev vW:Prop:=bz P w K mg base 2 "shown_side" ["side"] De
abbrev u0:Prop:=bz P w K mg base 2 "shown_sign" ["sign"] D7
abbrev fW:Prop:=bz P w K mg base 2 "read_plain" ["word"] Ej
abbrev oe:Prop:=bz P w K mg base 2 "read_counts" ["word"] z9
abbrev uL:Prop:=bz P w K mg base 2 "by_names" ["deeds"] AY
abbrev wC:Prop:=bz P w K mg base 2 "check_past" ["roll","told","deed"] xh
abbrev uk:Prop:=lA P w K mg base 2 ak "past" ["self","name"] (DZ ak) false
abbrev vr:Prop:=bz P w K mg base 2 "_law_roll" ["_law_cell"] Ei
abbrev jY:Prop:=bz P w K mg base 2 "_law_part" ["_law_number","_law_roll_here"] wW
abbrev lN:Prop:=bz P w K mg base 2 "_law_sign_name" ["_law_number","_law_roll_here"] B'
abbrev uZ:Prop:=bz P w K mg base 2 "_law_branch" ["_law_number","_law_roll_here"] CV
abbrev vR:Prop:=bz P w K mg base 3 "is_sign" ["thing"] EU
abbrev iC:Prop:=bz P w K mg base 3 "is_name" ["roll","thing"] x6
abbrev vC:Prop:=bz P w K mg base 3 "is_branch" ["roll","thing"] yP
abbrev uX:Prop:=bz P w K mg base 3 "shown_thing" ["thing"] Dz
abbrev lO:Prop:=bz P w K mg base 3 "read_name" ["word"] Cr
abbrev lZ:Prop:=bz P w K mg base 3 "read_sign_name" ["word"] Cv
abbrev uI:Prop:=bz P w K mg base 3 "read_plain_or_none" ["word"] xG
abbrev vL:Prop:=bz P w K mg base 3 "read_plain_or_empty" ["word"] Df
abbrev u9:Prop:=bz P w K mg base 3 "read_branch" ["word"] BI
abbrev vN:Prop:=bz P w K mg base 3 "heights_of" ["roll","told"] EZ
abbrev ub:Prop:=bz P w K mg base 3 "_law_side" ["_law_number","_law_roll_here"] Cw
abbrev tX:Prop:=bz P w K mg base 3 "_law_sign" ["_law_number","_law_roll_here"] CF
abbrev vE:Prop:=bz P w K mg base 3 "_law_sign_names" ["_law_draws_here","_law_roll_here"] yK
abbrev uN:Prop:=bz P w K mg base 3 "_law_told" ["_law_folk"] zH
abbrev om:Prop:=bz P w K mg base 4 "is_part" ["roll","thing"] Aw
abbrev vB:Prop:=bz P w K mg base 4 "is_line_or_none" ["roll","thing"] C7
abbrev lP:Prop:=bz P w K mg base 4 "is_sign_name" ["roll","thing"] EB
abbrev uP:Prop:=bz P w K mg base 4 "words_of" ["what"] EX
abbrev oO:Prop:=bz P w K mg base 4 "read_part" ["word"] zT
abbrev tO:Prop:=bz P w K mg base 4 "read_name_or_none" ["word"] Az
abbrev uj:Prop:=bz P w K mg base 4 "read_sign_name_or_none" ["word"] zR
abbrev uy:Prop:=bz P w K mg base 4 "read_side" ["word"] Br
abbrev tZ:Prop:=Nj P w K mg base 4 ak ["self","roll","deeds"] (Cm ak)
abbrev vU:Prop:=bz P w K mg base 4 "_law_signs" ["_law_draws_here","_law_roll_here"] A7
abbrev tT:Prop:=bz P w K mg base 4 "_law_what_of_marks" ["_law_kind","_law_more","_law_roll_here"] Cb
abbrev uS:Prop:=bz P w K mg base 5 "is_sign_name_or_none" ["roll","thing"] BV
abbrev ui:Prop:=bz P w K mg base 5 "is_side" ["roll","thing"] x8
abbrev uO:Prop:=bz P w K mg base 5 "is_sign_of_roll" ["roll","thing"] BC
abbrev uF:Prop:=bz P w K mg base 5 "is_sign_names" ["roll","thing"] D6
abbrev uH:Prop:=bz P w K mg base 5 "shown_deed" ["deed"] BN
abbrev uh:Prop:=bz P w K mg base 5 "read_sign" ["word"] BW
abbrev uY:Prop:=bz P w K mg base 5 "_law_what_of_signs" ["_law_kind","_law_more","_law_roll_here"] Bp
abbrev uq:Prop:=bz P w K mg base 6 "is_signs" ["roll","thing"] D3
abbrev uz:Prop:=bz P w K mg base 6 "read_listed" ["kind","words"] En
abbrev uT:Prop:=bz P w K mg base 6 "_law_what" ["_law_draws_here","_law_roll_here","_law_number"] xW
abbrev uA:Prop:=bz P w K mg base 7 "is_what" ["roll","number","thing"] Bi
abbrev uC:Prop:=bz P w K mg base 7 "read_what" ["words"] Bj
abbrev vu:Prop:=bz P w K mg base 7 "_law_house" ["_law_script","_law_most"] Ah
abbrev vV:Prop:=bz P w K mg base 8 "is_deed" ["roll","thing"] Ea
abbrev tV:Prop:=bz P w K mg base 9 "read_deed" ["roll","text"] y_
end
section
variable (P:Program)(w:World){K:PySem.W.Frag}{mg:Str->Option Value}(base:Heap){tk:Str->Tok}
def DH(T:Txt K mg tk)(F:FO K mg "is_word" pb):fB P w K mg base:=by
 refine ax F CI (m1 λ_=>rfl) {} λfa f A outer s H vs Q E j h=>?_
 refine{_,(aq (az (PW.pt (dz (cT (bP (cb dQ T.aC boot_isinstance (a2 (na 0) (dH (v:=.ty "str") (by rfl) T.dU boot_str rfl))))) (f9 (cT (sN d_ d_ aj (cb C3 T.bh boot_len (a1 (na 0))) (hX (v:=.int 8) (by rfl) T.gI {_,U})))))) (ai (ar cW)) aO)
   (ai (ar (cb (kE rfl) T.gK boot_all (a1 (l0 (BA (na 0)) (λ_ _ _=>b_) (λ_ _ _=>(Cn rD rD aE (na 0) aE)))))))),?_}
 obtain⟨z,rfl,ty,k⟩:=h;have hz:z.length≤sizeLine:=iZ ty;refine{_,"str",_,U,U,.str z,_,U,aM {z,U,hz,_,_,U,U,_,U,?_}};refine bC (λh1=>?_) λh1=>?_
 ·have h1:(1:Int)≤(z.length:Int):=qF h1
  refine{_,_,U,U,_,U,?_};refine bC (λh2=>?_) λh2=>?_
  ·have h2:¬(z.length:Int)≤8:=by simpa using h2
   rw[←HA λh=>h2 h.2];exact k H (ab.refl H)
  ·have h2:(z.length:Int)≤8:=by simpa using h2
   refine{z,U,Ja hz (λc=>some (.bl (jV c))) (λH'=>ab H H') (ab.refl H) (λc H' n g m p k1 o=>?_) λH' p s d=>?_}
   ·refine aL (B:=g H') {_,_,U,U,_,U,?_}
    have b:(!decide ((⟨#[c]⟩:Str).cps.toList<("a":Str).cps.toList))=decide (97≤c):=NW c;have i:(!decide (("z":Str).cps.toList<(⟨#[c]⟩:Str).cps.toList))=decide (c≤122):=ML c;rw[b];refine bC (λa=>?_) λa=>?_
    ·refine{_,_,U,U,?_}
     rw[i];exact k1 _ H' (by unfold jV;rw[a,wz]) p
    ·exact k1 _ H' (by unfold jV;rw[j4.mpr a,yr]) p
   ·refine{p,z.cps.toList.map jV,U,aw.of (by rw[aG,G0,zj];rfl),?_}
    have e:(z.cps.toList.map jV).all id=ef z:=by
     rw[Oc h1 h2,yc];rfl
    rw[e];exact k _ (s.up d)
 ·have h1:¬(1:Int)≤(z.length:Int):=by simpa using h1
  refine{_,U,aL ?_};rw[←HA λh=>h1 h.1];exact k H (ab.refl H)
def xX(T:Txt K mg tk)(F:FO K mg "is_tuple_of" qV):fz P w K mg base:=by
 refine ax F Bx (m2 λ_ _=>rfl) {} λfa c A outer s H vs Q E d h=>?_;refine{_,(ai (ar (dM (cb dQ T.aC boot_isinstance (a2 (na 0) (dH (v:=.ty "tuple") (by rfl) T.bG boot_tuple rfl))) (c0 (ce aP (cb cZ T.bh boot_len (a1 (na 0))) (na 1)))))),?_};obtain⟨a,xs,n,rfl,b,e,k⟩:=h;refine{_,"tuple",_,U,U,.tup b,_,U,aL {_,_,U,.inr (aH.of b),U,?_}};rw[qA (congrArg V.int e)];exact k
def zX(T:Txt K mg tk)(F:FO K mg "is_number" nr):iE P w K mg base:=by
 refine ax F zA (m2 λ_ _=>rfl) {} λfa a A outer s H vs Q E b h=>?_
 refine{_,(aq (az (PW.pt (dz (cT (bP (cb dQ T.aC boot_isinstance (a2 (na 0) (dH (v:=.ty "int") (by rfl) T.fy boot_int rfl))))) (f9 (bP (cb dQ T.aC boot_isinstance (a2 (na 0) (dH (v:=.ty "bool") (by rfl) T.k8 boot_bool rfl))))))) (ai (ar cW)) aO)
   (ai (ar (Cn d_ d_ (na 1) (na 0) (hX (v:=.int 1000000) (by rfl) T.iw {_,U}))))),?_}
 obtain⟨i,n,rfl,h1,h2,k⟩:=h;refine{_,"int",_,U,U,.int i,_,U,aM {_,"bool",_,U,U,.int i,_,U,aM {_,_,U,U,_,U,?_}}};rw[q0 (qA h1)];refine{_,_,U,U,?_};show Q (.bl (decide (i≤1000000))) H;rw[qA h2];exact k
def Eh(T:Txt K mg tk)(F:FO K mg "is_one_of" mO):gY P w K mg base:=by
 refine ax F zS (m2 λ_ _=>rfl) {} λfa a A outer s H vs Q E c h=>?_;refine{_,(ai (ar (dM (cb dQ T.aC boot_isinstance (a2 (na 0) (dH (v:=.ty "str") (by rfl) T.dU boot_str rfl))) (c0 (ce L9 (na 0) (na 1)))))),?_};obtain⟨z,p,zs,rfl,b,k⟩:=h;refine{_,"str",_,U,U,.str z,_,U,aL {p,_,U,.inr (aH.of b),U,(by rw[yc];exact zm.mpr λ_ _=>rfl),?_}};show Q (.bl (su _ _)) H;rw[m8];exact k
def B2(T:Txt K mg tk)(F:FO K mg "name_of" qR):lT P w K mg base:=by
 refine ax F BZ (m1 λ_=>rfl) {} λfa d A outer s H vs Q E f h=>?_;refine{_,(ai (ar (ba (a2 (xt (vv 0)) (xt (vv 0)))))),?_};obtain⟨v,ws,j,rfl,c,kk⟩:=h;obtain⟨q,i,b,x,rfl,a,k⟩:=ay.out c;exact{_,U,q,_,0,_,U,U,aH.of a,U,_,U,q,_,1,_,U,U,aH.of a,U,aN rfl,λp H' g s e=>kk H' _ s (G3 e)}
def AW(T:Txt K mg tk)(F:FO K mg "is_truth" pk):vY P w K mg base:=by
 refine ax F B0 (m2 λ_ _=>rfl) {} λfa a A outer s H vs Q E e h=>?_;refine{_,(ai (ar (cb dQ T.aC boot_isinstance (a2 (na 1) (dH (v:=.ty "bool") (by rfl) T.k8 boot_bool rfl))))),?_};obtain⟨p,ws,v,d,rfl,f,hw,c,⟨b,rfl⟩,k⟩:=h;cases c;exact{_,"bool",_,U,U,.bl b,k H (ab.refl H)}
def Bv(T:Txt K mg tk)(F:FO K mg "shown_name" qM):jS P w K mg base:=by
 refine ax F A9 (m1 λ_=>rfl) {} λfa y A outer s H vs Q E m h=>?_
 refine{_,(aq (az (ck aP (xt (vv 0)) aE) (ai (ar aE)) aO)
   (ai (ar (bm PySem.F.plainAttrs_str PySem.F.slot_str_join PySem.F.type_str_join wJ aE (a1 (l0 (iu (vv 0)) (λ_ _ _=>b_) (λ_ _ _=>(cy tK T.dU boot_str (a1 (vv 0)))))))))),?_}
 obtain⟨v,ds,rfl,G,hn,kk⟩:=h;obtain⟨q,xs,rfl,c,b⟩:=c9 G;have n:=lj b;obtain⟨M,g⟩:=hn.flat;rcases hn with rfl|⟨h,r,rfl,h0,a6,h8,m,hi⟩
 ·cases b with
  |cons a t =>
   cases eB a;refine{_,U,q,_,0,.str "",U,U,aH.of c,bH (j:=0) rfl,U,_,U,oP ∅ ?_};exact kk H (ab.refl H)
 ·have f:=b
  cases b with
  |cons a t =>
   cases eB a;refine{_,U,q,_,0,.str h,U,U,aH.of c,bH (j:=0) rfl,U,_,U,gE (decide_eq_false λz=>h0 (V.str.inj z)) ?_};have I:=tz (r:=r) h0;rw[I]at kk
   rename_i xt
   refine{U,_,U,q,U,{_,aH.of c},sr (xs:=.str h::xt) (iZ ()) (λi ys H'=>ys=(((PyData.str h::r).map bI).take i).map V.str/\H'=H) {U,U} (λ_ _ H' D=>by rw[D.2];exact aH.of c) (λj x ys H' N L e C k1 O=>?_) λH' p ys P _ o=>?_}
   ·obtain⟨rfl,rfl⟩:=C
    obtain⟨d,k,dv⟩:=rQ f e;obtain⟨f1,f2⟩:=rE dv (g d (qk k));refine aL (B:=L H') ?_;refine{_,U,x,U,f1,k1 _ _ {?_,U}};rw[BP (x:=bI d) (by rw[qh,k];rfl),zf,f2];rfl
   ·obtain⟨rfl,rfl⟩:=P
    rw[ww (by rw[qa,n];exact qb _)];refine{".",p,(PyData.str h::r).map bI,U,U,aw.of aG,?_,kk _ (ab.new o)};have:=oH g;have J:(".":Str).length=1:=rfl;rw[J,qa];omega
def An(T:Txt K mg tk)(F:FO K mg "shown_counts" oK):nj P w K mg base:=by
 refine ax F x5 (m1 λ_=>rfl) {} λfa n A outer s H vs Q E C h=>?_;refine{_,(ai (ar (bm PySem.F.plainAttrs_str PySem.F.slot_str_join PySem.F.type_str_join wJ aE (a1 (l0 (iu (vv 0)) (λ_ _ _=>b_) (λ_ _ _=>(cy tK T.dU boot_str (a1 (vv 0))))))))),?_};obtain⟨v,ds,rfl,t,f,e,kk⟩:=h;obtain⟨q,xs,rfl,c,b⟩:=c9 t;have z:=lj b;refine{U,_,U,q,U,{_,aH.of c},sr (xs:=xs) (iZ ()) (λi ys H'=>ys=((ds.map bI).take i).map V.str/\H'=H) {U,U} (λ_ _ H' r=>by rw[r.2];exact aH.of c) (λj x ys H' D y a o k1 G=>?_) λH' p ys P _ m=>?_}
 ·obtain⟨rfl,rfl⟩:=o
  obtain⟨d,g,dv⟩:=rQ b a;obtain⟨f1,f2⟩:=rE dv (e d (qk g));refine aL (B:=y H') ?_;refine{_,U,x,U,f1,k1 _ _ {?_,U}};rw[BP (x:=bI d) (by rw[qh,g];rfl),zf,f2];rfl
 ·obtain⟨rfl,rfl⟩:=P
  rw[ww (by rw[qa,z];exact qb _)];refine{",",p,ds.map bI,U,U,aw.of aG,?_,kk _ (ab.new m)};have:=oH e;have k:(",":Str).length=1:=rfl;rw[k,qa];omega
def DS(T:Txt K mg tk)(F:FO K mg "shown_branch" p'):vS P w K mg base:=by
 refine ax F EJ (m1 λ_=>rfl) {} λfa g A outer s H vs Q E k h=>?_;refine{_,(ai (ar (fH (ck mv (vv 0) eW) aE (bm PySem.F.plainAttrs_str PySem.F.slot_str_join PySem.F.type_str_join PY aE (a1 (vv 0)))))),?_};obtain⟨v,d',rfl,c,i,kk⟩:=h;rcases i with rfl|⟨a,b,rfl,la,lb⟩
 ·cases LN c
  exact⟨_,U,U,_,U,oP (qA rfl) (kk H (ab.refl H))⟩
 ·obtain⟨q,xs,rfl,f,e⟩:=c9 c
  cases e with
  |cons j t =>
   cases t with
   |cons d t =>
    cases t;cases eB j;cases eB d;refine{_,U,U,_,U,gE (decide_eq_false λz=>nomatch z) ?_};refine{U,_,U,".",q,[a,b],U,U,aH.of f,?_,kk H (ab.refl H)};have m:(".":Str).length=1:=rfl;show a.length+(b.length+0)+2 * (".":Str).length≤_;omega
def CJ(T:Txt K mg tk)(F:FO K mg "shown_text" mM):vX P w K mg base:=by
 refine ax F CC (m1 λ_=>rfl) {} λfa a A outer s H vs Q E b h=>?_;refine{_,(ai (ar (fH (ck aP (vv 0) aE) aE (vv 0)))),?_};obtain⟨z,rfl,kk⟩:=h;refine{_,U,U,_,U,?_}
 by_cases hz:z = ""
 ·rw[q0 hz]at kk
  exact oP (qA (by rw[hz])) kk
 ·rw[qt hz]at kk
  exact gE (decide_eq_false λq=>hz (V.str.inj q)) {_,U,kk}
def Ad(T:Txt K mg tk)(F:FO K mg "read_number" og):iG P w K mg base:=by
 refine ax F J_ (m1 λ_=>rfl) {} λfa I A outer s H vs Q E S h=>?_
 refine{_,(aq (sn J_.nd 1 (cb (kE rfl) T.gK boot_all (a1 (l0 (BA (na 0)) (λ_ _ _=>b_) (λ_ _ _=>(Cn rD rD aE (na 0) aE))))))
   (aq (az (PW.pt (dz (cT (bP (na 1))) (dz (cT (sN d_ d_ aj (cb C3 T.bh boot_len (a1 (na 0))) (hX (v:=.int 7) (by rfl) T.ir {_,U}))) (f9 (PW.pt (m6 (ck aP (fX DQ (na 0) aj (λ_ _=>rfl)) aE) (n_ (ck fY (na 0) aE)))))))) (ai fC) aO)
   (ai (ar (cy OT T.fy boot_int (a1 (na 0))))))),?_}
 obtain⟨z,d,rfl,Y,⟨n,rfl,a,rfl⟩,k⟩:=h;have W:=mH a;have D:=PZ a;have hz:(toString n:Str).length≤sizeLine:=qj (aV ());refine{_,U,Ja hz (λc=>some (.bl (decide (48≤c)&&decide (c≤57)))) (λH'=>ab H H') (ab.refl H) (λc H' X O g p k1 Z=>?_) λH1 q N C=>?_}
 ·refine aL (B:=O H') ?_
  refine{_,_,U,U,_,U,?_};have L:=le_0 c;have R:=Ox c;rw[L];refine bC (λt=>?_) λt=>?_
  ·refine{_,_,U,U,?_}
   rw[R];exact k1 _ H' (by rw[t,wz]) p
  ·exact k1 _ H' (by rw[j4.mpr t,yr]) p
 have M:=N.up (o:=.lst ((toString n:Str).cps.toList.filterMap λc=>some (.bl (decide (48≤c)&&decide (c≤57))))) C;refine{q,(toString n:Str).cps.toList.map λc=>decide (48≤c)&&decide (c≤57),U,aw.of (by rw[aG,G0,zj];rfl),?_}
 have e:(((toString n:Str).cps.toList.map λc=>decide (48≤c)&&decide (c≤57)).all id)=true:=by
  rw[yc,zm];intro c g;have:=ry a.1 c g;show(decide (48≤c)&&decide (c≤57))=true;rw[qA this.1,qA this.2];rfl
 rw[e];refine{_,U,aM ?_};refine{_,U,hz,_,_,U,U,_,U,?_};have y:decide ((1:Int)≤((toString n:Str).length:Int))=true:=qA ();rw[y];refine aL ?_;refine{_,_,U,U,_,U,?_};have G:decide (((toString n:Str).length:Int)≤7)=true:=qA ();rw[G];refine aM ?_
 have m:0<(toString n:Str).cps.toList.length:=by rw[zh];exact D
 obtain⟨c,f⟩:∃c,(toString n:Str).cps.toList[0]?=some c:={_,qc m};have g:iH (toString n:Str).cps.toList 0=some c:=bH (j:=0) f;refine{_,_,c,U,U,hz,g,U,_,U,?_};have b:Kj (Io ue (iR (J3 0) l_)) { nx:=λx H'=>Q V.aT H',rt:=Q } (List.set (L2.start vJ [V.str (Str.ofString (toString n))]) 1 (some (V.bl true))) (upd H1 q (.lst ((toString n:Str).cps.toList.filterMap λc=>some (.bl (decide (48≤c)&&decide (c≤57)))))):={n,U,a.1,by have:=a.2;omega,k _ _ M (.int n)};refine bC (λi=>?_) λi=>b;have i:V.str ⟨#[c]⟩=V.str "0":=qF i
 have J:c=48:=by
  have:=congrArg (λz:Str=>z.cps.toList) (V.str.inj i)
  have e:("0":Str).cps.toList=[48]:=∅
  rw[e]at this;exact(List.cons.inj this).1
 have r:=Kc a (J▸f);subst r;refine{U,_,U,?_};rw[show(!decide (V.str (Str.ofString (toString (0:Int)))=V.str "0"))=false from ∅];exact b
def D4(T:Txt K mg tk)(F:FO K mg "read_truth" qL):uR P w K mg base:=by
 refine ax F xy (m1 λ_=>rfl) {} λfa a A outer s H vs Q E c h=>?_
 refine{_,(aq (az (PW.pt (m6 (ck fY (na 0) aE) (n_ (ck fY (na 0) aE)))) (ai fC) aO)
   (ai (ar (ce aP (na 0) aE)))),?_}
 obtain⟨z,d,rfl,e,⟨b,rfl,rfl⟩,k⟩:=h
 cases b with
 |true =>
  refine{U,_,U,?_};rw[show(!decide (V.str (if true=true then("yes":Str) else "no")=V.str "yes"))=false from ∅];refine aM (aM ?_);refine{U,?_};rw[show decide (V.str (if true=true then("yes":Str) else "no")=V.str "yes")=true from ∅];exact k _ _ (ab.refl H) (.bl true)
 |false =>
  refine{U,_,U,?_};rw[show(!decide (V.str (if false=true then("yes":Str) else "no")=V.str "yes"))=true from ∅];refine aL ?_;refine{U,_,U,?_};rw[show(!decide (V.str (if false=true then("yes":Str) else "no")=V.str "no"))=false from ∅];refine aM ?_;refine{U,?_};rw[show decide (V.str (if false=true then("yes":Str) else "no")=V.str "yes")=false from ∅];exact k _ _ (ab.refl H) (.bl false)
def xJ(T:Txt K mg tk)(F:FO K mg "last_heard" oM):pq P w K mg base:=by
 refine ax F Dc (m2 λ_ _=>rfl) {} λfa G A outer s H vs Q E N h=>?_;refine{_,(ai (ar (l4 (own:=["hand","count"]) (fr:=[]) rfl (Qa (by rfl) T.lY (a2 (vv 0) (xt (vv 1)))) {U,∅,∅} (fU ∅) (λ_ _ _=>(mG (n:=2) rfl (eK (dF (i:=0) (by show List.Nodup (["hand","count"]:List Str);decide +kernel) rfl (Or.inl rfl)) (eK (dF (i:=1) (by show List.Nodup (["hand","count"]:List Str);decide +kernel) rfl (Or.inl rfl)) jZ)))) (λ_=>ow rfl rfl ⋯) (λ_ _ _=>(H_ (ck fw (vv 1) aj))) (λ_ _ _=>(ba (a2 (vv 0) (vv 1))))))),?_};obtain⟨t,v,ws,e,rfl,j,M,B,kk⟩:=h;obtain⟨q,r,b,x,rfl,L,k⟩:=ay.out M;have bR:=j.bR;refine{_,U,_,U,q,_,2,_,U,U,aH.of L,U,t,r,U,{_,aw.of j.at'},{_,aH.of k},rF (xs:=ws.map V.str) (ys:=Hs.bY e.hd) (λi zs H'=>ab H H'/\A2 (e_ H' ws) zs (Hs.bx e.hd i)) {ab.refl _,.nil} (λi zs H' ⟨s,_⟩=>{aw.of (s _ _ j.at'),aH.of (s _ _ k)}) (by rw[qa];exact qj (aV ())) ?_ ?_}
 ·rintro i x y zs H' p R W o C ⟨s,c⟩ a k1 I
  obtain⟨hi,rfl⟩:=x' o;obtain⟨D,rfl⟩:=CN C;have f:ab H' (upd H' p (.tup [.str (wA ws i),.int (Hs.aK e.hd i:Nat)])):=ab.new a;refine{p,_,U,aH.of aG,U,_,_,U,_,_,U,U,?_};refine{_,U,_,_,U,U,_,U,bC (λd=>?_) (λd=>?_)}
  ·have d:=qF d
   refine{_,U,_,U,aN rfl,λX S O m J=>k1 _ _ {(s.trans f).trans m,?_}};rw[Im,q0 ()];exact(c.imp λ_ _ _ g=>dB (f.trans m) g).snoc (G3 J)
  ·have d:¬((0:Int)<(Hs.aK e.hd i:Nat)):=λz=>d (qA z)
   refine I _ {s.trans f,?_};rw[Im,qt (),wo];exact c.imp λ_ _ _ g=>dB f g
 ·rintro H' p zs ⟨s,c⟩ _ a
  rw[qa,qa,B,yj]at c;exact kk _ p zs (s.up a) (s.free a) aG (c.imp λ_ _ _ g=>dB (ab.new a) g)
def z_(T:Txt K mg tk)(F:FO K mg "had_heard_as_much" oz):ua P w K mg base:=by
 refine ax F BG (m2 λ_ _=>rfl) {} λfa D A outer s H vs Q E M h=>?_;refine{_,(ai (ar (cb (kE rfl) T.gK boot_all (a1 (l4 (own:=["mine","its"]) (fr:=[]) rfl (HL (by rfl) T.lY (a2 (xt (vv 0)) (xt (vv 1)))) {U,∅,∅} (fU ∅) (λ_ _ _=>(mG (n:=2) rfl (eK (dF (i:=0) (by show List.Nodup (["mine","its"]:List Str);decide +kernel) rfl (Or.inl rfl)) (eK (dF (i:=1) (by show List.Nodup (["mine","its"]:List Str);decide +kernel) rfl (Or.inl rfl)) jZ)))) (λ_=>ow rfl rfl ⋯) (λ_ _ _=>b_) (λ_ _ _=>(ce Lz (vv 0) (vv 1)))))))),?_};obtain⟨v,u,ws,e,g,rfl,L,C,t,k,kk⟩:=h;obtain⟨q,r,b,x,rfl,J,m⟩:=ay.out L;obtain⟨I,f,R,S,rfl,c,a⟩:=ay.out C;refine{_,U,q,_,2,_,U,U,aH.of J,U,_,U,I,_,2,_,U,U,aH.of c,U,r,f,U,{_,aH.of m},{_,aH.of a},rF (xs:=Hs.bY e.hd) (ys:=Hs.bY g.hd) (λi zs H'=>ab H H'/\zs=((List.range i).map λj=>decide (Hs.aK g.hd j≤Hs.aK e.hd j)).map V.bl) {ab.refl _,U} (λi zs H' ⟨s,_⟩=>{aH.of (s _ _ m),aH.of (s _ _ a)}) (by rw[qa];exact qj (aV t)) ?_ ?_}
 ·rintro i x y zs H' p N W o z ⟨s,rfl⟩ d k1 O
  obtain⟨hi,rfl⟩:=CN o;obtain⟨B,rfl⟩:=CN z;refine{p,_,U,aH.of aG,U,_,_,U,_,_,U,U,?_};refine aL ?_;refine{_,U,_,U,_,_,U,U,k1 _ _ {s.trans (ab.new d),?_}};rw[je,zf,zf];exact congrArg (λb=>List.map V.bl ((List.range i).map λj=>decide (Hs.aK g.hd j≤Hs.aK e.hd j))++[V.bl b]) (decide_eq_decide.mpr Int.ofNat_le)
 ·rintro H' p zs ⟨s,rfl⟩ _ d
  refine{p,_,U,aw.of aG,kk _ _ (s.up d) ?_};rw[zm];rw[qa,qa,k,yj];constructor
  ·intro h i hi
   exact qF (h _ (qf.mpr {i,zy.mpr hi,U}))
  ·intro h b G
   obtain⟨i,hi,rfl⟩:=qf.mp G;exact qA (h i (zy.mp hi))
def EC(T:Txt K mg tk)(F:FO K mg "how_many_heard" ou):t9 P w K mg base:=by
 refine ax F BY (m1 λ_=>rfl) {} λfa j A outer s H vs Q E o h=>?_;refine{_,(ai (ar (cb RO T.vP boot_sum (a1 (xt (vv 0)))))),?_};obtain⟨v,ws,c,rfl,i,p,hs,kk⟩:=h;obtain⟨q,e,b,x,rfl,f,m⟩:=ay.out i;refine{_,U,q,_,2,_,U,U,aH.of f,U,e,c.hd.map λ(n:Nat)=>(n:Int),U,.inr (aH.of (by rw[zj];exact m)),λn hn=>?_,?_,?_}
 ·obtain⟨k,g,rfl⟩:=qf.mp hn
  have:=hs k g;omega
 ·rw[qa]
  omega
 ·rw[show(c.hd.map λ(n:Nat)=>(n:Int)).sum=((c.hd.sum:Nat):Int) from ?_]
  ·exact kk
  ·have:∀l:List Nat,(l.map λ(n:Nat)=>(n:Int)).sum=((l.sum:Nat):Int):=λl=>by
    induction l with
    |nil=>rfl
    |cons a l d=>rw[qi,wc,wc,d];omega
   exact this _
def C4(T:Txt K mg tk)(F:FO K mg "seats_of" nB):uc P w K mg base:=by
 refine ax F yA (m1 λ_=>rfl) {} λfa r A outer s H vs Q E k h=>?_;refine{_,(ai (ar (cy (M9 k.hd (RV k)) T.xB boot_dict (a1 (l4 (own:=["seat","hand"]) (fr:=[]) rfl (yZ (by rfl) T.el (a1 (vv 0))) {U,∅,∅} (fU ∅) (λ_ _ _=>(mG (n:=2) rfl (eK (dF (i:=0) (by show List.Nodup (["seat","hand"]:List Str);decide +kernel) rfl (Or.inl rfl)) (eK (dF (i:=1) (by show List.Nodup (["seat","hand"]:List Str);decide +kernel) rfl (Or.inl rfl)) jZ)))) (λ_=>ow rfl rfl ⋯) (λ_ _ _=>b_) (λ_ _ _=>(ba (a2 (vv 1) (vv 0))))))))),?_};obtain⟨t,ws,rfl,j,nd,kk⟩:=h;have bR:=j.bR;refine{_,U,t,U,{_,aw.of j.at'},ND (xs:=ws.map V.str) (by rw[qa];exact qj (aV ())) (λi zs H'=>ab H H'/\A2 (λy e=>∃b,y=.ref b/\H' b=some (.tup [kV e.1,e.2])) zs ((cL ws).take i)) {ab.refl _,.nil} (λi zs H' ⟨s,_⟩=>aw.of (s _ _ j.at')) ?_ ?_}
 ·rintro i x zs H' p C J f ⟨s,c⟩ a k1 I
  obtain⟨hi,rfl⟩:=x' f;have d:ab H' (upd H' p (.tup [.int (i:Int),.str (wA ws i)])):=ab.new a;refine{p,_,U,aH.of aG,U,_,_,U,_,_,U,U,?_};refine aL ?_;refine{_,U,_,U,aN rfl,λz G D m B=>k1 _ _ {(s.trans d).trans m,?_}};rw[zo,He hi];exact(c.imp λ_ _ _ ⟨b,e,g⟩=>{b,e,m _ _ (d _ _ g)}).snoc {z,U,B}
 ·rintro H' p zs ⟨s,c⟩ hz a
  rw[qa,←IP ws,zn]at c;refine{p,zs,cL ws,U,aw.of aG,KI (c.imp λ_ _ _ ⟨b,e,g⟩=>{b,e,ab.new a _ _ g}),?_,λq H2 v d o=>kk _ _ ((s.up a).trans d) ((s.up a).free v) ?_}
  ·rw[c.1,IP];omega
  ·rw[o,Kq _ _ (GW nd) (λe _ x f=>absurd f yw)]
   rfl
def Bq(T:Txt K mg tk)(F:MO K ak "roll" "Folk.roll" false nU):vI P w K mg base:=by
 refine jP F BQ (m1 λ_=>rfl) {} λfa c A outer s H vs Q E k h=>?_;refine{_,(ai (ar (cy tE T.gQ boot_list (a1 (fd T.aS T.b' (vv 0)))))),?_};obtain⟨x,ws,hn,t,rfl,fk,kk⟩:=h;obtain⟨dx,b,sp,tp,i,q,kvs,f,m,es,d,a,r,to,td,j,n,hd,o,na,p,up⟩:=fk;exact{_,U,x,dx,_,_,U,d,GV,b,_,U,.inl (aw.of a.at'),λl H' g s e=>kk H' l s g {e,a.pos,a.bR,a.wd}}
def BF(T:Txt K mg tk)(F:MO K ak "names" "Folk.names" false pK):tW P w K mg base:=by
 refine jP F xw (m1 λ_=>rfl) {} λfa d A outer s H vs Q E m h=>?_;refine{_,(ai (ar (cy tE T.gQ boot_list (a1 (fd T.aS T.bt (vv 0)))))),?_};obtain⟨x,ws,hn,t,rfl,fk,kk⟩:=h;obtain⟨dx,p,sp,tp,j,c,kvs,i,a,es,f,q,r,to,td,k,n,hd,b,na,o,up⟩:=fk;exact{_,U,x,dx,_,_,U,f,Eu,c,_,U,.inl (aw.of b),λl H' g s e=>kk H' l a s g e (na.imp λ_ _ _ g=>dB s g)}
def xI(T:Txt K mg tk)(F:MO K ak "counts" "Folk.counts" false lQ):vH P w K mg base:=by
 refine jP F Jr (m1 λ_=>rfl) {} λfa cdv A outer s H vs Q E N h=>?_
 refine{_,(aq (sm Jr.nd 1 (l0 (il (fd T.aS T.bt (vv 0))) (λ_ _ _=>b_) (λ_ _ _=>(xt (vv 0)))))
   (ai (ar (cy iy T.bG boot_tuple (a1 (vK (aa lQ) uU [("made_by",1)] (il (fd T.aS T.b' (vv 0))) (λ_ _ _=>b_) (λ_ _ _=>(bm PySem.F.plainAttrs_list PySem.F.slot_list_count PySem.F.type_list_count (RQ N) (vc 1) (a1 (vv 0)))))))))),?_}
 obtain⟨x,ws,hn,k,rfl,fk,kk⟩:=h;obtain⟨dx,Y,sp,tp,gp,np,kvs,hvs,O,es,J,r,se,to,td,pe,I,hd,D,na,sw,up⟩:=fk;obtain⟨nd,W,hg,gd,bR⟩:=id sw
 have hns:O.length≤63:=by rw[na.1,qa];exact bR
 have L:=r.bR;refine{_,U,x,dx,_,_,U,J,Eu,np,U,{_,aw.of D},pa (α:=Hs.Dd) (js:=k) (λH v e=>e_ H ws v (nm e)) (λH v e=>v=.str (wA ws e.aB)) (λ_ _ _ _ s g=>dB s g) (λ_ _ _ _ s g=>g) (aw.of D) () ?_ ?_ ?_}
 ·refine{by rw[na.1,qa],λi y e B o=>na.2 i y (nm e) B (by rw[qh,o];rfl)}
 ·intro y e M K1 hm c t k1
  obtain⟨b,rfl,Z⟩:=id t;exact{_,U,b,_,0,_,U,U,aH.of Z,U,k1 _ _ (ab.refl _) rfl}
 ·intro M bp z c g5 G C
  have eQ:A2 (DV M) z (k.map λe=>PyData.str (wA ws e.aB)):=A2.mw (C.imp λv e _ g=>by rw[g];exact .str _)
  have X:PyData.canLayAll0 (k.map λe=>PyData.str (wA ws e.aB))=true:=kW λd hd=>by
   obtain⟨e,I,rfl⟩:=qf.mp hd;exact gM (r.wd _ (ly (W.aB e I)))
  have f:=r.mono c;refine{_,U,x,dx,_,_,U,c _ _ J,GV,Y,U,{_,aw.of f.at'},pa (α:=Nat) (js:=List.range ws.length) (λH v j=>v=.str (wA ws j)/\j<ws.length) (λH v j=>v=.int ((k.filter λd=>decide (d.aB=j)).length:Nat)) (λ_ _ _ _ s g=>g) (λ_ _ _ _ s g=>g) (aw.of f.at') (by rw[qa];omega) ?_ ?_ ?_}
  ·refine{by rw[qa,vm],λi y j B o=>?_}
   obtain⟨hi,rfl⟩:=x' B;rw[yn hi]at o;cases o;exact{U,hi}
  ·rintro y j V K1 hj a ⟨rfl,m⟩ k1
   refine{_,U,.inl {U,_,aw.of (a _ _ G)},_,U,_,_,bp,_,_,U,U,.str _,aw.of (a _ _ G),A2.eQ (eQ.imp λ_ _ _ g=>g.same a),gM (r.wd _ (ly m)),X,zd _,k1 _ _ (ab.refl _) (by rw[Nz nd W.aB m])}
  ·intro V cp zs a g6 e6 n
   refine{cp,_,U,aw.of e6,λl H7 g7 s7 R=>kk H7 l ((c.trans a).trans s7) (c.free (a.free g7)) ?_};rw[R,show zs=Hs.bY (mE ws.length k) from ?_];apply wm;intro i;unfold mE;rw[qh,qh]
   cases q:(List.range ws.length)[i]? with
   |none=>rw[vy (by rw[n.1];exact jv.mp q)];rfl
   |some p=>obtain⟨y,S,t⟩:=n.to q;rw[S,t];rfl
def BM(T:Txt K mg tk)(F:MO K ak "deed" "Folk.deed" false oY):tU P w K mg base:=by
 refine jP F Dr (m2 λ_ _=>rfl) {} λfa g A outer s H vs Q E d h=>?_;refine{_,(ai (ar (mI (mm d) (fd T.aS T.bN (vv 0)) (vv 1) (λ_ _=>rfl)))),?_};obtain⟨x,v,ws,hn,z,y,rfl,fk,j,k,kk⟩:=h;obtain⟨dx,t,sp,tp,D,I,kvs,n,o,es,i,C,p,to,td,c,B,hd,r,na,f,up⟩:=fk;obtain⟨nd,W,q,G,bR⟩:=id f;have a:=W.perm c;obtain⟨b,e,m⟩:=td.get nd a.aB a.uniq (c.mem_iff.mpr k);exact{_,U,x,dx,_,_,U,i,Js,_,U,tp,kvs,_,b,U,to,j,e,kk b m}
def Ef(T:Txt K mg tk)(F:MO K ak "key" "Folk.key" true lH):oT P w K mg base:=by
 refine jP F xo (m2 λ_ _=>rfl) {} λfa c A outer s H vs Q E d h=>?_;have a:(A.deeper (envOfC "Folk.key" (aa lH) ↑s fa c)).units+1<cLine:=p7 d;refine{_,(ai (ar (ba (a2 (mI (mm d) (fd T.aS T.eg (vv 0)) (vv 1) (λ_ _=>rfl)) (Eb a (fd T.aS T.dD (vv 0)) (xt (vv 1)) (λ_ _=>rfl)))))),?_};obtain⟨x,v,ws,hn,es,f,rfl,ko,j,r,hw,nd,kk⟩:=h;obtain⟨dx,fs,m,sp,kvs,i,f1,f2,n,hd,hs⟩:=ko;have o:=hd f r;obtain⟨b,rfl,q⟩:=id j;refine{_,U,x,dx,_,_,U,i,f1,_,U,m,kvs,_,_,U,.of n,j,o,?_};refine{_,U,x,dx,_,_,U,i,f2,_,U,b,_,0,_,U,U,aH.of q,U,sp,_,U,(Hj nd hw▸ig.k (k:=Sum.inr (wA ws f.aB)) hs),aN rfl,λp H' g s e=>kk H' _ s ?_};exact .tup e (.cons (.int _) (.cons (.int _) .nil))
def CK(T:Txt K mg tk)(F:MO K ak "names_within" "Folk.names_within" false km):vD P w K mg base:=by
 refine jP F Cp (m2 λ_ _=>rfl) {} λfa m A outer s H vs Q E C h=>?_;have f:(A.deeper (envOfC "Folk.names_within" (aa km) ↑s fa m)).units+1<cLine:=p7 C;refine{_,(ai (ar (vK (aa km) wD [("counts",1),("self",0)] (il (fd T.aS T.bt (vc 0))) (λ_ _ _=>(H_ (ck d_ (xt (vv 0)) (xu (vc 1) (Eb f (fd T.aS T.dD (vc 2)) (xt (vv 0)) (λ_ _=>rfl)))))) (λ_ _ _=>(vv 0))))),?_};obtain⟨x,Z,ws,hn,d,row,rfl,fk,D,L,kk⟩:=h;obtain⟨dx,hp,sp,tp,gp,Y,kvs,hvs,G,es,t,rl,J,to,td,pe,he,hd,q,na,O,up⟩:=fk;obtain⟨nd,W,hg,gd,bR⟩:=id O
 have N:G.length≤63:=by rw[na.1,qa];exact bR
 refine{_,U,x,dx,_,_,U,t,Eu,Y,U,{_,aw.of q},vF (α:=Hs.Dd) (β:=Nat×Nat) (js:=d) (λH v e=>e_ H ws v (nm e)) (λH v p=>e_ H ws v p) (λe=>if Hs.mJ row e=true then some (nm e) else none) (λ_ _ _ _ s g=>dB s g) (λ_ _ _ _ s g=>dB s g) (aw.of q) () ?_ ?_ ?_}
 ·refine{by rw[na.1,qa],λi y e X I=>na.2 i y (nm e) X (by rw[qh,I];rfl)}
 ·intro y e B K1 K0 S a o k1 R
  have hw:=W.aB e S;obtain⟨b,rfl,r⟩:=id o;refine{_,U,b,_,1,_,U,U,aH.of r,U,_,U,_,U,x,dx,_,_,U,a _ _ t,LK,_,U,b,_,0,_,U,U,aH.of r,U,sp,_,U,(Hj nd hw▸ig.k (k:=Sum.inr (wA ws e.aB)) (a _ _ J)),?_};refine{Z,_,(e.aB:Int),_,U,U,aH.of (a _ _ D),bH (Ec (by rw[L];exact hw)),_,_,U,U,_,U,bC (λn=>?_) (λn=>?_)}
  ·have h1:Hs.mJ row e=true:=qA (Int.ofNat_le.mp (qF n))
   exact{_,U,k1 (nm e) _ _ (q0 h1) (ab.refl _) o}
  ·have h1:¬Hs.mJ row e=true:=λz=>n (qA (Int.ofNat_le.mpr (qF z)))
   exact R _ (qt h1) (ab.refl _)
 ·intro B V j a g5 M c
  rw[show d.filterMap (λe=>if Hs.mJ row e=true then some (nm e) else none)=(d.filter (Hs.mJ row)).map nm from ?_]at c
  ·exact kk B V j a g5 M c
  ·exact wR _ _ d
def xx(T:Txt K mg tk)(F:FO K mg "_law_draws" oI):nX P w K mg base:=by
 refine ax F iX (m2 λ_ _=>rfl) {} λfa r A outer s H vs Q E x h=>?_
 refine{_,(aq (sn iX.nd 2 (cI kH))
   (aq (sn iX.nd 3 (cb (BS rfl) T.lS boot_max (a2 aj (ah ng (vv 0) (ah kO aj aj)))))
   (aq (fo (nK (by rfl) T.fe (a1 (vv 1))) (gn iX.nd 4)
   (aq (sn iX.nd 5 (ah bJ (ah f7 (ah cP (ah cP (ah bJ (vv 0) aj) (ah f7 (ah f7 aj (vv 4)) (vv 4))) aj) aj) aj))
   (aq (sn iX.nd 5 (ah bJ (ah f7 (vv 5) (vv 5)) aj))
   (aq (sn iX.nd 6 (ah de (ah f7 (ah f7 (ah f7 (vv 5) (ah cP (vv 5) aj)) aj) (ah cP (ah cP (vv 5) (vv 4)) aj)) aj))
   (aq (az (ck fw (vv 3) aj) (ai (sn iX.nd 6 (vv 3))) aO)
   (aq (ap (vv 2) (a1 (ah bJ (vv 6) (ah kO aj aj))))
   (ai (sn iX.nd 3 (ah NS (vv 3) (ah kO aj aj))))))))))
   (ai (ar (vv 2)))))),?_}
 obtain⟨i,n,rfl,hn,k⟩:=h;refine{⋯,λp H1 o v t=>?_};refine{_,U,_,_,U,U,{⋯,⋯,⋯},_,_,U,U,_,_,U,?_}
 refine{_,U,n,U,(),(),tI (n:=(n:Int).toNat) (λj σ H2=>∃(e:Int) (a:List Int) (b c f:Option V),σ=[some (.int i),some (.int n),some (.ref p),some (.int e),b,c,f]/\ab H H2/\H2 p=some (.lst (a.map V.int))/\a.length=j)
  {_,[],none,none,none,U,v,t,U} ?_ ?_}
 ·rintro j σ H2 J ⟨e,a,b,c,f,rfl,g,h2,m⟩
  have q:j<31:=()
  refine{_,U,rP ⋯ λC _ _=>{_,U,_,_,U,U,.inl {⋯,⋯},_,U,_,_,U,U,.inr {(),()},_,_,U,U,_,_,U,U,_,_,U,U,.inr {⋯,⋯},rP ⋯ λG a1 B=>?_}};refine{_,U,_,U,_,_,U,U,.inl {(),()},rP ⋯ λD a2 z=>?_};refine{_,U,_,U,_,_,U,U,_,_,U,U,.inl {(),()},_,_,U,U,.inr {⋯,⋯},_,U,_,U,_,_,U,U,_,_,U,U,_,_,U,U,.inr {(),()},OS {⋯,⋯} λI=>?_};refine{_,U,_,_,U,U,_,U,?_};refine bC (λ_=>{_,U,?_}) λ_=>?_
  all_goals
   refine{_,U,.inl {U,_,aw.of h2},_,U,_,_,U,U,{⋯,⋯,⋯},rP (by decide:(0:Int)<10 ^ (34:Int).toNat) λy _ _=>{p,_,_,U,U,h2,(by rw[qa];exact aV ()),?_}};refine{_,U,_,_,U,U,{⋯,⋯,⋯},_,_,U,U,{(by decide:(0:Int)<10 ^ (34:Int).toNat),∅},?_};exact{_,a++[_],_,_,_,U,g.wr o,by rw[aG,zf];rfl,by rw[qm,zi,m]}
 ·rintro σ H2 ⟨e,a,b,c,f,rfl,g,h2,m⟩
  have d:a.length=n:=()
  exact{_,U,k H2 p a g o {h2,(),()} d}
def CM(T:Txt K mg tk)(F:FO K mg "_law_word" nH):iL P w K mg base:=by
 refine ax F lg (m1 λ_=>rfl) {} λfa d A outer s H vs Q E f h=>?_
 refine{_,(aq (sn lg.nd 1 aE)
   (aq (sn lg.nd 2 (ah cP aj (ah bJ (vv 0) aj)))
   (aq (sn lg.nd 0 (ah de (vv 0) aj))
   (aq (fo (nK (by rfl) T.fe (a1 (vv 2))) (gn lg.nd 3)
   (aq (sn lg.nd 1 (ah qO (vv 1) (fX DQ aE (ah bJ (vv 0) aj) (λ_ _=>rfl))))
   (ai (sn lg.nd 0 (ah de (vv 0) aj)))))
   (ai (ar (vv 1))))))),?_}
 obtain⟨i,rfl,k⟩:=h;refine{_,U,_,_,U,U,(by show(0:Int)<8;decide),_,_,U,U,?_};refine{_,U,_,_,U,U,{⋯,⋯},?_};have g:0≤i % 8/\i % 8<8:={Int.emod_nonneg _ ⋯,Int.emod_lt_of_pos _ ⋯}
 refine{_,U,_,U,(),(),tI (n:=(1+i % 8).toNat) (λj σ H2=>∃(n:Int) (z:Str) (q:Option V),σ=[some (.int n),some (.str z),some (.int (1+i % 8)),q]/\H2=H/\z.cps.size=j/\∀c∈z.cps.toList,97≤c/\c≤122)
  {i / 8,_,none,U,U,U,λ_ z=>nomatch z} ?_ ?_}
 ·rintro j σ H2 m ⟨n,z,q,rfl,rfl,hz,hw⟩
  have hn:0≤n % 26/\n % 26<26:={Int.emod_nonneg _ ⋯,Int.emod_lt_of_pos _ ⋯};obtain⟨c,b⟩:=Kw ("abcdefghijklmnopqrstuvwxyz":Str).cps.toList (n % 26) hn.1 (by rw[show("abcdefghijklmnopqrstuvwxyz":Str).cps.toList.length=26 from ∅];omega);refine{_,U,_,U,_,_,U,U,(by show(0:Int)<26;decide),_,_,_,U,U,∅,b,_,_,U,U,?_,?_}
  ·have:z.length=z.cps.size:=rfl
   have h1:(⟨#[c]⟩:Str).length=1:=rfl;have:=aV (n:=z.length+1) ();omega
  ·refine{_,U,_,_,U,U,{⋯,⋯},?_}
   refine{n / 26,_,_,U,U,by rw[EA];show _+1=_;omega,λe a=>?_};rw[rM]at a;rcases qy.mp a with y|y
   ·exact hw e y
   ·rw[zb.mp y]
    exact OE c (HZ b)
 ·rintro σ H2 ⟨n,z,q,rfl,rfl,hz,hw⟩
  exact⟨_,U,k z ⟨(),(),hw⟩⟩
def xR(T:Txt K mg tk)(F:FO K mg "_law_name" pP):j1 P w K mg base:=by
 refine ax F F_ (m2 λ_ _=>rfl) {} λfa f A outer s H vs Q E t h=>?_
 refine{_,(aq (sn F_.nd 2 (ah de (vv 0) (cb cZ T.bh boot_len (a1 (vv 1)))))
   (ai (ar (ba (a2 (xa (vv 1) (ah bJ (vv 0) (cb cZ T.bh boot_len (a1 (vv 1))))) (ah cP aj (ah bJ (ah de (vv 2) aj) (xa (cI (a2 aj (ah kO aj aj))) (ah bJ (vv 2) aj))))))))),?_}
 obtain⟨i,p,ws,rfl,a,k⟩:=h;refine{_,U,_,U,p,_,U,.inl (aw.of a.at'),_,_,U,U,a.len,?_};refine{_,U,_,U,_,U,p,_,U,.inl (aw.of a.at'),_,_,U,U,a.len.1,p,_,_,U,U,aw.of a.at',c7 _ a.len.1,df _ a.len.1,λv o=>?_};obtain⟨w,hw,rfl⟩:=qf.mp o;refine{_,U,_,_,U,U,{⋯,⋯},_,_,U,U,{⋯,⋯,⋯},aN rfl,λc H1 x g d=>?_};refine{_,U,_,_,U,U,(by show(0:Int)<2;decide),c,_,_,U,U,aw.of d,c7 _ ⋯,df _ ⋯,λm b=>?_}
 obtain⟨n,rfl,hn,r⟩:∃n,m=V.int n/\0<n/\n≤1000000:=by
  simp only[List.mem_cons,List.not_mem_nil,or_false]at b
  rcases b with rfl|rfl
  ·exact⟨9,U,⋯,⋯⟩
  ·exact⟨_,U,⋯,⋯⟩
 refine⟨_,_,U,U,hn,_,_,U,U,aN rfl,λj H2 y e q=>?_⟩;refine k H2 (.ref j) _ (g.trans e) (.tup q (.cons (.str w) (.cons (.int _) .nil))) {_,U,w,_,U,hw,?_,?_}
 ·have:=c7 (i / ((ws.map V.str).length:Int) / 2) hn
  omega
 ·have:=df (i / ((ws.map V.str).length:Int) / 2) hn
  omega
def Ba(T:Txt K mg tk)(F:FO K mg "_law_mixed_up" m_):tP P w K mg base:=by
 refine ax F pS (m2 λ_ _=>rfl) {} λfa D A outer s H vs Q E L h=>?_
 refine{_,(aq (sn pS.nd 2 (cI kH))
   (aq (fo (yZ (by rfl) T.el (a1 (vv 0))) (gt (eK (gn pS.nd 3) (eK (gn pS.nd 4) jZ)))
   (aq (sn pS.nd 5 (ah bJ (ah cP (ah bJ (vv 1) (ah kO aj aj)) (ah f7 (ah f7 aj (vv 3)) (vv 3))) (ah cP (cb cZ T.bh boot_len (a1 (vv 2))) aj)))
   (ai (CO (bm PySem.F.plainAttrs_list PySem.F.slot_list_insert PySem.F.type_list_insert NY (vv 2) (a2 (vv 5) (vv 4)))))))
   (ai (ar (vv 2))))),?_}
 obtain⟨dp,des,b,rfl,d,I,kk⟩:=h;refine{aN rfl,λc H1 z B G=>?_};refine{_,U,dp,U,{_,aw.of (B _ _ d)},IZ (xs:=des) (λj σ H2=>∃zs q i k,σ=[some (.ref dp),some (.int b),some (.ref c),q,i,k]/\ab H H2/\H2 c=some (.lst zs)/\zs.Perm (des.take j)) {[],_,_,_,U,B,G,.nil} (λj σ H2 _ ⟨_,_,_,_,_,s,_⟩=>aw.of (s _ _ d)) ?_ ?_}
 ·rintro j v σ H2 p t ⟨zs,q,i,k,rfl,o,g,e⟩ x
  have M:j<des.length:=(qw.mp t).1
  have J:zs.length=j:=by rw[e.length_eq,zq];omega
  refine{p,_,U,aH.of aG,U,_,_,U,_,_,U,U,?_};have y:ab H (upd H2 p (.tup [.int (j:Int),v])):=o.up x
  have f:(upd H2 p (.tup [.int (j:Int),v])) c=some (.lst zs):=by rw[aD (cg g x)];exact g
  generalize upd H2 p (.tup [.int (j:Int),v])=H3 at y f
  have n:(j:Int)<2 ^ 64:=()
  refine{_,U,_,_,U,U,{⋯,⋯,⋯},_,_,U,U,(by show(0:Int)<10 ^ 20;decide),_,U,_,_,U,U,.inl {⋯,⋯},_,U,_,_,U,U,.inr {(),n},_,_,U,U,_,U,c,_,U,.inl (aw.of f),_,_,U,U,_,_,U,U,(by show(0:Int)<(zs.length:Int)+1;omega),?_};have C:=c7 (b % (10 ^ 20)+48271 * (j:Int) * (j:Int)) (m:=(zs.length:Int)+1) ();have a1:=df (b % (10 ^ 20)+48271 * (j:Int) * (j:Int)) (m:=(zs.length:Int)+1) ();refine{_,U,.inl {U,_,aw.of f},_,U,_,U,c,zs,_,v,U,U,f,C,Int.lt_trans a1 (),aV (),lq zs _ v,_,_,_,U,y.wr z,aG,?_}
  have ep:∀r:Nat,(lq zs r v).Perm (zs++[v]):=λr=>by
   unfold lq;refine List.Perm.trans ?_ (gy v zs).symm;have:=List.perm_middle (a:=v) (l₁:=zs.take r) (l₂:=zs.drop r);rw[List.take_append_drop]at this;simpa using this
  rw[zo,t];exact(ep _).trans (e.append_right [v])
 ·rintro σ H2 ⟨zs,q,i,k,rfl,o,g,e⟩
  rw[zn]at e;exact{_,U,kk H2 c zs o z g e}
def xZ(T:Txt K mg tk)(F:FO K mg "is_main" pw)(b:iE P w K mg base)(c:gY P w K mg base)(d:fz P w K mg base):rj P w K mg base:=by
 refine ax F ES (m1 λ_=>rfl) {} λfa j A outer s H vs Q E f h=>?_;refine{_,(ai (ar (dM (cl d f (a2 (na 0) aj)) (dM (cl c f (a2 (xt (na 0)) (ba (a1 aE)))) (dM (cl b f (a2 (xt (na 0)) aj)) (c0 (ce aP (xt (na 0)) aj))))))),?_};obtain⟨a,w,n,rfl,e,hn,k⟩:=h;refine{a,_,_,U,e,U,_,U,aL {_,_,_,.str w,U,U,aH.of e,U,⋯,λq H1 o g i=>{w,q,[""],U,i,_,U,?_}}};have k1:=k H1 g
 by_cases hw:w = ""
 ·rw[qA (by simp[hw])]
  rw[qA hw]at k1;have m:=hn hw;refine aL {_,_,_,.int n,U,U,aH.of (g _ _ e),U,n,0,U,(),(),_,U,aL {_,_,_,.int n,U,U,aH.of (g _ _ e),U,U,?_}};rw[qA (congrArg V.int m)];exact k1
 ·rw[decide_eq_false (by simp[hw])]
  rw[decide_eq_false hw]at k1;exact aM k1
def Bc(T:Txt K mg tk)(F:FO K mg "is_any_name" mQ)(c:iE P w K mg base)(d:fz P w K mg base)(b:fB P w K mg base):oj P w K mg base:=by
 refine ax F C2 (m1 λ_=>rfl) {} λfa i A outer s H vs Q E e h=>?_;refine{_,(ai (ar (dM (cl d e (a2 (na 0) aj)) (dM (cl b e (a1 (xt (na 0)))) (c0 (cl c e (a2 (xt (na 0)) aj))))))),?_};obtain⟨a,w,n,rfl,f,hw,h1,h2,k⟩:=h;refine{a,_,_,U,f,U,_,U,aL {_,_,_,.str w,U,U,aH.of f,U,w,U,f3 hw,λH1 g=>?_}};rw[jL hw];exact{_,U,aL {_,_,_,.int n,U,U,aH.of (g _ _ f),U,_,_,U,h1,h2,k H1 g}}
def Ai(T:Txt K mg tk)(F:FO K mg "is_hand" o8)(a:fB P w K mg base):pA P w K mg base:=by
 refine ax F DN (m2 λ_ _=>rfl) {} λfa f A outer s H vs Q E e h=>?_;refine{_,(ai (ar (dM (cl a e (a1 (na 1))) (c0 (ce L9 (na 1) (na 0)))))),?_};obtain⟨p,ws,v,d,rfl,i,hw,g,⟨z,rfl,hz⟩,k⟩:=h;cases g;have b:=hw.wd z hz;refine{z,U,f3 b,λH1 c=>?_};rw[jL b];refine{_,U,aL {p,_,U,.inl (aw.of (c _ _ hw.at')),U,(by rw[yc];exact zm.mpr λ_ _=>rfl),?_}};show Q (.bl (su _ _)) H1;rw[m8,qA hz];exact k H1 c
def Ac(T:Txt K mg tk)(F:FO K mg "is_plain_word" nF)(a:fB P w K mg base):tS P w K mg base:=by
 refine ax F Ex (m2 λ_ _=>rfl) {} λfa c A outer s H vs Q E b h=>?_;refine{_,(ai (ar (cl a b (a1 (na 1))))),?_};obtain⟨p,ws,v,d,rfl,g,hw,f,⟨z,rfl,hz⟩,k⟩:=h;cases f;exact{z,U,f3 hz,λH1 e=>by rw[jL hz];exact k H1 e}
def BB(T:Txt K mg tk)(F:FO K mg "is_word_or_none" pZ)(a:fB P w K mg base):uQ P w K mg base:=by
 refine ax F zI (m2 λ_ _=>rfl) {} λfa e A outer s H vs Q E c h=>?_;refine{_,(ai (ar (ec (ce mv (na 1) eW) (c0 (cl a c (a1 (na 1))))))),?_};obtain⟨p,ws,v,d,rfl,g,hw,b,hd,k⟩:=h;refine{U,_,U,?_};rcases hd with rfl|⟨z,rfl,hz⟩
 ·cases b
  exact aL (k H (ab.refl H))
 ·cases b
  exact aM ⟨z,U,f3 hz,λH1 f=>by rw[jL hz];exact k H1 f⟩
def xY(T:Txt K mg tk)(F:FO K mg "is_word_or_empty" qX)(b:gY P w K mg base)(a:fB P w K mg base):uw P w K mg base:=by
 refine ax F C5 (m2 λ_ _=>rfl) {} λfa g A outer s H vs Q E e h=>?_;refine{_,(ai (ar (ec (cl a e (a1 (na 1))) (c0 (cl b e (a2 (na 1) (ba (a1 aE)))))))),?_};obtain⟨p,ws,v,d,rfl,n,hw,j,⟨z,rfl,hz⟩,k⟩:=h;cases j;rcases hz with rfl|hz
 ·refine⟨_,U,⋯,λH1 c=>⟨_,U,?_⟩⟩
  rw[show ef ""=false from ∅];refine aM {⋯,λq H2 m f i=>{_,q,[""],U,i,?_}};rw[qA (by simp)];exact k H2 (c.trans f)
 ·refine{_,U,f3 hz,λH1 c=>{_,U,?_}}
  rw[jL hz];exact aL (k H1 c)
def wX(T:Txt K mg tk)(F:FO K mg "is_way" oE)(a:gY P w K mg base):t_ P w K mg base:=by
 refine ax F BK (m2 λ_ _=>rfl) {} λfa e A outer s H vs Q E b h=>?_;refine{_,(ai (ar (cl a b (a2 (na 1) (hX (v:=.ref eh) rfl T.eh rfl))))),?_};obtain⟨p,ws,v,d,rfl,c,hw,f,⟨z,rfl,hz⟩,k⟩:=h;cases f;refine{z,_,["row","column"],U,c.way,?_};rw[qA hz];exact k H (ab.refl H)
def xK(T:Txt K mg tk)(F:FO K mg "is_leave" oC)(a:gY P w K mg base):uo P w K mg base:=by
 refine ax F yR (m2 λ_ _=>rfl) {} λfa e A outer s H vs Q E b h=>?_;refine{_,(ai (ar (cl a b (a2 (na 1) (hX (v:=.ref cz) rfl T.cz rfl))))),?_};obtain⟨p,ws,v,d,rfl,c,hw,f,⟨z,rfl,hz⟩,k⟩:=h;cases f;refine{z,_,["read","note","write","give"],U,c.RD,?_};rw[qA hz];exact k H (ab.refl H)
def DD(T:Txt K mg tk)(F:FO K mg "is_deed_number" ox)(a:iE P w K mg base):v_ P w K mg base:=by
 refine ax F D5 (m2 λ_ _=>rfl) {} λfa c A outer s H vs Q E b h=>?_;refine{_,(ai (ar (cl a b (a2 (na 1) aj)))),?_};obtain⟨p,ws,v,d,rfl,f,hw,e,⟨n,rfl,h1,h2⟩,k⟩:=h;cases e;exact{_,_,U,h1,h2,k H (ab.refl H)}
def xE(T:Txt K mg tk)(F:FO K mg "is_counts" p8)(b:iE P w K mg base)(f:fz P w K mg base):pN P w K mg base:=by
 refine ax F AL (m2 λ_ _=>rfl) {} λfa D A outer s H vs Q E m h=>?_;refine{_,(ai (ar (dM (cl f m (a2 (na 1) (cb cZ T.bh boot_len (a1 (na 0))))) (c0 (cb (kE rfl) T.gK boot_all (a1 (l0 (iu (na 1)) (λ_ _ _=>b_) (λ_ _ _=>(cl b m (a2 (na 0) aj)))))))))),?_};obtain⟨p,ws,v,d,rfl,M,hw,I,⟨N,rfl,J,y⟩,k⟩:=h;obtain⟨a,xs,rfl,g,t⟩:=c9 I;have e:=oJ t;subst e;have C:=hw.bR;refine{_,_,U,.inl (aw.of hw.at'),a,_,_,U,g,by rw[qa,qa,J],_,U,aL {a,U,{_,aH.of g},Oy (by rw[qa];omega) g (λi x H' L G n o k1=>?_) λH' q o z=>{q,List.replicate _ true,U,aw.of (by rw[aG,jh]),?_}}}
 ·rw[qh]at n
  obtain⟨c,j,rfl⟩:=vf.mp n;have r:=y c (qk j);exact aL (B:=G H') {_,_,U,r.1,r.2,k1 _ (ab.refl _)}
 ·rw[sh]
  exact k _ (o.up z)
def Am(T:Txt K mg tk)(F:FO K mg "shown_side" qS)(a:jS P w K mg base):vW P w K mg base:=by
 refine ax F BL (m1 λ_=>rfl) {} λfa i A outer s H vs Q E e h=>?_;refine{_,(ai (ar (ah qO (cl a e (a1 (xt (vv 0)))) (fH (ck aP (xt (vv 0)) aE) aE aE)))),?_};obtain⟨v,d',rfl,k,⟨ds,z,rfl,hn,hz⟩,kk⟩:=h;obtain⟨q,xs,rfl,c,f⟩:=c9 k
 cases f with
 |cons n t =>
  cases t with
  |cons d t =>
   cases t;cases eB d
   rename_i x
   refine{_,U,q,_,0,x,U,U,aH.of c,bH (j:=0) rfl,x,ds,U,n,hn,λH1 b=>?_};have o:=jR hn;have g:("<":Str).length=1:=rfl;have m:(">":Str).length=1:=rfl;refine{_,U,q,_,1,.str z,U,U,aH.of (b _ _ c),bH (j:=1) rfl,U,_,U,?_};rcases hz with rfl|rfl
   ·refine oP ∅ ⟨_,_,U,U,by rw[g];show _≤16777216;omega,?_⟩
    exact kk H1 b
   ·refine gE ∅ ⟨_,_,U,U,by rw[m];show _≤16777216;omega,?_⟩
    exact kk H1 b
def CA(T:Txt K mg tk)(F:FO K mg "shown_sign" oq)(c:jS P w K mg base):u0 P w K mg base:=by
 refine ax F Bf (m1 λ_=>rfl) {} λfa p A outer s H vs Q E o h=>?_
 refine{_,(aq (az (bP (cb dQ T.aC boot_isinstance (a2 (vv 0) (dH (v:=.ty "str") (by rfl) T.dU boot_str rfl)))) (ai (ar (fH (ck aP (vv 0) aE) aE (vv 0)))) aO)
   (aq (az (ck aP (xt (vv 0)) aE) (ai (ar (ah qO aE (xt (vv 0))))) aO)
   (ai (ar (ah qO aE (cl c o (a1 (xt (vv 0))))))))),?_}
 obtain⟨v,d',rfl,m,g,kk⟩:=h;rcases g with⟨z,rfl,hz,k⟩|⟨z,rfl,hz,k⟩|⟨ds,rfl,hn⟩
 ·cases eB m
  refine⟨_,U,_,"str",_,U,U,.str z,_,U,aL ?_⟩;refine{_,U,U,_,U,?_};have a:∀H',ab H H'->Q (.str (if z = " " then "_" else z)) H':=kk
  by_cases d:z = " "
  ·rw[q0 d]at a
   exact oP (qA (by rw[d])) (a H (ab.refl H))
  ·rw[qt d]at a
   exact gE (decide_eq_false λq=>d (V.str.inj q)) {_,U,a H (ab.refl H)}
 ·obtain⟨q,xs,rfl,b,f⟩:=c9 m
  cases f with
  |cons n t =>
   cases t with
   |cons e t =>
    cases t;cases eB n;cases eB e;refine{_,U,_,"str",_,U,U,.tup b,_,U,aM ?_};refine{_,U,q,_,0,.str "picture",U,U,aH.of b,bH (j:=0) rfl,U,_,U,oP ∅ ?_};have i:("*":Str).length=1:=rfl;refine{_,U,q,_,1,.str z,U,U,aH.of b,bH (j:=1) rfl,_,_,U,U,by rw[i];show _≤16777216;omega,kk H (ab.refl H)}
 ·obtain⟨q,xs,rfl,b,f⟩:=c9 m
  cases f with
  |cons n t =>
   cases t with
   |cons e t =>
    cases t;cases eB n
    rename_i x
    refine{_,U,_,"str",_,U,U,.tup b,_,U,aM ?_};refine{_,U,q,_,0,.str "refer",U,U,aH.of b,bH (j:=0) rfl,U,_,U,gE ∅ ?_};have y:=jR hn;have i:("#":Str).length=1:=rfl;refine{_,U,q,_,1,x,U,U,aH.of b,bH (j:=1) rfl,x,ds,U,e,hn,λH1 r=>?_};exact{_,_,U,U,by rw[i];show _≤16777216;omega,kk H1 r}
def Dw(T:Txt K mg tk)(F:FO K mg "read_plain" nh)(a:fB P w K mg base):fW P w K mg base:=by
 refine ax F Bt (m1 λ_=>rfl) {} λfa c A outer s H vs Q E b h=>?_
 refine{_,(aq (az (cT (bP (cl a b (a1 (na 0))))) (ai fC) aO)
   (ai (ar (na 0)))),?_}
 obtain⟨z,d,rfl,f,⟨rfl,hz⟩,k⟩:=h;refine{z,U,f3 hz,λH1 e=>?_};rw[jL hz];refine{_,U,aM ?_};exact k _ _ e (.str z)
def zY(T:Txt K mg tk)(F:FO K mg "read_counts" pQ)(f:iG P w K mg base):oe P w K mg base:=by
 refine ax F x_ (m1 λ_=>rfl) {} λfa I A outer s H vs Q E n h=>?_;refine{_,(ai (ar (cy iy T.bG boot_tuple (a1 (l0 (il (bm PySem.F.plainAttrs_str PySem.F.slot_str_split PySem.F.type_str_split pX (na 0) (a1 aE))) (λ_ _ _=>b_) (λ_ _ _=>(cl f n (a1 (na 0))))))))),?_};obtain⟨z,d,rfl,G,n,k⟩:=h;obtain⟨e,M,D,rfl,hn,rfl⟩:=n
 have r:Txt.split (Txt.join "," (e.map λc=>(toString c:Str))) ","=e.map λc=>(toString c:Str):=sU (c:=44) (by simpa using M) λx a=>by
  obtain⟨c,b,rfl⟩:=qf.mp a;exact R5 (hn c b)
 have j:(Txt.join "," (e.map λc=>(toString c:Str))).length≤900:=sO rfl (λx a=>by
  obtain⟨c,b,rfl⟩:=qf.mp a
  exact qg (mH (hn c b)) ⋯) (by rw[qa];omega)
 refine{U,_,44,U,U,qg j ⋯,λp H1 R y t=>?_};rw[show Txt.split _ {#[44]}=_ from r]at t;refine{p,U,{_,aw.of t},f' (by rw[qa,qa];exact qj (aV ())) (λi ys H'=>ab H1 H'/\ys=(e.take i).map V.int) {ab.refl _,U} (λi ys H' q=>aw.of (q.1 _ _ t)) (λi x ys H' S O a ⟨m,g⟩ k1 k2=>?_) λH2 q ys ⟨m,g⟩ _ C=>?_}
 ·rw[qh,qh]at a
  cases b:e[i]? with
  |none=>rw[b]at a;exact nomatch a
  |some c =>
   rw[b]at a;have a:V.str (toString c)=x:=qE a;subst a;refine aL (B:=O H') ?_;refine{_,.int c,U,G.same (y.trans m),{c,U,hn c (qk b),U},λv J o L=>?_};rw[k4 L];exact k1 _ _ {m.trans o,by rw[zo,b,zf,g];rfl}
 ·have g:ys=e.map V.int:=by rw[g,qa,qa,zn]
  subst g;refine{q,_,U,aw.of aG,λl J D o N=>?_};exact k _ _ ((y.trans (m.up C)).trans o) (.tup N (L2.bU _ e))
def B9(T:Txt K mg tk)(F:FO K mg "by_names" pJ)(p:lT P w K mg base):uL P w K mg base:=by
 refine ax F sy (m1 λ_=>rfl) {} λfa cdv A outer s H vs Q E o h=>?_
 refine{_,(aq (sn sy.nd 1 KP)
   (aq (fo (il (vv 0)) (gn sy.nd 2)
   (aq (sn sy.nd 3 (cl p o (a1 (vv 2))))
   (aq (az (PW.pt (m6 (ck (Ar (mm o)) (vv 3) (vv 1)) (n_ (ck (Au o) (mI (mm o) (vv 1) (vv 3) (λ_ _=>rfl)) (vv 2))))) (ai fC) aO)
   (ai (Lh (mm o) (vv 1) (vv 3) (vv 2) rfl)))))
   (ai (ar (vv 1))))),?_}
 obtain⟨dp,des,ws,fs,rfl,r,an,nd,gd,hfl,one,kk⟩:=h;intro t H1 g1 s1 e1;have Y:des.length=fs.length:=an.1;refine{_,U,dp,U,{_,aw.of (s1 _ _ r)},mS (xs:=des) (λj σ H2=>∃kvs es G J,σ=[some (.ref dp),some (.ref t),G,J]/\ab H H2/\H2 t=some (.dG kvs)/\TD H2 ws kvs es/\(es.Pairwise λa b=>¬(a.aB=b.aB/\a.num=b.num))/\(∀d,d∈es↔d∈fs.take j)/\kvs.length≤j) {[],[],_,_,U,s1,e1,.nil,.nil,λd=>by simp,Nat.le_refl _} (λj σ H2 _ ⟨_,_,_,_,_,n,_⟩=>aw.of (n _ _ r)) ?_ ?_}
 ·rintro j v σ H2 hx ⟨kvs,es,G,J,rfl,n,e2,td,up,mem,C⟩
  obtain⟨c,Z,V⟩:=an.at hx;have X:c∈fs:=qk Z;have hj:j<fs.length:=(qw.mp Z).1
  have htk:fs.take (j+1)=fs.take j++[c]:=by rw[zo,Z];rfl
  have N:=V.mono n;have sub:∀a∈es,a∈fs:=λa S=>yb ((mem a).mp S);refine{_,U,v,ws,c,U,N,λW M B hn=>?_};have k:=td.same B
  have hw:∀e∈es,e.aB<ws.length:=λe L=>by
   obtain⟨i,hi,rfl⟩:=zw L;obtain⟨_,_,_,_,x⟩:=td.to (qc hi);exact ay.aB x
  have D:=B _ _ e2;refine{_,U,_,U,t,kvs,_,U,.of D,hn,_,U,?_};obtain⟨R,td',O,I⟩:=TD.put nd k hn (N.mono B) up (λa S h1 h2=>one a (sub a S) c X h1 h2)
  have put:∃f m G J,([some (.ref dp),some (.ref t),some v,some M]:L2.St)=[some (.ref dp),some (.ref t),G,J]/\ab H (upd W t (.dG (pG kvs (kD ws c) M v)))/\(upd W t (.dG (pG kvs (kD ws c) M v))) t=some (.dG f)/\TD (upd W t (.dG (pG kvs (kD ws c) M v))) ws f m/\(m.Pairwise λa b=>¬(a.aB=b.aB/\a.num=b.num))/\(∀d,d∈m↔d∈fs.take (j+1))/\f.length≤j+1:=by
   refine{_,R,_,_,U,(n.trans B).wr g1,aG,F9 td' D nZ,O,λd=>?_,qg (yD kvs _ _ _) (wg C)};rw[I,mem,htk,qy,zb]
  have y:kvs.length<sizeLine:=aV ()
  by_cases q:c∈es
  ·obtain⟨v0,e0,h0⟩:=k.get nd hw up q
   have g:=gd c X;refine oP (by show(vG kvs (kD ws c)).isSome=true;rw[e0];rfl) ?_;refine{_,U,_,U,t,kvs,_,v0,U,.of D,hn,e0,_,U,_,_,(ay.dt h0).dv,(ay.dt (N.mono B)).dv,g.lay,g.lay,(by rw[yj];exact qg g.sP ⋯),_,U,gE (by show(!PyData.eqv (sj ws c) (sj ws c))=false;rw[g.self];rfl) ?_};exact{_,U,_,U,_,U,t,kvs,_,U,D,hn,y,put}
  ·refine gE (by show(vG kvs (kD ws c)).isSome=false;rw[k.no nd hw (ay.aB N) λe L z=>q (by rw[←one e (sub e L) c X z.1 z.2];exact L)];rfl) ?_
   exact gE rfl {_,U,_,U,_,U,t,kvs,_,U,D,hn,y,put}
 ·rintro σ H2 ⟨kvs,es,G,J,rfl,n,e2,td,up,mem,C⟩
  rw[Y,zn]at mem;exact{_,U,kk H2 t kvs es n g1 e2 td up mem}
def D0(T:Txt K mg tk)(F:FO K mg "check_past" oh)(r:ua P w K mg base)(y:pq P w K mg base)(q:lT P w K mg base):wC P w K mg base:=by
 refine ax F CB (m3 λ_ _ _=>rfl) {} λfa cdv A outer s H vs Q E m h=>?_
 refine{_,(aq (sn CB.nd 3 (cl q m (a1 (vv 2))))
   (ai (fo (il (cl y m (a2 (vv 0) (vv 2)))) (gn CB.nd 4)
   (aq (az (ck (Ql (mm m)) (vv 4) (vv 1)) (ai fC) aO)
   (ai (az (cT (bP (cl r m (a2 (vv 2) (mI (mm m) (vv 1) (vv 4) (λ_ _=>rfl)))))) (ai fC) aO)))))),?_}
 obtain⟨L,tp,v,ws,a,es,kvs,rfl,O,rd,td,nd,W,D,k,kk⟩:=h;refine{_,U,v,ws,a,U,D,λH1 nv I hn=>?_};refine{_,U,_,U,L,v,ws,a,U,O.mono I,D.mono I,W.len a k,λH2 lp V s2 g2 R Y=>?_};have hw:∀e∈es,e.aB<ws.length:=W.aB;have t:=I.trans s2;refine{lp,U,{_,aw.of R},mS (xs:=V) (λj σ g=>∃C,σ=[some (.ref L),some (.ref tp),some v,some nv,C]/\ab H2 g) {_,U,ab.refl _} (λj σ g _ ⟨_,_,d⟩=>aw.of (d _ _ R)) ?_ ?_}
 ·rintro j x σ g S ⟨C,rfl,d⟩
  obtain⟨p,ep,X⟩:=Y.at S;have z:=dB d X;have c:=t.trans d;obtain⟨e,M,e1,B,f,_⟩:=W.last (W.len a k) (W.past a k) (qk ep)
  have o:e_ g ws x (nm e):=by rw[show nm e=p from Prod.ext e1 B];exact z
  obtain⟨N,J,h0⟩:=(td.same c).get nd hw W.uniq M;have n:=Rd.same rd c;refine{_,U,_,U,tp,kvs,_,U,n,o,_,U,gE (by show(!(vG kvs (kD ws e)).isSome)=false;rw[J];rfl) ?_};refine{_,U,_,U,_,U,tp,kvs,_,N,U,n,o,J,v,N,ws,a,e,U,D.mono c,h0,(by rw[W.len a k];have:=O.bR;omega),(by rw[W.len a k,W.len e M]),λH4 b s4 Z=>?_}
  have G:b=true:=Z.mpr λi hi=>f i (by rw[←W.len a k];exact hi)
  subst G;refine{_,U,gE rfl ?_};exact{_,U,d.trans s4}
 ·rintro σ g ⟨C,rfl,d⟩
  exact kk g (t.trans d)
def CL(T:Txt K mg tk)(F:MO K ak "past" "Folk.past" false pW)(a:vD P w K mg base):uk P w K mg base:=by
 refine jP F Aq (m2 λ_ _=>rfl) {} λfa p A outer s H vs Q E c h=>?_;refine{_,(ai (ar (me T.aS a c (vv 0) (a1 (xt (mI (mm c) (fd T.aS T.bN (vv 0)) (vv 1) (λ_ _=>rfl))))))),?_};obtain⟨x,v,ws,hn,n,d,rfl,fk,r,g,kk⟩:=h;obtain⟨dx,J,sp,tp,O,S,kvs,B,C,es,f,M,D,to,td,i,L,hd,I,na,o,up⟩:=id fk;obtain⟨nd,W,G,R,bR⟩:=id o;have e:=W.perm i;obtain⟨N,m,t⟩:=td.get nd e.aB e.uniq (i.mem_iff.mpr g);obtain⟨q,j,b,y,rfl,z,k⟩:=ay.out t;exact{_,U,x,dx,_,U,f,vM ∅,_,U,x,dx,_,_,U,f,Js,_,U,tp,kvs,_,_,U,to,r,m,q,_,2,_,U,U,aH.of z,U,x,j,ws,hn,n,d.hd,U,fk,k,W.len d g,kk}
def EL(T:Txt K mg tk)(F:FO K mg "_law_roll" oF)(q:nX P w K mg base)(p:iL P w K mg base):vr P w K mg base:=by
 refine ax F kF (m1 λ_=>rfl) {} λfa cdv A outer s H vs Q E O h=>?_
 refine{_,(aq (sn kF.nd 1 (cl q O (a2 (vv 0) aj)))
   (aq (sn kF.nd 2 (cI kH))
   (aq (fo (nK (by rfl) T.fe (a1 (ah cP aj (ah bJ (xl (vv 1)) aj)))) (gn kF.nd 3)
   (aq (sn kF.nd 4 (cl p O (a1 (xa (vv 1) (ah cP aj (vv 3))))))
   (aq (fo (BA aE) (gn kF.nd 5)
   (ai (az (ck L9 (vv 4) (vv 2)) (ai (sn kF.nd 4 (ah qO (du tJ (vv 4) dO (dg aj)) (vv 5)))) aO)))
   (ai (ap (vv 2) (a1 (vv 4)))))))
   (ai (ar (vv 2)))))),?_}
 obtain⟨i,rfl,k⟩:=h;refine{_,U,_,7,U,⋯,λH1 o ns s1 g1 W hl=>?_};refine{aN rfl,λp2 H2 g2 Z e2=>?_};have d2:=W.mono Z;obtain⟨C,h0⟩:=d2.get 0 ⋯;have S:H p2=none:=s1.free g2;have np:o≠p2:=cg W.at' g2;have hm:0≤C % 5/\C % 5<5:={Int.emod_nonneg _ ⋯,Int.emod_lt_of_pos _ ⋯}
 refine{_,U,o,_,0,.int C,U,U,aw.of d2.at',h0,_,_,U,U,(by show(0:Int)<5;decide),_,_,U,U,_,U,(),(),tI (n:=(2+C % 5).toNat) (λj σ f=>∃(ws:List Str) (G I e:Option V),σ=[some (.int i),some (.ref o),some (.ref p2),G,I,e]/\ab H f/\DR f o ns 7 ∧
  f p2=some (.lst (ws.map V.str))/\ws.length=j/\ws.Nodup/\∀w∈ws,cm w) {[],none,none,none,U,s1.trans Z,d2,e2,U,wj,λ_ z=>nomatch z} ?_ ?_}
 ·rintro j σ f hj ⟨ws,G,I,e,rfl,J,r,B,hw,nd,g⟩
  have hj6:j<6:=()
  refine{_,U,_,U,_,_,U,U,o,_,_,U,U,aw.of r.at',(),by rw[qa,hl];omega,λv hv=>?_};obtain⟨m,_,rfl⟩:=qf.mp hv;refine{m,U,λz hz=>?_}
  refine{_,U,Ng (z:="abcdefgh") (λc σ L=>∃(w:Str) (e:Option V),σ=[some (.int i),some (.ref o),some (.ref p2),some (.int (0+(j:Int))),some (.str w),e]/\L=f/\cm w/\jT ws c w)
   {z,_,U,U,hz,Qy ws z} ?_ ?_}
  ·rintro c ch σ L R ⟨w,e,rfl,rfl,a,d⟩
   have M:c<8:=by
    have:=(gx.mp R).1
    have X:("abcdefgh":Str).cps.size=8:=∅
    omega
   have D:ch=97+c:=yH M R;have N:w.length≤sizeLine:=qj (aV (show w.cps.size≤1000 from qg a.2.1 ⋯));refine{_,U,_,U,p2,_,U,.inl (aw.of B),U,Qo ws,_,U,?_}
   show if su (.str w) (ws.map V.str)=true then _ else _
   rw[m8];refine bC (λb=>?_) λb=>?_
   ·have b:w∈ws:=qF b
    refine{_,U,_,U,w,U,N,?_};have Y:=QI a (c:=ch) ();refine{_,U,_,_,U,U,?_,?_}
    ·have h1:(⟨#[ch]⟩:Str).length=1:=rfl
     have h2:(cA w none (some 7)++⟨#[ch]⟩:Str).cps.size=(cA w none (some 7)).cps.size+1:=EA _ _;have h3:(cA w none (some 7)).length=(cA w none (some 7)).cps.size:=rfl;have:=aV (n:=(cA w none (some 7)).length+1) (by have:=Y.2.1;omega);omega
    ·refine{_,_,U,U,Y,?_}
     rw[D];exact Qq d b
   ·exact{w,_,U,U,a,.inl (λz=>b (qA z))}
  ·rintro σ L ⟨w,e,rfl,rfl,a,d⟩
   have t:w∉ws:=by
    have X:("abcdefgh":Str).cps.size=8:=∅
    rw[X]at d;exact Ob d ()
   refine{_,U,.inl {U,_,aw.of B},_,U,p2,_,_,U,U,B,(by rw[qa];exact aV ()),?_}
   refine{ws++[w],_,_,_,U,J.wr S,{by rw[aD np];exact r.at',r.len,r.bR},by rw[aG,zf];rfl,by rw[qm,zi,hw],P0 nd t,λx hx=>by
    rcases qy.mp hx with y|y
    ·exact g x y
    ·rw[zb.mp y];exact a}
 ·rintro σ f ⟨ws,G,I,e,rfl,J,r,B,hw,nd,g⟩
  exact{_,U,k f p2 ws J S {B,(),(),g} () nd}
def BX(T:Txt K mg tk)(F:FO K mg "_law_part" p6)(a:j1 P w K mg base):jY P w K mg base:=by
 refine ax F BU (m2 λ_ _=>rfl) {} λfa f A outer s H vs Q E b h=>?_
 refine{_,(aq (az (ck aP (ah bJ (vv 0) aj) aj) (ai (ar (ba (a2 aE aj)))) aO)
   (ai (ar (cl a b (a2 (ah de (vv 0) aj) (vv 1)))))),?_}
 obtain⟨i,p,ws,rfl,c,k⟩:=h;refine{_,U,_,_,U,U,(by show(0:Int)<3;decide),U,_,U,?_};refine bC (λ_=>?_) λ_=>?_
 ·exact{aN rfl,λq H1 g s e=>k H1 (.ref q) _ s (.tup e (.cons (.str _) (.cons (.int _) .nil))) {_,U,.inl rfl}}
 ·exact{_,U,_,_,U,U,{⋯,⋯},_,U,_,p,ws,U,c,λH1 v d j dv hd=>k H1 v d j dv (let⟨ds,e,hn⟩:=hd;{ds,e,.inr hn})}
def E3(T:Txt K mg tk)(F:FO K mg "_law_sign_name" p4)(a:j1 P w K mg base):lN P w K mg base:=by
 refine ax F B6 (m2 λ_ _=>rfl) {} λfa G A outer s H vs Q E f h=>?_;refine{_,(ai (ar (ah nu (cl a f (a2 (ah de (vv 0) aj) (vv 1))) (ba (a1 (xa (cI (a2 (ah bJ (ah de (vv 0) aj) aj) (ah kO aj aj))) (cy n0 T.fy boot_int (a1 (ce aP (ah bJ (vv 0) aj) aj))))))))),?_};obtain⟨i,p,ws,rfl,z,k⟩:=h;refine{_,U,_,_,U,U,{⋯,⋯},_,U,_,p,ws,U,z,λH1 v d N dv hd=>?_};obtain⟨ds,rfl,w,n,rfl,hw,n1,n2⟩:=hd;obtain⟨q,xs,rfl,j,g⟩:=c9 dv
 cases g with
 |cons M t =>
 cases t with
 |cons y t =>
 cases t;cases eB M;cases k4 y;refine{_,U,_,_,U,U,{⋯,⋯},_,_,U,U,(by show(0:Int)<12;decide),_,_,U,U,{⋯,⋯,⋯},aN rfl,λB H2 X e O=>?_};refine{_,U,_,_,U,U,(by show(0:Int)<24;decide),U,.inr {_,U,?_}};refine{B,_,_,U,U,aw.of O,oy _,qQ _,λv c=>?_}
 obtain⟨m,rfl,C,D⟩:∃m,v=V.int m/\0≤m/\m≤1000000:=by
  simp only[List.mem_cons,List.not_mem_nil,or_false]at c
  rcases c with rfl|rfl
  ·exact⟨_,U,c7 _ ⋯,by have:=df (i / 2) (m:=12) ⋯;omega⟩
  ·exact⟨_,U,⋯,⋯⟩
 refine⟨aN rfl,λr W R b L=>?_⟩;refine{q,r,_,_,U,U,aH.of ((e.trans b) _ _ j),aH.of L,by simp,by simp,aN rfl,λx J S I o=>?_};exact k J (.ref x) _ (((N.trans e).trans b).trans I) (.tup o (.cons (.str w) (.cons (.int n) (.cons (.int m) .nil)))) {_,U,w,n,m,U,hw,n1,n2,C,D}
def CS(T:Txt K mg tk)(F:FO K mg "_law_branch" mZ)(b:iL P w K mg base):uZ P w K mg base:=by
 refine ax F A4 (m2 λ_ _=>rfl) {} λfa d A outer s H vs Q E c h=>?_
 refine{_,(aq (az (ck aP (ah bJ (vv 0) aj) aj) (ai (ar eW)) aO)
   (ai (ar (ba (a2 (xa (vv 1) (ah bJ (ah de (vv 0) aj) (cb cZ T.bh boot_len (a1 (vv 1))))) (cl b c (a1 (ah de (vv 0) aj)))))))),?_}
 obtain⟨i,p,ws,rfl,a,k⟩:=h;refine{_,U,_,_,U,U,(by show(0:Int)<2;decide),U,_,U,?_};refine bC (λ_=>?_) λ_=>?_
 ·exact k H .aT _ (ab.refl H) .aT (.inl rfl)
 ·refine{_,U,_,U,_,_,U,U,{⋯,⋯},_,U,p,_,U,.inl (aw.of a.at'),_,_,U,U,a.len.1,p,_,_,U,U,aw.of a.at',c7 _ a.len.1,df _ a.len.1,λv f=>?_}
  obtain⟨w,hw,rfl⟩:=qf.mp f;refine{_,U,_,_,U,U,{⋯,⋯},_,U,λz hz=>?_};exact{aN rfl,λq H1 g s e=>k H1 (.ref q) _ s (.tup e (.cons (.str w) (.cons (.str z) .nil))) (.inr {w,z,U,hw,hz})}
def D1(T:Txt K mg tk)(F:FO K mg "is_sign" m4)(t:oj P w K mg base)(o:rj P w K mg base)(i:gY P w K mg base)(B:fz P w K mg base)(g:fB P w K mg base):vR P w K mg base:=by
 refine ax F A1 (m1 λ_=>rfl) {} λfa cdv A outer s H vs Q E m h=>?_
 refine{_,(aq (az (bP (cb dQ T.aC boot_isinstance (a2 (na 0) (dH (v:=.ty "str") (by rfl) T.dU boot_str rfl)))) (ai (ar (dM (ce aP (cb C3 T.bh boot_len (a1 (na 0))) aj) (c0 (ec (cl g m (a1 (na 0))) (c0 (ce Qg (na 0) aE))))))) aO)
   (aq (az (cT (bP (cl B m (a2 (na 0) aj)))) (ai (ar cW)) aO)
   (aq (az (bP (cl i m (a2 (xt (na 0)) (ba (a1 aE))))) (ai (ar (cl g m (a1 (xt (na 0)))))) aO)
   (ai (ar (dM (cl i m (a2 (xt (na 0)) (ba (a1 aE)))) (c0 (ec (cl o m (a1 (xt (na 0)))) (c0 (cl t m (a1 (xt (na 0))))))))))))),?_}
 obtain⟨v,d,ws,rfl,J,hd,hw,k⟩:=h;rcases hd with⟨c,rfl,R⟩|⟨z,rfl,hz⟩|⟨ds,rfl,Y⟩
 ·cases J
  refine⟨_,"str",_,U,U,.str _,_,U,aL ⟨_,U,iZ (show 1≤1000 from ⋯),U,_,U,?_⟩⟩;refine bC (λ_=>?_) λh=>absurd (qA rfl) h;refine{_,U,(show 1≤1000 from ⋯),λH1 j=>{_,U,?_}}
  have D:∀c∈("abcdefghijklmnopqrstuvwxyz .,":Str).cps.toList,(ef ⟨#[c]⟩||decide ((⟨#[c]⟩:Str)∈([" ",".",","]:List Str)))=true:=∅
  have D:=D c R
  cases e:ef ⟨#[c]⟩ with
  |true=>exact aL (k H1 j)
  |false =>
   rw[e,Bool.false_or]at D;refine aM {_,_,U,U,?_};rw[Bg c,D];exact k H1 j
 ·obtain⟨a,x,y,rfl,f,I,ty⟩:=d2 J
  cases I;cases ty;refine{_,"str",_,U,U,.tup f,_,U,aM {a,_,_,U,f,U,_,U,aM {_,_,_,.str "picture",U,U,aH.of f,U,⋯,λq H1 V j M=>{_,q,["picture"],U,M,_,U,?_}}}};rw[qA (by simp)];refine aL {_,_,_,.str z,U,U,aH.of (j _ _ f),U,z,U,f3 hz,λH2 N=>?_};rw[jL hz];exact k H2 (j.trans N)
 ·obtain⟨a,x,y,rfl,f,I,ty⟩:=d2 J
  cases I;refine{_,"str",_,U,U,.tup f,_,U,aM {a,_,_,U,f,U,_,U,aM {_,_,_,.str "refer",U,U,aH.of f,U,⋯,λq H1 V j M=>{_,q,["picture"],U,M,_,U,?_}}}};rw[decide_eq_false ∅];refine aM {_,_,_,.str "refer",U,U,aH.of (j _ _ f),U,⋯,λX H2 Z N e2=>{_,X,["refer"],U,e2,_,U,?_}};have r:=j.trans N;rw[qA (by simp)];refine aL {_,_,_,y,U,U,aH.of (r _ _ f),U,?_};rcases Y with rfl|⟨w,n,rfl,h1,h2,h3⟩
  ·obtain⟨b,rfl,C⟩:=jX ty
   refine{b,"",0,U,r _ _ C,λ_=>rfl,λO L=>?_};rw[qA rfl];exact{_,U,aL (k O (r.trans L))}
  ·obtain⟨b,rfl,C⟩:=jX ty
   have p:=eY (hw w h1);refine{b,w,n,U,r _ _ C,λe=>absurd e p,λO L=>?_};rw[decide_eq_false p];have G:=r.trans L;exact{_,U,aM {_,_,_,.ref b,U,U,aH.of (G _ _ f),U,b,w,n,U,G _ _ C,hw w h1,h2,h3,λW S=>k W (G.trans S)}}
def AS(T:Txt K mg tk)(F:FO K mg "is_name" oX)(b:oj P w K mg base):iC P w K mg base:=by
 refine ax F xO (m2 λ_ _=>rfl) {} λfa i A outer s H vs Q E f h=>?_;refine{_,(ai (ar (dM (cl b f (a1 (na 1))) (c0 (ce L9 (xt (na 1)) (na 0)))))),?_};obtain⟨p,ws,v,d,rfl,o,hw,g,⟨m,rfl,w,n,rfl,h1,h2,j⟩,k⟩:=h;obtain⟨a,rfl,e⟩:=jX g;refine{a,w,n,U,e,hw.wd w h1,h2,j,λH1 c=>{_,U,aL {_,_,_,.str w,U,U,aH.of (c _ _ e),U,p,_,U,.inl (aw.of (c _ _ hw.at')),U,(by rw[yc];exact zm.mpr λ_ _=>rfl),?_}}};show Q (.bl (su _ _)) H1;rw[m8,qA h1];exact k H1 c
def xk(T:Txt K mg tk)(F:FO K mg "is_branch" rg)(b:pA P w K mg base)(e:fz P w K mg base)(c:fB P w K mg base):vC P w K mg base:=by
 refine ax F DM (m2 λ_ _=>rfl) {} λfa o A outer s H vs Q E f h=>?_;refine{_,(ai (ar (ec (ce mv (na 1) eW) (c0 (dM (cl e f (a2 (na 1) aj)) (dM (cl b f (a2 (na 0) (xt (na 1)))) (c0 (cl c f (a1 (xt (na 1))))))))))),?_};obtain⟨p,ws,v,d,rfl,n,hw,j,hd,k⟩:=h;refine{U,_,U,?_};rcases hd with rfl|⟨w,z,rfl,h1,h2⟩
 ·cases j
  exact aL (k H (ab.refl H))
 ·obtain⟨a,x,y,rfl,g,q,ty⟩:=d2 j
  cases q;cases ty;refine aM {a,_,_,U,g,U,_,U,aL {_,_,_,.str w,U,U,aH.of g,U,_,_,_,_,U,n,hw,.str w,{w,U,h1},λH1 i=>{_,U,aL {_,_,_,.str z,U,U,aH.of (i _ _ g),U,z,U,f3 h2,λH2 m=>?_}}}};rw[jL h2];exact k H2 (i.trans m)
def Cu(T:Txt K mg tk)(F:FO K mg "shown_thing" nk)(n:nj P w K mg base)(g:jS P w K mg base)(f:vW P w K mg base)(k:vX P w K mg base):uX P w K mg base:=by
 refine ax F xq (m1 λ_=>rfl) {} λfa C A outer s H vs Q E d h=>?_
 refine{_,(aq (az (ck mv (vv 0) eW) (ai (ar aE)) aO)
   (aq (az (bP (cb dQ T.aC boot_isinstance (a2 (vv 0) (dH (v:=.ty "bool") (by rfl) T.k8 boot_bool rfl)))) (ai (ar (fH (bP (vv 0)) aE aE))) aO)
   (aq (az (bP (cb dQ T.aC boot_isinstance (a2 (vv 0) (dH (v:=.ty "int") (by rfl) T.fy boot_int rfl)))) (ai (ar (cy tK T.dU boot_str (a1 (vv 0))))) aO)
   (aq (az (bP (cb dQ T.aC boot_isinstance (a2 (vv 0) (dH (v:=.ty "str") (by rfl) T.dU boot_str rfl)))) (ai (ar (cl k d (a1 (vv 0))))) aO)
   (aq (az (bP (cb dQ T.aC boot_isinstance (a2 (xt (vv 0)) (dH (v:=.ty "int") (by rfl) T.fy boot_int rfl)))) (ai (ar (cl n d (a1 (vv 0))))) aO)
   (ai (ar (fH (bP (cb dQ T.aC boot_isinstance (a2 (xt (vv 0)) (dH (v:=.ty "tuple") (by rfl) T.bG boot_tuple rfl)))) (cl f d (a1 (vv 0))) (cl g d (a1 (vv 0))))))))))),?_}
 obtain⟨v,d',rfl,c,x,kk⟩:=h
 cases x with
 |aT =>
  cases LN c;exact{_,U,U,_,U,oP (qA rfl) (kk H (ab.refl H))}
 |bl b =>
  cases K5 c;refine{_,U,U,_,U,gE (decide_eq_false λz=>nomatch z) ?_};refine{_,U,_,"bool",_,U,U,.bl b,_,U,aL ?_};refine{_,U,_,U,?_}
  cases b with
  |true=>exact oP rfl (kk H (ab.refl H))
  |false=>exact gE rfl (kk H (ab.refl H))
 |int i hi =>
  cases k4 c;refine{_,U,U,_,U,gE (decide_eq_false λz=>nomatch z) ?_};refine{_,U,_,"bool",_,U,U,.int i,_,U,aM ?_};refine{_,U,_,"int",_,U,U,.int i,_,U,aL ?_};have:=rE c (.inr {i,U,hi});exact{_,U,_,U,this.1,kk H (ab.refl H)}
 |str z hz =>
  cases eB c;refine{_,U,U,_,U,gE (decide_eq_false λz=>nomatch z) ?_};refine{_,U,_,"bool",_,U,U,.str z,_,U,aM ?_};refine{_,U,_,"int",_,U,U,.str z,_,U,aM ?_};refine{_,U,_,"str",_,U,U,.str z,_,U,aL ?_};exact{_,U,z,U,kk H (ab.refl H)}
 |cnt i r d hf =>
  obtain⟨q,xs,rfl,a,e⟩:=c9 c
  cases e with
  |cons o t =>
   cases k4 o;refine{_,U,U,_,U,gE (decide_eq_false λz=>nomatch z) ?_};refine{_,U,_,"bool",_,U,U,.tup a,_,U,aM ?_};refine{_,U,_,"int",_,U,U,.tup a,_,U,aM ?_};refine{_,U,_,"str",_,U,U,.tup a,_,U,aM ?_};refine{_,U,q,_,0,.int i,U,U,aH.of a,bH (j:=0) rfl,_,"int",_,U,U,.int i,_,U,aL ?_};exact{_,U,_,_,U,c,by rw[qr];omega,hf,kk}
 |side d' hs =>
  have p:=hs;obtain⟨ds,z,rfl,hn,hz⟩:=hs;obtain⟨q,xs,rfl,a,e⟩:=c9 c
  cases e with
  |cons o t =>
   obtain⟨y,D,rfl,m,B⟩:=c9 o;refine{_,U,U,_,U,gE (decide_eq_false λz=>nomatch z) ?_};refine{_,U,_,"bool",_,U,U,.tup a,_,U,aM ?_};refine{_,U,_,"int",_,U,U,.tup a,_,U,aM ?_};refine{_,U,_,"str",_,U,U,.tup a,_,U,aM ?_};refine{_,U,q,_,0,.ref y,U,U,aH.of a,bH (j:=0) rfl,_,"int",_,U,U,.tup m,_,U,aM ?_};refine{_,U,q,_,0,.ref y,U,U,aH.of a,bH (j:=0) rfl,_,"tuple",_,U,U,.tup m,_,U,aL ?_};exact{_,U,_,_,U,c,p,kk}
 |name ds hn =>
  rw[eU hn]at kk;obtain⟨q,xs,rfl,a,e⟩:=c9 c
  have hd:∃(z:Str) (r:List PyData),ds=.str z::r:=by
   rcases hn with rfl|⟨h,r,rfl,_⟩
   ·exact⟨_,_,U⟩
   ·exact⟨_,_,U⟩
  obtain⟨z,r,rfl⟩:=hd
  cases e with
  |cons o t =>
   cases eB o;refine{_,U,U,_,U,gE (decide_eq_false λz=>nomatch z) ?_};refine{_,U,_,"bool",_,U,U,.tup a,_,U,aM ?_};refine{_,U,_,"int",_,U,U,.tup a,_,U,aM ?_};refine{_,U,_,"str",_,U,U,.tup a,_,U,aM ?_};refine{_,U,q,_,0,.str z,U,U,aH.of a,bH (j:=0) rfl,_,"int",_,U,U,.str z,_,U,aM ?_};refine{_,U,q,_,0,.str z,U,U,aH.of a,bH (j:=0) rfl,_,"tuple",_,U,U,.str z,_,U,aM ?_};exact{_,U,_,_,U,c,hn,kk}
def Dk(T:Txt K mg tk)(F:FO K mg "read_name" pT)(b:iG P w K mg base)(c:fW P w K mg base):lO P w K mg base:=by
 refine ax F LZ (m1 λ_=>rfl) {} λfa y A outer s H vs Q E a h=>?_
 refine{_,(aq (sn LZ.nd 1 (bm PySem.F.plainAttrs_str PySem.F.slot_str_split PySem.F.type_str_split pX (na 0) (a1 aE)))
   (aq (az (ck fY (cb cZ T.bh boot_len (a1 (na 1))) aj) (ai fC) aO)
   (ai (ar (ba (a2 (cl c a (a1 (xl (na 1)))) (cl b a (a1 (xl (na 1)))))))))),?_}
 obtain⟨z,d,rfl,t,a,k⟩:=h;have f:=cC.len a;obtain⟨w,n,rfl,hw,hn,rfl⟩:=a
 have g:Txt.split (Txt.join "." [w,toString n]) "."=[w,toString n]:=yV (w5 _ _) λx o=>by
  simp only[List.mem_cons,List.not_mem_nil,or_false]at o
  rcases o with rfl|rfl
  ·exact L8 hw
  ·exact Qf hn
 refine⟨U,_,46,U,U,qg f ⋯,λp H1 G m e=>?_⟩
 have e:H1 p=some (.lst [.str w,.str (toString n)]):=by rw[e,show Txt.split _ {#[46]}=_ from g];rfl
 refine{p,_,U,.inl (aw.of e),U,_,U,aM ?_};refine{_,_,_,.str w,U,U,aw.of e,U,?_};refine{w,.str w,U,t.same m,{U,hw},λD H2 j d2=>?_};refine{_,_,_,.str (toString n),U,U,aw.of (j _ _ e),U,?_};refine{_,.int n,U,t.same (m.trans j),{n,U,hn,U},λL I r B=>?_};refine{qj (aV (qz rfl)),λq J C i v=>?_};exact k _ _ (m.trans (j.trans (r.trans i))) (.tup v (.cons (d2.same (r.trans i)) (.cons (B.same i) .nil)))
def DE(T:Txt K mg tk)(F:FO K mg "read_sign_name" nQ)(a:iG P w K mg base)(e:fW P w K mg base):lZ P w K mg base:=by
 refine ax F J9 (m1 λ_=>rfl) {} λfa D A outer s H vs Q E b h=>?_
 refine{_,(aq (sn J9.nd 1 (bm PySem.F.plainAttrs_str PySem.F.slot_str_split PySem.F.type_str_split pX (na 0) (a1 aE)))
   (aq (az (ck fY (cb cZ T.bh boot_len (a1 (na 1))) aj) (ai fC) aO)
   (ai (ar (ba (ac (cl e b (a1 (xl (na 1)))) (a2 (cl a b (a1 (xl (na 1)))) (cl a b (a1 (xl (na 1))))))))))),?_}
 obtain⟨z,d,rfl,v,b,k⟩:=h;have g:=jJ.len b;obtain⟨w,n,i,rfl,hw,hn,hi,rfl⟩:=b
 have t:Txt.split (Txt.join "." [w,toString n,toString i]) "."=[w,toString n,toString i]:=yV (w5 _ _) λx y=>by
  simp only[List.mem_cons,List.not_mem_nil,or_false]at y
  rcases y with rfl|rfl|rfl
  ·exact L8 hw
  ·exact Qf hn
  ·exact Qf hi
 refine⟨U,_,46,U,U,qg g ⋯,λp H1 L o c=>?_⟩
 have c:H1 p=some (.lst [.str w,.str (toString n),.str (toString i)]):=by rw[c,show Txt.split _ {#[46]}=_ from t];rfl
 refine{p,_,U,.inl (aw.of c),U,_,U,aM ?_};refine{_,_,_,.str w,U,U,aw.of c,U,?_};refine{w,.str w,U,v.same o,{U,hw},λJ H2 f d2=>?_};refine{_,_,_,.str (toString n),U,U,aw.of (f _ _ c),U,?_};refine{_,.int n,U,v.same (o.trans f),{n,U,hn,U},λR N j G=>?_};refine{_,_,_,.str (toString i),U,U,aw.of (j _ _ (f _ _ c)),U,?_};refine{_,.int i,U,v.same (o.trans (f.trans j)),{i,U,hi,U},λM S r C=>?_};refine{qj (aV (qz rfl)),λq O I m B=>?_};exact k _ _ (o.trans (f.trans (j.trans (r.trans m)))) (.tup B (.cons (d2.same (j.trans (r.trans m))) (.cons (G.same (r.trans m)) (.cons (C.same m) .nil))))
def EM(T:Txt K mg tk)(F:FO K mg "read_plain_or_none" n')(b:fW P w K mg base):uI P w K mg base:=by
 refine ax F B7 (m1 λ_=>rfl) {} λfa c A outer s H vs Q E a h=>?_;refine{_,(ai (ar (fH (ck aP (na 0) aE) eW (cl b a (a1 (na 0)))))),?_};obtain⟨z,d,rfl,e,a,k⟩:=h;refine{U,_,U,?_};rcases a with⟨rfl,rfl⟩|a
 ·exact sv rfl (k _ _ (ab.refl H) .aT)
 ·exact rm (decide_eq_false (zG a.2|>.ne ∅)) ⟨_,_,U,e,a,k⟩
def xj(T:Txt K mg tk)(F:FO K mg "read_plain_or_empty" pE)(b:fW P w K mg base):vL P w K mg base:=by
 refine ax F DY (m1 λ_=>rfl) {} λfa c A outer s H vs Q E a h=>?_;refine{_,(ai (ar (fH (ck aP (na 0) aE) aE (cl b a (a1 (na 0)))))),?_};obtain⟨z,d,rfl,e,a,k⟩:=h;refine{U,_,U,?_};rcases a with⟨rfl,rfl⟩|a
 ·exact sv rfl (k _ _ (ab.refl H) (.str _))
 ·exact rm (decide_eq_false (zG a.2|>.ne ∅)) ⟨_,_,U,e,a,k⟩
def Al(T:Txt K mg tk)(F:FO K mg "read_branch" n6)(f:fW P w K mg base):u9 P w K mg base:=by
 refine ax F A_ (m1 λ_=>rfl) {} λfa M A outer s H vs Q E n h=>?_
 refine{_,(aq (az (ck aP (na 0) aE) (ai (ar eW)) aO)
   (ai (ar (cy iy T.bG boot_tuple (a1 (l0 (il (bm PySem.F.plainAttrs_str PySem.F.slot_str_split PySem.F.type_str_split pX (na 0) (a1 aE))) (λ_ _ _=>b_) (λ_ _ _=>(cl f n (a1 (na 0)))))))))),?_}
 obtain⟨z,d,rfl,L,n,k⟩:=h;refine{U,_,U,?_};rcases n with⟨rfl,rfl⟩|⟨a,b,rfl,j,C,rfl⟩
 ·exact sv rfl (k _ _ (ab.refl H) .aT)
 refine rm (decide_eq_false ((DU j).ne ∅)) ?_
 have y:Txt.split (Txt.join "." [a,b]) "."=[a,b]:=yV (w5 _ _) λx e=>by
  simp only[List.mem_cons,List.not_mem_nil,or_false]at e
  rcases e with rfl|rfl
  ·exact L8 j
  ·exact L8 C
 have g:(Txt.join "." [a,b]).length≤900:=sO rfl (λx e=>by
  simp only[List.mem_cons,List.not_mem_nil,or_false]at e
  rcases e with rfl|rfl
  ·exact qg (c_ j) ⋯
  ·exact qg (c_ C) ⋯) (qz rfl)
 refine{U,_,46,U,U,qg g ⋯,λp H1 X I G=>?_};rw[show Txt.split _ {#[46]}=_ from y]at G;refine{p,U,{_,aw.of G},f' (xs:=[.str a,.str b]) (qj (aV (qz rfl))) (λi ys H'=>ab H1 H'/\ys=([a,b].take i).map V.str) {ab.refl _,U} (λi ys H' q=>aw.of (q.1 _ _ G)) (λi x ys H' Y S e ⟨m,r⟩ k1 k2=>?_) λH2 q ys ⟨m,r⟩ _ J=>?_}
 ·obtain⟨w,hw,rfl,D⟩:∃w,[a,b][i]?=some w/\x=.str w/\cm w:=by
   have e:([a,b].map V.str)[i]?=some x:=e;rw[qh]at e
   cases o:[a,b][i]? with
   |none=>rw[o]at e;exact nomatch e
   |some c =>
    rw[o]at e;refine{c,U,(qE e).symm,?_};have:=qk o
    simp only[List.mem_cons,List.not_mem_nil,or_false]at this
    rcases this with rfl|rfl
    ·exact j
    ·exact C
  refine aL (B:=S H') ?_;refine{_,.str w,U,L.same (I.trans m),{U,D},λv N t O=>?_};rw[eB O];exact k1 _ _ {m.trans t,by rw[zo,hw,zf,r];rfl}
 ·subst r
  refine{q,_,U,aw.of aG,λl N W t R=>?_};exact k _ _ ((I.trans (m.up J)).trans t) (.tup R (.cons (.str _) (.cons (.str _) .nil)))
def xb(T:Txt K mg tk)(F:FO K mg "heights_of" lI)(gfAq:t9 P w K mg base)(gfBu:pq P w K mg base)(gfDc:lT P w K mg base):vN P w K mg base:=by
 refine ax F sW (m2 λ_ _=>rfl) {} λfa cdv A outer s H vs Q E hr h=>?_
 refine{_,(aq (sm sW.nd 2 KP)
   (aq (fo (il (RW gfAq hr T.jQ boot_sorted (vv 1))) (gn sW.nd 3)
   (aq (l' (i:=4) sW.nd rfl (Or.inl rfl) (own:=["name"]) (fr:=[("heights",2)]) rfl (il (cl gfBu hr (a2 (vv 0) (vv 3)))) {U,∅,∅} (rT (aa lI) ["roll","told","heights","deed","below"] rfl rfl (λ_ h=>l8 h) ∅ ∅ ∅) (λ_ _ _=>(dF (i:=0) (by show List.Nodup (["name","heights"]:List Str);decide +kernel) rfl (Or.inl rfl))) (λ_=>kX rfl) (λ_ _ _=>b_) (λ_ _ _=>(mI (mm hr) (vc 1) (vv 0) (λ_ _=>rfl))))
   (ai (Lh (mm hr) (vc 2) (cl gfDc hr (a1 (vv 3))) (ah cP aj (Nl rfl (by rfl) T.lS boot_max (a1 (vv 4)) aj)) rfl))))
   (ai (ar (vc 2))))),?_}
 obtain⟨rp,tp,ws,hn,es,kvs,rfl,rl,rd,td,sw,kk⟩:=h;obtain⟨nd,W,hg,gd,bR⟩:=id sw;intro o H1 g1 s1 O;have td1:=td.same s1;have hkl:kvs.length=es.length:=td.1;refine{_,U,tp,kvs,es.map λd=>PyData.int (d.hd.sum:Nat),0,U,Rd.same rd s1,by rw[qa,hkl],?_,{(),.inl ()},?_,?_}
 ·have:=N5 (es.map λd=>d.hd.sum)
  rw[zj]at this;exact this
 ·intro m y f H' Q' D hd s q
  rw[qh]at D hd
  cases t:kvs[m]? with
  |none=>rw[t]at D;cases D
  |some x0 =>
   rw[t]at D;cases D;obtain⟨e,ee,_,_,da⟩:=td1.at t;rw[ee]at hd;cases hd;have L:=qk ee;exact{_,ws,e,U,da.mono s,by rw[W.len e L];exact rl.bR,λn h=>qg (NZ W L h) (),q H' _ (ab.refl _) (.int _)}
 intro sq H2 ix g2 s2 six e2;obtain⟨X,so⟩:=Qw six {0,0,[],.none,[]}
 have hix:∀i∈ix,i<es.length:=λi hi=>by
  have:=(six.1.mem_iff).mp hi
  rwa [zy,qa]at this
 have vo:A2 (Hs.ay H2 ws) (kvs.map (·.2.2)) es:={by rw[qa,hkl],λi x y O e2=>by
  rw[qh]at O
  cases t:kvs[i]? with
  |none=>rw[t]at O;cases O
  |some x0=>rw[t]at O;cases O;exact(td1.2 i x0 y t e2).2.2.mono s2}
 have ao:=vo.ix (a:=V.aT) (b:=({0,0,[],.none,[]}:Hs.Dd)) ix hix;generalize (ix.map λi=>es.getD i (⟨0,0,[],.none,[]⟩:Hs.Dd))=os at X so ao;generalize (ix.map λi=>(kvs.map (·.2.2)).getD i V.aT)=zs at e2 ao;have hol:os.length=es.length:=X.length_eq;refine{sq,U,{_,aw.of e2},mS (xs:=zs) (λj σ M=>∃c u3 u4,σ=[some (.ref rp),some (.ref tp),some (.ref o),u3,u4]/\ab H M/\M sq=some (.lst zs)/\A2 (Hs.ay M ws) zs os/\M o=some (.dG c)/\HD ws hn (os.take j) c/\c.length≤j) {[],_,_,U,s1.trans s2,e2,ao,s2 _ _ O,(λ_ h=>absurd h yw),qb _} (λj σ M _ ⟨_,_,_,_,_,e,_⟩=>aw.of e) ?_ ?_}
 ·rintro j x σ M hx ⟨c,u3,u4,rfl,s3,t,S,N,hd,Z⟩
  obtain⟨f,ed,da⟩:=S.at hx;have hj:j<os.length:=(qw.mp ed).1;have L:f∈es:=X.mem_iff.mp (qk ed)
  have htk:os.take (j+1)=os.take j++[f]:=by rw[zo,ed];rfl
  have few6:=rl.bR;refine{_,U,_,U,rp,x,ws,f,U,rl.mono s3,da,W.len f L,λH4 lp ns s4 g4 e4 an=>?_}
  have npl:ns.length≤6:=by
   rw[an.1];unfold Hs.bx;rw[qa];exact qg (j5 _ _) (by rw[vm];exact few6)
  have back:∀p∈Hs.bx f.hd ws.length,vG c (yY ws p.1 p.2)=some (.int (hn p.1 p.2:Nat)):=λp Y=>by
   obtain⟨e,he,a1,a2,_,hlt⟩:=W.last (W.len f L) (W.past f L) Y;rw[←a1,←a2];refine hd e ?_;obtain⟨i,hi,ei⟩:=zw (X.mem_iff.mpr he)
   have hij:i<j:=by
    refine Nat.lt_of_not_le λz=>?_;rcases Nat.lt_or_eq_of_le z with z|z
    ·have:=wk.mp so j i hj hi z
     rw[ei,(qw.mp ed).2]at this;omega
    ·subst z
     rw[(qw.mp ed).2]at ei;rw[ei]at hlt;omega
   rw[←ei];exact List.mem_take_iff_getElem.mpr {i,(),U}
  refine{lp,U,{_,aw.of e4},pa (α:=Nat×Nat) (λH v p=>e_ H ws v p) (λ_ v p=>v=.int (hn p.1 p.2:Nat)) (λ_ _ _ _ s g=>dB s g) (λ_ _ _ _ _ g=>g) (aw.of e4) () an ?_ ?_}
  ·intro y p H5 K1 Y s5 D k1
   exact{_,U,_,U,o,c,_,_,U,.of (s5 _ _ (s4 _ _ N)),D,back p Y,k1 _ _ (ab.refl _) rfl}
  ·intro H5 bp zs' s5 g5 e5 an5
   have ezs:zs'=((Hs.bx f.hd ws.length).map λp=>((hn p.1 p.2:Nat):Int)).map V.int:=by
    apply wm;intro i;rw[qh,qh]
    cases q:(Hs.bx f.hd ws.length)[i]? with
    |none=>rw[vy (by rw[an5.1];exact jv.mp q)];rfl
    |some p=>obtain⟨y,ey,D⟩:=an5.to q;rw[ey,D];rfl
   have C:=s4.trans s5;have hks:c.length<sizeLine:=aV ()
   have put:∀G I,ab H5 G->e_ G ws I (nm f)->∃B u3 u4,([some (.ref rp),some (.ref tp),some (.ref o),some x,some (.ref bp)]:L2.St)=[some (.ref rp),some (.ref tp),some (.ref o),u3,u4]/\ab H (upd G o (.dG (pG c (kD ws f) I (.int (hn f.aB f.num:Nat)))))/\(upd G o (.dG (pG c (kD ws f) I (.int (hn f.aB f.num:Nat))))) sq=some (.lst zs)/\A2 (Hs.ay (upd G o (.dG (pG c (kD ws f) I (.int (hn f.aB f.num:Nat))))) ws) zs os/\(upd G o (.dG (pG c (kD ws f) I (.int (hn f.aB f.num:Nat))))) o=some (.dG B)/\HD ws hn (os.take (j+1)) B/\B.length≤j+1:=λG I R k=>by
    have J:=C.trans R;have eg6:=J _ _ N;refine{_,_,_,U,(s3.trans J).wr g1,?_,S.imp λ_ _ _ g=>(g.mono J).wr eg6 nZ,aG,λe he=>?_,qg (yD c _ _ _) (wg Z)}
    ·rw[aD (λz=>by rw[z,N]at t;cases t)]
     exact J _ _ t
    ·rw[xU]
     rw[htk,qy,zb]at he
     by_cases q:kD ws e=kD ws f
     ·rw[q0 q]
      have hme:e∈es:=he.elim (λz=>X.mem_iff.mp (yb z)) λz=>by rw[z];exact L
      have:=tL nd (W.aB e hme) (W.aB f L) q;rw[this.1,this.2]
     ·rw[qt q]
      exact he.elim (λz=>hd e z) λz=>absurd (by rw[z]) q
   have hH:=hg f L;refine{_,U,bp,_,U,aw.of (by rw[e5,ezs]),λhnil=>?_,λm hmm hmx=>?_}
   ·refine{_,_,U,U,_,U,_,U,x,ws,f,U,da.mono C,λG I R k=>{o,c,_,U,R _ _ (C _ _ N),k,hks,?_}}
    have e0:Hs.bx f.hd ws.length=[]:=List.map_eq_nil_iff.mp hnil;rw[e0]at hH;have:=put G I R k;rw[hH]at this;exact this
   ·refine{_,_,U,U,_,U,_,U,x,ws,f,U,da.mono C,λG I R k=>{o,c,_,U,R _ _ (C _ _ N),k,hks,?_}}
    have em:(hn f.aB f.num:Nat)=1+m:=by
     obtain⟨p,Y,rfl⟩:=qf.mp hmm;have h1:=Hs.lE (qf.mpr {p,Y,U}:hn p.1 p.2∈(Hs.bx f.hd ws.length).map λp=>hn p.1 p.2)
     have h2:Hs.oo ((Hs.bx f.hd ws.length).map λp=>hn p.1 p.2)≤hn p.1 p.2:=Hs.fD.mpr {zd _,λy D=>by
      obtain⟨r,hr',rfl⟩:=qf.mp D
      exact Int.ofNat_le.mp (hmx _ (qf.mpr {r,hr',U}))}
     omega
    have:=put G I R k;rw[em]at this;exact this
 ·rintro σ M ⟨c,u3,u4,rfl,s3,t,S,N,hd,Z⟩
  rw[show zs.length=os.length from ao.1,zn]at hd;exact{_,U,kk M o c s3 g1 N λd hd'=>hd d (X.mem_iff.mpr hd')}
def B5(T:Txt K mg tk)(F:FO K mg "_law_side" pM)(a:lN P w K mg base):ub P w K mg base:=by
 refine ax F xp (m2 λ_ _=>rfl) {} λfa n A outer s H vs Q E g h=>?_;refine{_,(ai (ar (ba (a2 (cl a g (a2 (ah de (vv 0) aj) (vv 1))) (xa (cI (a2 aE aE)) (ah bJ (vv 0) aj)))))),?_};obtain⟨i,p,ws,rfl,j,k⟩:=h;refine{_,U,_,_,U,U,{⋯,⋯},_,U,_,p,ws,U,j,λH1 v d o dv hd=>?_};obtain⟨ds,rfl,hn⟩:=hd;refine{aN rfl,λf H2 B c r=>?_};refine{_,U,_,_,U,U,(by show(0:Int)<2;decide),f,_,_,U,U,aw.of r,c7 _ ⋯,df _ ⋯,λm e=>?_}
 obtain⟨z,rfl,hz⟩:∃z:Str,m=.str z/\(z = "ahead" \/ z = "behind"):=by
  simp only[List.mem_cons,List.not_mem_nil,or_false]at e
  rcases e with rfl|rfl
  ·exact⟨_,U,.inl rfl⟩
  ·exact⟨_,U,.inr rfl⟩
 exact⟨aN rfl,λx q y b t=>k q (.ref x) _ ((o.trans c).trans b) (.tup t (.cons (dv.same (c.trans b)) (.cons (.str z) .nil))) ⟨ds,z,U,hn,hz⟩⟩
def Dt(T:Txt K mg tk)(F:FO K mg "_law_sign" n4)(a:jY P w K mg base)(b:iL P w K mg base):tX P w K mg base:=by
 refine ax F IM (m2 λ_ _=>rfl) {} λfa n A outer s H vs Q E f h=>?_
 refine{_,(aq (sn IM.nd 2 (ah bJ (vv 0) aj))
   (aq (az (ck iK (vv 2) aj) (ai (ar (fX DQ aE (vv 2) (λ_ _=>rfl)))) aO)
   (aq (az (ck aP (vv 2) aj) (ai (ar (ba (a2 aE (cl b f (a1 (ah de (vv 0) aj))))))) aO)
   (ai (ar (ba (a2 aE (cl a f (a2 (ah de (vv 0) aj) (vv 1)))))))))),?_}
 obtain⟨i,p,ws,rfl,m,k⟩:=h;refine{_,U,_,_,U,U,(by show(0:Int)<31;decide),?_};refine{_,U,_,_,U,U,_,U,?_};refine bC (λh1=>?_) λ_=>?_
 ·have h1:i % 31<29:=qF h1
  obtain⟨c,j⟩:=Kw ("abcdefghijklmnopqrstuvwxyz .,":Str).cps.toList (i % 31) (c7 _ ⋯) (by rw[show("abcdefghijklmnopqrstuvwxyz .,":Str).cps.toList.length=29 from ∅];omega);exact{_,U,_,_,_,U,U,∅,j,k H (.str {#[c]}) _ (ab.refl H) (.str _) (.inl {c,U,HZ j})}
 ·refine{_,U,U,_,U,?_}
  refine bC (λ_=>?_) λ_=>?_
  ·refine{_,U,_,_,U,U,{⋯,⋯},_,U,λz hz=>?_}
   exact{aN rfl,λq H1 g s e=>k H1 (.ref q) _ s (.tup e (.cons (.str _) (.cons (.str z) .nil))) (.inr (.inl {z,U,hz}))}
  ·refine{_,U,_,_,U,U,{⋯,⋯},_,U,_,p,ws,U,m,λH1 v d o dv hd=>?_}
   obtain⟨ds,rfl,hn⟩:=hd;exact{aN rfl,λr H2 g s e=>k H2 (.ref r) _ (o.trans s) (.tup e (.cons (.str _) (.cons (dv.same s) .nil))) (.inr (.inr {ds,U,hn}))}
def EK(T:Txt K mg tk)(F:FO K mg "_law_sign_names" ri)(t:lN P w K mg base):vE P w K mg base:=by
 refine ax F rr (m2 λ_ _=>rfl) {} λfa cdv A outer s H vs Q E hr h=>?_
 refine{_,(aq (sn rr.nd 2 (cI kH))
   (aq (fo (il (du gA (vv 0) dO (dg (ah cP aj (ah bJ (xl (vv 0)) aj))))) (gn rr.nd 3)
   (aq (sn rr.nd 4 (cl t hr (a2 (ah de (vv 3) aj) (vv 1))))
   (ai (az (ck (R6 hr) (vv 4) (vv 2)) (ai (ap (vv 2) (a1 (vv 4)))) aO))))
   (ai (ar (cy iy T.bG boot_tuple (a1 (vv 2))))))),?_}
 obtain⟨W,p,ws,N,rfl,L,hd,k⟩:=h;refine{aN rfl,λp2 H0 g0 s0 e0=>?_};have i:=hd.mono s0;obtain⟨r,h0⟩:=i.get 0 ⋯;refine{_,U,_,U,W,_,0,.int r,U,U,aw.of i.at',h0,_,_,U,U,(by show(0:Int)<12;decide),_,_,U,U,_,U,W,_,U,aw.of i.at',λX H1 g1 s1 e1=>?_};have D:=JN (xs:=List.map V.int N) (b:=1+r % 12) (by have:=c7 r (m:=12) ⋯;omega) (by have:=df r (m:=12) ⋯;omega) (by rw[qa];exact hd.len)
 have M:X≠p2:=λz=>by rw[z]at g1;rw[e0]at g1;cases g1
 refine{X,U,{_,aw.of e1},mS (xs:=bQ (List.map V.int N) none (some (1+r % 12))) (λj σ H2=>∃(xs:List V) (c:List (List PyData)) (O u2:Option V),σ=[some (.ref W),some (.ref p),some (.ref p2),O,u2]/\ab H H2/\H2 X=some (.lst (bQ (List.map V.int N) none (some (1+r % 12)))) ∧
  H2 p2=some (.lst xs)/\cn H2 xs (c.map .tuple)/\c.length≤j/\(1≤j->1≤c.length)/\c.Nodup/\∀b∈c,iV ws b)
  {[],[],none,none,U,s0.trans s1,e1,s1 _ _ e0,.nil,qb _,(),wj,λ_ z=>nomatch z} (λj σ H2 _ ⟨_,_,_,_,_,_,e,_⟩=>aw.of e) ?_ ?_}
 ·rintro j x σ H2 q ⟨xs,c,O,u2,rfl,I,eq,o,J,hps,G,nd,hf⟩
  obtain⟨m,rfl⟩:=o7 (qk q);have hj:j<12:=zc (qw.mp q).1 D.2;refine{_,U,_,_,U,U,{⋯,⋯},_,U,_,p,ws,U,L.mono I,λH3 v d f dv S=>?_};obtain⟨nm,rfl,hn⟩:=S;have n:=cn.same f J;obtain⟨b1,b2,b3⟩:=hn.plain L.wd
  have xl:xs.length=c.length:=by rw[lj J,qa]
  refine{_,U,_,U,.tuple nm,p2,c.map .tuple,xs,dv.dv,U,.inl (aw.of (f _ _ o)),n.dv,b2,kW λx q=>?_,by rw[b3];decide,_,U,?_}
  ·obtain⟨y,R,rfl⟩:=qf.mp q
   exact((hf y R).plain L.wd).2.1
  have Z:=MP (ds:=c.map .tuple) (d:=.tuple nm) (λx q=>by
   obtain⟨y,R,rfl⟩:=qf.mp q
   exact((hf y R).plain L.wd).1) b1
  refine bC (λg=>?_) λY=>?_
  ·have B:nm∉c:=λhm=>by
    have:=Z.mpr (qf.mpr {nm,hm,U});rw[this]at g;exact absurd g ⋯
   refine{_,U,.inl {U,_,aw.of (f _ _ o)},_,U,p2,_,_,U,U,f _ _ o,aV (),?_};have fp:H p2=none:=g0;refine{xs++[v],c++[nm],_,_,U,(I.trans f).wr fp,by rw[aD M];exact f _ _ eq,aG,?_,by rw[qm,zi];omega,λ_=>by rw[qm,zi];omega,JS nd B,λb C=>?_}
   ·rw[zf]
    exact cn.wr (f _ _ o) (λys z=>by cases z) (n.snoc dv)
   ·rcases qy.mp C with C|C
    ·exact hf b C
    ·rw[zb.mp C];exact hn
  ·refine{xs,c,_,_,U,I.trans f,f _ _ eq,f _ _ o,n,(),λ_=>?_,nd,hf}
   cases c with
   |nil=>exact absurd rfl Y
   |cons a b=>rw[qr];omega
 ·rintro σ H2 ⟨xs,c,O,u2,rfl,I,eq,o,J,hps,G,nd,hf⟩
  exact{_,U,p2,_,U,aw.of o,λl H3 g3 f e3=>k H3 (.ref l) c (I.trans f) (.tup e3 (cn.same f J)) (G ()) () hf nd}
def Dl(T:Txt K mg tk)(F:FO K mg "_law_told" pL)(O:vH P w K mg base)(J:tU P w K mg base)(S:oT P w K mg base)(N:tW P w K mg base)(L:uk P w K mg base)(I:vI P w K mg base):uN P w K mg base:=by
 refine ax F Dx (m1 λ_=>rfl) {} λfa cdv A outer s H vs Q E y h=>?_
 refine{_,(aq (sn Dx.nd 1 (cI (a2 (Nq T.aS O y (vv 0)) (Nq T.aS I y (vv 0)))))
   (aq (fo (il (Nq T.aS N y (vv 0))) (gn Dx.nd 2)
   (ai (ap (vv 1) (a1 (ba (ac (vv 2) (ac (me T.aS J y (vv 0) (a1 (vv 2))) (a2 (me T.aS S y (vv 0) (a1 (vv 2))) (me T.aS L y (vv 0) (a1 (vv 2)))))))))))
   (ai (ar (vv 1))))),?_}
 obtain⟨x,ws,hn,b,rfl,fk,kk⟩:=h;obtain⟨nd,W,hg,gd,bR⟩:=fk.RX;obtain⟨dx,fs,Y,no⟩:=fk.obj;refine{_,U,x,dx,_,U,Y,no _ ∅,x,ws,hn,b,U,fk,λHa ca sa ga ea=>?_};refine{_,U,x,dx,_,U,sa _ _ Y,no _ ∅,x,ws,hn,b,U,fk.same sa,λHb rb sb gb rl=>?_};have R:=sa.trans sb;refine{aN rfl,λf H1 r m e1=>?_};have s1:=R.trans m;have g1:H f=none:=R.free r;have nca:ca≠f:=cg (sb _ _ ea) r;have nrb:rb≠f:=cg rl.at' r;refine{_,U,x,dx,_,U,s1 _ _ Y,no _ ∅,x,ws,hn,b,U,fk.same s1,λH2 np ns s2 g2 e2 na=>?_}
 have nfn:np≠f:=λz=>by rw[z,e1]at g2;cases g2
 have na:=na.JV;have hnl:ns.length=b.length:=na.1;have ea2:=(m.trans s2) _ _ (sb _ _ ea);have rl2:=(m.trans s2) _ _ rl.at';refine{np,U,{_,aw.of e2},mS (xs:=ns) (λj σ c=>∃rows u,σ=[some (.ref x),some (.ref f),u]/\ab H c/\c np=some (.lst ns)/\A2 (λv e=>e_ c ws v (nm e)) ns b/\c ca=some (.tup (Hs.bY (mE ws.length b)))/\c rb=some (.lst (ws.map V.str))/\c f=some (.lst (.ref ca::.ref rb::rows))/\A2 (iJ (del c f) ws hn λd=>b.filter (Hs.mJ d.hd)) rows (b.take j)) {[],_,U,s1.trans s2,e2,na,ea2,rl2,s2 _ _ e1,.nil} (λj σ c _ ⟨_,_,_,_,e,_⟩=>aw.of e) ?_ ?_}
 ·rintro j v σ c hx ⟨rows,u,rfl,X,e3,i,k,t,D,M⟩
  obtain⟨B,ed,hv⟩:=i.at hx;have hm:B∈b:=qk ed;have hj:j<b.length:=(qw.mp ed).1
  have htk:b.take (j+1)=b.take j++[B]:=by rw[zo,ed];rfl
  have p:=fk.same X;have o:=X _ _ Y;refine{_,U,.inl {U,_,aw.of D},_,U,_,U,x,dx,_,U,o,no _ ∅,_,U,x,v,ws,hn,b,B,U,p,hv,hm,λdv hdv=>?_};refine{_,U,x,dx,_,U,o,no _ ∅,_,U,x,v,ws,hn,b,B,U,p.ko,hv,hm,W.aB B hm,nd,λH4 kv G hkv=>?_};refine{_,U,x,dx,_,U,G _ _ o,no _ ∅,_,U,x,v,ws,hn,b,B,U,p.same G,dB G hv,hm,λH5 pp pns s5 g5 e5 na5=>?_};refine{aN rfl,λrp H6 g6 Z e6=>?_};have a:=(G.trans s5).trans Z;have q:=a _ _ D
  have C:ie H6 (del H6 f):=Nm q λ_ z=>by cases z
  have npp:pp≠f:=λz=>by rw[z,G _ _ D]at g5;cases g5
  have lrow:rows.length≤63:=by rw[M.1,zq];omega
  refine{f,_,_,U,U,q,aV (by show rows.length+1+1≤_;omega),rows++[.ref rp],_,U,(X.trans a).wr g1,?_,?_,by rw[aD nca];exact a _ _ k,by rw[aD nrb];exact a _ _ t,aG,?_}
  ·rw[aD nfn]
   exact a _ _ e3
  ·exact i.imp λ_ _ _ g=>m7 (dB a g) (rH q λ_ z=>by cases z)
  ·rw[htk,lr]
   refine(M.imp λ_ _ _ g=>g.same a.tM).snoc {rp,v,dv,kv,pp,pns,U,C _ _ e6,m7 (dB a hv) C,F8 (hdv.mono a) C,DT.bK C (hkv.same (s5.trans Z)),sA (Z _ _ e5) npp,na5.imp λ_ _ _ g=>m7 (dB Z g) C}
 ·rintro σ c ⟨rows,u,rfl,X,e3,i,k,t,D,M⟩
  rw[hnl,zn]at M;refine{_,U,kk c f X g1 (.lst (aw.of D) (.cons (.tup (aH.of k) ?_) (.cons (.lst (aw.of t) (rZ ws)) (A2.eQ (A2.mw (M.imp λ_ _ _ g=>(g.same (jN _ _)).dv))))))};have:=(L2.bU c ((mE ws.length b).map λ(n:Nat)=>(n:Int))).dv;rw[zj,zj]at this;exact this
def ER(T:Txt K mg tk)(F:FO K mg "is_part" mV)(f:rj P w K mg base)(c:iC P w K mg base):om P w K mg base:=by
 refine ax F Af (m2 λ_ _=>rfl) {} λfa t A outer s H vs Q E o h=>?_;refine{_,(ai (ar (ec (cl f o (a1 (na 1))) (c0 (cl c o (a2 (na 0) (na 1))))))),?_};obtain⟨p,ws,v,d,rfl,r,hw,j,⟨m,rfl,x⟩,k⟩:=h;rcases x with rfl|⟨w,n,rfl,h1,h2,h3⟩
 ·obtain⟨a,rfl,i⟩:=jX j
  refine{a,"",0,U,i,λ_=>rfl,λH1 b=>?_};rw[qA rfl];exact{_,U,aL (k H1 b)}
 ·obtain⟨a,rfl,i⟩:=jX j
  have g:=eY (hw.wd w h1);refine{a,w,n,U,i,λe=>absurd e g,λH1 b=>?_};rw[decide_eq_false g];exact{_,U,aM {_,_,_,_,U,r.same b,hw.mono b,j.same b,{_,U,w,n,U,h1,h2,h3},λH2 q=>k H2 (b.trans q)}}
def Dp(T:Txt K mg tk)(F:FO K mg "is_line_or_none" oU)(b:iC P w K mg base):vB P w K mg base:=by
 refine ax F Bm (m2 λ_ _=>rfl) {} λfa g A outer s H vs Q E e h=>?_;refine{_,(ai (ar (ec (ce mv (na 1) eW) (c0 (cl b e (a2 (na 0) (na 1))))))),?_};obtain⟨p,ws,v,d,rfl,f,hw,c,hd,k⟩:=h;refine{U,_,U,?_};rcases hd with rfl|⟨m,rfl,hm⟩
 ·cases c
  exact aL (k H (ab.refl H))
 ·obtain⟨a,xs,rfl,_,_⟩:=c9 c
  exact aM {_,_,_,_,U,f,hw,c,{m,U,hm},k}
def DX(T:Txt K mg tk)(F:FO K mg "is_sign_name" mT)(b:iC P w K mg base)(c:iE P w K mg base)(f:fz P w K mg base):lP P w K mg base:=by
 refine ax F DA (m2 λ_ _=>rfl) {} λfa B A outer s H vs Q E g h=>?_;refine{_,(ai (ar (dM (cl f g (a2 (na 1) aj)) (dM (cl b g (a2 (na 0) (du sJ (na 1) dO (dg aj)))) (c0 (cl c g (a2 (xt (na 1)) aj))))))),?_};obtain⟨p,ws,v,d,rfl,z,hw,y,⟨m,rfl,w,n,i,rfl,h1,h2,D,C,G⟩,k⟩:=h;obtain⟨a,rfl,o⟩:=ux y;refine{a,_,_,U,o,U,_,U,aL {_,U,_,_,U,aH.of o,(λe=>absurd e.2 (by show ¬(2=3);decide)),λq t=>?_}};have j:ab H (upd H q (.tup [.str w,.int n])):=(ab.refl H).up t;refine{_,_,_,_,U,z.same j,hw.mono j,.tup (aG ..) (.cons (.str w) (.cons (.int n) .nil)),{_,U,w,n,U,h1,h2,D},λH2 x=>{_,U,aL ?_}};have r:=j.trans x;exact{_,_,_,.int i,U,U,aH.of (r _ _ o),U,_,_,U,C,G,k H2 r}
def EI(T:Txt K mg tk)(F:FO K mg "words_of" nE)(I:jS P w K mg base)(M:u0 P w K mg base)(m:uX P w K mg base):uP P w K mg base:=by
 refine ax F zK (m1 λ_=>rfl) {} λfa cdv A outer s H vs Q E O h=>?_
 refine{_,(aq (az (ck aP (xt (vv 0)) aE) (ai (l' (i:=1) zK.nd rfl (Or.inl rfl) (own:=["sign"]) (fr:=[]) rfl (iu (xt (vv 0))) {U,∅,∅} (fU ∅) (λ_ _ _=>(dF (i:=0) (by show List.Nodup (["sign"]:List Str);decide +kernel) rfl (Or.inl rfl))) (λ_=>kX rfl) (λ_ _ _=>b_) (λ_ _ _=>(cl M O (a1 (vv 0)))))) (ai (az (ck aP (xt (vv 0)) aE) (ai (l' (i:=1) zK.nd rfl (Or.inl rfl) (own:=["name"]) (fr:=[]) rfl (iu (xt (vv 0))) {U,∅,∅} (fU ∅) (λ_ _ _=>(dF (i:=0) (by show List.Nodup (["name"]:List Str);decide +kernel) rfl (Or.inl rfl))) (λ_=>kX rfl) (λ_ _ _=>b_) (λ_ _ _=>(cl I O (a1 (vv 0)))))) (ai (ar (l0 (iu (vv 0)) (λ_ _ _=>b_) (λ_ _ _=>(cl m O (a1 (vv 0))))))))))
   (ai (ar (ah pB (l0 (iu (du sJ (vv 0) dO (dg (ur Gi aj)))) (λ_ _ _=>b_) (λ_ _ _=>(cl m O (a1 (vv 0))))) (vv 1))))),?_}
 obtain⟨v,ds,ws,rfl,hv,hw,kk⟩:=h;obtain⟨q,xs,rfl,a,W⟩:=c9 hv;rcases hw.plain with⟨p,b,sg,rfl,rfl,G,hb,hl,hs⟩|⟨p,ns,rfl,rfl,G,hl,hs⟩|⟨⟨k,r,rfl,hk1,Z⟩,ha,rfl,hl⟩
 ·cases W with
  |cons o t =>
  cases t with
  |cons Y t =>
  cases t with
  |cons x3 t =>
  cases t with
  |cons x4 t =>
  cases t;cases eB o;obtain⟨D,S,rfl,c,y⟩:=c9 x4
  rename_i C y3
  refine{_,U,q,_,0,.str "put",U,U,aH.of a,bH (j:=0) rfl,U,_,U,oP ∅ ?_};refine{_,U,q,_,3,.ref D,U,U,aH.of a,bH (j:=3) rfl,D,U,{_,aH.of c},pV CG c y () (λx d H' R g hd dv s k=>?_) λH1 J e g1 N=>?_}
  ·refine aL (B:=g H') ?_
   exact{_,U,x,d,U,dv,hs d hd,k}
  refine{_,U,_,U,_,U,q,_,U,aH.of (e _ _ a),by show ¬(HT.bE 4 0 none=0/\HT.bE 4 4 (some (-1))=4);decide,λp2 g2=>?_};have n2:ab H1 (upd H1 p2 (.tup [.str "put",C,y3])):=ab.new g2;refine{p2,U,{_,aH.of aG},pV iI (xs:=[.str "put",C,y3]) (ds:=[.str "put",.tuple p,b]) aG ?_ (qz rfl) (λx d H' R g hd dv s k=>?_) λH3 p3 L g3 e3=>?_}
  ·exact cn.same (e.trans n2) (.cons o (.cons Y (.cons x3 .nil)))
  ·refine aL (B:=g H') ?_
   refine{_,U,x,d,U,dv,?_,k}
   simp only[List.mem_cons,List.not_mem_nil,or_false]at hd
   rcases hd with rfl|rfl|rfl
   ·exact .str _ ⋯
   ·exact .name p G
   ·exact o4 hb
  refine⟨_,U,p3,J,_,_,U,U,e3,(n2.trans L) _ _ N,?_,λp5 H5 g5 X e5=>kk H5 p5 (((e.trans n2).trans L).trans X) ?_⟩
  ·rw[qa,qa,qa,qa]
   exact qj (aV (by show 3+_≤1000;omega))
  ·rw[e5,zf,←eU G]
   rfl
 ·cases W with
  |cons o t =>
  cases t with
  |cons Y t =>
  cases t with
  |cons x4 t =>
  cases t;cases eB o;obtain⟨D,S,rfl,c,y⟩:=c9 x4
  rename_i C
  refine{_,U,q,_,0,.str "out",U,U,aH.of a,bH (j:=0) rfl,U,_,U,gE ∅ ?_};refine{_,U,q,_,0,.str "out",U,U,aH.of a,bH (j:=0) rfl,U,_,U,oP ∅ ?_};refine{_,U,q,_,2,.ref D,U,U,aH.of a,bH (j:=2) rfl,D,U,{_,aH.of c},pV iI c y (by rw[qa];omega) (λx d H' R g hd dv s k=>?_) λH1 J e g1 N=>?_}
  ·refine aL (B:=g H') ?_
   obtain⟨n,hn,rfl⟩:=qf.mp hd;rw[eU (hs n hn)]at k;exact{_,U,x,n,U,dv,hs n hn,k}
  refine{_,U,_,U,_,U,q,_,U,aH.of (e _ _ a),by show ¬(HT.bE 3 0 none=0/\HT.bE 3 3 (some (-1))=3);decide,λp2 g2=>?_};have n2:ab H1 (upd H1 p2 (.tup [.str "out",C])):=ab.new g2;refine{p2,U,{_,aH.of aG},pV iI (xs:=[.str "out",C]) (ds:=[.str "out",.tuple p]) aG ?_ (qz rfl) (λx d H' R g hd dv s k=>?_) λH3 p3 L g3 e3=>?_}
  ·exact cn.same (e.trans n2) (.cons o (.cons Y .nil))
  ·refine aL (B:=g H') ?_
   refine{_,U,x,d,U,dv,?_,k}
   simp only[List.mem_cons,List.not_mem_nil,or_false]at hd
   rcases hd with rfl|rfl
   ·exact .str _ ⋯
   ·exact .name p G
  refine⟨_,U,p3,J,_,_,U,U,e3,(n2.trans L) _ _ N,?_,λp5 H5 g5 X e5=>kk H5 p5 (((e.trans n2).trans L).trans X) ?_⟩
  ·rw[qa,qa,qa,qa,qa]
   exact qj (aV (by show 2+_≤1000;omega))
  ·rw[e5,zf,←eU G,zj (f:=PyData.tuple),show List.map (iI∘PyData.tuple) ns=List.map eJ ns from yl λn hn=>eU (hs n hn)]
   rfl
 ·cases W with
  |cons o t =>
  cases eB o;refine{_,U,q,_,0,.str k,U,U,aH.of a,bH (j:=0) rfl,U,_,U,gE (decide_eq_false λz=>hk1 (V.str.inj z)) ?_};refine{_,U,q,_,0,.str k,U,U,aH.of a,bH (j:=0) rfl,U,_,U,gE (decide_eq_false λz=>Z (V.str.inj z)) ?_};refine{_,U,q,U,{_,aH.of a},pV iI a (.cons o t) () (λx d H' R g hd dv s k=>?_) λH1 J e g1 N=>kk H1 J e N};refine aL (B:=g H') ?_;exact{_,U,x,d,U,dv,ha d hd,k}
def wV(T:Txt K mg tk)(F:FO K mg "read_part" mL)(b:lO P w K mg base):oO P w K mg base:=by
 refine ax F xM (m1 λ_=>rfl) {} λfa e A outer s H vs Q E a h=>?_;refine{_,(ai (ar (fH (ck aP (na 0) aE) (hX (v:=.ref eA) rfl T.eA rfl) (cl b a (a1 (na 0)))))),?_};obtain⟨z,d,rfl,c,a,k⟩:=h;refine{U,_,U,?_};rcases a with⟨rfl,rfl⟩|a
 ·exact sv rfl (k _ _ (ab.refl H) (.tup c.main (.cons (.str _) (.cons (.int _) .nil))))
 ·exact rm (decide_eq_false (cC.hd a|>.ne ∅)) ⟨_,_,U,c,a,k⟩
def zM(T:Txt K mg tk)(F:FO K mg "read_name_or_none" qP)(b:lO P w K mg base):tO P w K mg base:=by
 refine ax F C1 (m1 λ_=>rfl) {} λfa c A outer s H vs Q E a h=>?_;refine{_,(ai (ar (fH (ck aP (na 0) aE) eW (cl b a (a1 (na 0)))))),?_};obtain⟨z,d,rfl,e,a,k⟩:=h;refine{U,_,U,?_};rcases a with⟨rfl,rfl⟩|a
 ·exact sv rfl (k _ _ (ab.refl H) .aT)
 ·exact rm (decide_eq_false (cC.hd a|>.ne ∅)) ⟨_,_,U,e,a,k⟩
def xg(T:Txt K mg tk)(F:FO K mg "read_sign_name_or_none" qW)(b:lZ P w K mg base):uj P w K mg base:=by
 refine ax F Em (m1 λ_=>rfl) {} λfa c A outer s H vs Q E a h=>?_;refine{_,(ai (ar (fH (ck aP (na 0) aE) eW (cl b a (a1 (na 0)))))),?_};obtain⟨z,d,rfl,e,a,k⟩:=h;refine{U,_,U,?_};rcases a with⟨rfl,rfl⟩|a
 ·exact sv rfl (k _ _ (ab.refl H) .aT)
 ·exact rm (decide_eq_false (jJ.hd a|>.ne ∅)) ⟨_,_,U,e,a,k⟩
def AB(T:Txt K mg tk)(F:FO K mg "read_side" mR)(f:lZ P w K mg base):uy P w K mg base:=by
 refine ax F Ak (m1 λ_=>rfl) {} λfa x A outer s H vs Q E j h=>?_
 refine{_,(aq (az (PW.pt (m6 (cT (bP (bm PySem.F.plainAttrs_str PySem.F.slot_str_endswith PySem.F.type_str_endswith Cd (na 0) (a1 aE)))) (n_ (cT (bP (bm PySem.F.plainAttrs_str PySem.F.slot_str_endswith PySem.F.type_str_endswith Cd (na 0) (a1 aE))))))) (ai fC) aO)
   (ai (ar (ba (a2 (cl f j (a1 (du tJ (na 0) dO (dg (ur Gi aj))))) (fH (bP (bm PySem.F.plainAttrs_str PySem.F.slot_str_endswith PySem.F.type_str_endswith Cd (na 0) (a1 aE))) aE aE)))))),?_}
 obtain⟨z,d,rfl,p,j,k⟩:=h;obtain⟨ds,y,s',rfl,h1,h2⟩:=j;have B:=jJ.len h1
 have b:("<":Str)=⟨#[60]⟩:=∅
 have c:(">":Str)=⟨#[62]⟩:=∅
 have hz:∀a:Nat,(y++⟨#[a]⟩:Str).length≤sizeLine:=λa=>qj (aV (by rw[kQ];have:(⟨#[a]⟩:Str).length=1:=rfl;omega))
 rcases h2 with⟨rfl,rfl⟩|⟨rfl,rfl⟩
 ·have g:Txt.endswith (y++"<") "<"=true:=by rw[b,n8];rfl
  refine{U,_,_,U,U,?_};rw[g];refine{_,U,aM (aM ?_)};refine{_,U,_,U,_,U,(by rw[b];exact hz 60),?_}
  have i:cA (y++"<") none (some (-1))=y:=by rw[b];exact LG y 60
  rw[i];refine{y,ds,U,p,h1,λv H1 m n=>?_};refine{U,_,_,U,U,?_};rw[g];refine{_,U,aL ?_};refine{qj (aV (qz rfl)),λq H2 r e o=>?_};exact k _ _ (m.trans e) (.tup o (.cons (n.same e) (.cons (.str _) .nil)))
 ·have g:Txt.endswith (y++">") "<"=false:=by rw[b,c,n8];rfl
  have t:Txt.endswith (y++">") ">"=true:=by rw[c,n8];rfl
  refine{U,_,_,U,U,?_};rw[g];refine{_,U,aL ?_};refine{U,_,_,U,U,?_};rw[t];refine{_,U,aM ?_};refine{_,U,_,U,_,U,(by rw[c];exact hz 62),?_}
  have i:cA (y++">") none (some (-1))=y:=by rw[c];exact LG y 62
  rw[i];refine{y,ds,U,p,h1,λv H1 m n=>?_};refine{U,_,_,U,U,?_};rw[g];refine{_,U,aM ?_};refine{qj (aV (qz rfl)),λq H2 r e o=>?_};exact k _ _ (m.trans e) (.tup o (.cons (n.same e) (.cons (.str _) .nil)))
def Ae(T:Txt K mg tk)(F:MO K ak "__init__" "Folk.__init__" false oG)(gfCt:oT P w K mg base)(gfCw:uL P w K mg base)(gfBq:wC P w K mg base)(gfBi:vN P w K mg base)(gfCu:uc P w K mg base):tZ P w K mg base:=by
 refine lA.init (jP F Iw (m3 λ_ _ _=>rfl) {} λfa cdv A outer s H vs Q E hr h=>?_) T.pC.1 T.pC.2
 refine{_,(aq (sf T.aS T.b' (vv 0) (cy tE T.gQ boot_list (a1 (vv 1))))
   (aq (sf T.aS T.dD (vv 0) (cl gfCu hr (a1 (vv 1))))
   (aq (sf T.aS T.bN (vv 0) (cl gfCw hr (a1 (vv 2))))
   (aq (fo (NJ (fd T.aS T.bN (vv 0))) (gn Iw.nd 3)
   (ai (CO (cl gfBq hr (ac (fd T.aS T.b' (vv 0)) (a2 (fd T.aS T.bN (vv 0)) (vv 3)))))))
   (aq (sf T.aS T.eg (vv 0) (cl gfBi hr (a2 (fd T.aS T.b' (vv 0)) (fd T.aS T.bN (vv 0)))))
   (aq (sf T.aS T.bt (vv 0) (Sa T.aS gfCt hr T.jQ boot_sorted (a1 (cy (M3 hr.hd) T.gQ boot_list (a1 (fd T.aS T.bN (vv 0))))) (vv 0)))
   (ai (sf T.aS T.fP (vv 0) eW)))))))),?_}
 obtain⟨x,dx,rp,dp,ws,hn,des,fs,es,rfl,hx,G,hdp,an,sw,mem,hfl,kk⟩:=h;obtain⟨nd,W,hg,gd,bR⟩:=id sw;have few6:=G.bR;have up0:=jN H x;have nf:∀{H':Hp} {b:Addr},H' x≠none->H' b=none->b≠x:=λh1 h2 z=>h1 (z▸h2);refine{_,U,rp,_,U,.inl (aw.of (up0 _ _ G.at')),λf H1 g1 s1 e1=>?_};have nhp:f≠x:=nf (by rw[hx];simp) g1;have c1:ab (del H x) (del H1 x):=s1.tM;refine{_,U,x,dx,_,U,s1 _ _ hx,by show 0<1000;decide,?_}
 have c2:ab (del H x) (del (upd H1 x (.ins ak dx (F1 (.ref f)))) x):=by rw[lr];exact c1
 have rh:RL (del (upd H1 x (.ins ak dx (F1 (.ref f)))) x) f ws:={by rw[lr];exact sA e1 nhp,G.pos,G.bR,G.wd};have ob2:(upd H1 x (.ins ak dx (F1 (.ref f)))) x=some (.ins ak dx (F1 (.ref f))):=aG;show k9 _ _ _ _ (upd H1 x (.ins ak dx (F1 (.ref f))));generalize upd H1 x (.ins ak dx (F1 (.ref f)))=H2 at c2 rh ob2;have t2:=c2.trans (jN H2 x);refine{_,U,rp,ws,U,G.mono t2,nd,λH3 sp s3 g3 e3=>?_};have nsp:sp≠x:=nf (by rw[ob2];simp) g3;refine{_,U,x,dx,_,U,s3 _ _ ob2,wb Kd ⋯,?_}
 have c4:ab (del H2 x) (del (upd H3 x (.ins ak dx (F2 (.ref f) (.ref sp)))) x):=by rw[lr];exact s3.tM
 have se:(del (upd H3 x (.ins ak dx (F2 (.ref f) (.ref sp)))) x) sp=some (.dK (cL ws)):=by rw[lr];exact sA e3 nsp
 have ob4:(upd H3 x (.ins ak dx (F2 (.ref f) (.ref sp)))) x=some (.ins ak dx (F2 (.ref f) (.ref sp))):=aG;show k9 _ _ _ _ (upd H3 x (.ins ak dx (F2 (.ref f) (.ref sp))));generalize upd H3 x (.ins ak dx (F2 (.ref f) (.ref sp)))=H4 at c4 se ob4;have c04:=c2.trans c4;have t4:=c04.trans (jN H4 x);have one:∀a∈fs,∀b∈fs,a.aB=b.aB->a.num=b.num->a=b:=λa ha b hb=>W.one ((mem a).mpr ha) ((mem b).mpr hb);refine{_,U,dp,des,ws,fs,U,t4 _ _ hdp,an.imp λ_ _ _ g=>g.mono t4,nd,λd hd=>gd d ((mem d).mpr hd),hfl,one,λH5 tp kvs k s5 g5 e5 td5 up5 mem5=>?_};have ntp:tp≠x:=nf (by rw[ob4];simp) g5
 have pe:k.Perm es:=Of up5 W.uniq λd=>by rw[mem5,mem]
 have Z:=sw.perm pe;have W':=Z.wh;refine{_,U,x,dx,_,U,s5 _ _ ob4,wb J7 ⋯,?_}
 have c6:ab (del H4 x) (del (upd H5 x (.ins ak dx (F3 (.ref f) (.ref sp) (.ref tp)))) x):=by rw[lr];exact s5.tM
 have e6:(del (upd H5 x (.ins ak dx (F3 (.ref f) (.ref sp) (.ref tp)))) x) tp=some (.dG kvs):=by rw[lr];exact sA e5 ntp
 have ob6:(upd H5 x (.ins ak dx (F3 (.ref f) (.ref sp) (.ref tp)))) x=some (.ins ak dx (F3 (.ref f) (.ref sp) (.ref tp))):=aG;have td6:TD (upd H5 x (.ins ak dx (F3 (.ref f) (.ref sp) (.ref tp)))) ws kvs k:=td5.bK (rH (s5 _ _ ob4) FG);show k9 _ _ _ _ (upd H5 x (.ins ak dx (F3 (.ref f) (.ref sp) (.ref tp))));generalize upd H5 x (.ins ak dx (F3 (.ref f) (.ref sp) (.ref tp)))=H6 at c6 e6 ob6 td6;refine{_,U,x,dx,_,_,U,ob6,tG,tp,kvs,U,.inl {jN _ _ _ _ e6,λo=>?_}}
 have I:(upd H6 tp (.eD o (.dG kvs))) x=some (.ins ak dx (F3 (.ref f) (.ref sp) (.ref tp))):=by rw[aD ntp.symm];exact ob6
 have Y:TD (upd H6 tp (.eD o (.dG kvs))) ws kvs k:=td6.bK (rH (jN _ _ _ _ e6) nZ);have e7:(upd H6 tp (.eD o (.dG kvs))) tp=some (.eD o (.dG kvs)):=aG
 have keep:∀{b u},(del H6 x) b=some u->b≠tp->(upd H6 tp (.eD o (.dG kvs))) b=some u:=λh z=>by rw[aD z];exact jN _ _ _ _ h
 have rh7:RL (upd H6 tp (.eD o (.dG kvs))) f ws:={keep ((c4.trans c6) _ _ rh.at') (λz=>by
  have h1:=(c4.trans c6) _ _ rh.at';rw[z,e6]at h1
  cases h1),G.pos,G.bR,G.wd}
 have se7:(upd H6 tp (.eD o (.dG kvs))) sp=some (.dK (cL ws)):=keep (c6 _ _ se) (λz=>by
  have h1:=c6 _ _ se;rw[z,e6]at h1
  cases h1)
 have s07:ab (del H x) (upd H6 tp (.eD o (.dG kvs))):=((c04.trans c6).trans (jN _ _)).wr (c04.free (rX g5));generalize upd H6 tp (.eD o (.dG kvs))=H7 at I Y e7 rh7 se7 s07;refine OP (λj σ H8=>∃u3,σ=[some (.ref x),some (.ref rp),some (.ref dp),u3]/\ab H7 H8) {_,U,ab.refl _} (λj σ H8 ⟨_,_,t⟩=>t _ _ e7) ?_ ?_
 ·rintro j e σ H8 he ⟨u3,rfl,t⟩
  obtain⟨dd,ed,_,_,da⟩:=Y.at he;have hm:=qk ed;refine{_,U,x,dx,_,_,U,t _ _ I,yT,_,U,x,dx,_,_,U,t _ _ I,tG,_,U,f,tp,_,ws,dd,k,kvs,U,rh7.mono t,.inr {o,t _ _ e7},Y.same t,nd,W',da.mono t,hm,λH9 s9=>?_};exact{_,U,t.trans s9}
 rintro σ H8 ⟨u3,rfl,t⟩;have rd8:Rd H8 tp (.dG kvs):=.inr {o,t _ _ e7};refine{_,U,x,dx,_,_,U,t _ _ I,yT,_,U,x,dx,_,_,U,t _ _ I,tG,f,tp,ws,hn,k,kvs,U,rh7.mono t,rd8,Y.same t,Z,λH9 gp hvs s9 g9 e9 hd9=>?_};have r:=t.trans s9;have ob9:=r _ _ I;have ngp:gp≠x:=nf (by rw[t _ _ I];simp) g9;refine{_,U,x,dx,_,U,ob9,wb Jf ⋯,?_}
 have nx:∀{b u},H9 b=some u->(∀C dx fs,u≠.ins C dx fs)->b≠x:=λh1 h2 z=>by
  rw[z,ob9]at h1;exact h2 _ _ _ (qE h1).symm
 have k10:∀{b u},H9 b=some u->b≠x->(upd H9 x (.ins ak dx (F4 (.ref f) (.ref sp) (.ref tp) (.ref gp)))) b=some u:=λh z=>by rw[aD z];exact h
 have p:(upd H9 x (.ins ak dx (F4 (.ref f) (.ref sp) (.ref tp) (.ref gp)))) x=some (.ins ak dx (F4 (.ref f) (.ref sp) (.ref tp) (.ref gp))):=aG;have X:RL (upd H9 x (.ins ak dx (F4 (.ref f) (.ref sp) (.ref tp) (.ref gp)))) f ws:={k10 (r _ _ rh7.at') (nx (r _ _ rh7.at') λ_ _ _ z=>by cases z),G.pos,G.bR,G.wd};have M:=k10 (r _ _ se7) (nx (r _ _ se7) λ_ _ _ z=>by cases z);have e10:=k10 (r _ _ e7) (nx (r _ _ e7) λ_ _ _ z=>by cases z);have J:=k10 e9 ngp;have L:TD (upd H9 x (.ins ak dx (F4 (.ref f) (.ref sp) (.ref tp) (.ref gp)))) ws kvs k:=(Y.same r).bK (rH ob9 FG);have D:ab (del H x) (upd H9 x (.ins ak dx (F4 (.ref f) (.ref sp) (.ref tp) (.ref gp)))):=(s07.trans r).wr i3;show k9 _ _ _ _ (upd H9 x (.ins ak dx (F4 (.ref f) (.ref sp) (.ref tp) (.ref gp))));generalize upd H9 x (.ins ak dx (F4 (.ref f) (.ref sp) (.ref tp) (.ref gp)))=H10 at p X M e10 J L D;have hkl:kvs.length=k.length:=L.1;have few':=Z.bR;refine{_,U,x,dx,_,_,U,p,IY,tp,kvs,U,.inr {o,e10},(),λlp H11 g11 N e11=>?_}
 have ny:A2 (e_ H11 ws) (kvs.map (·.2.1)) (k.map nm):=A2.mw {by rw[qa,hkl],λi y z e1 e2=>by
  rw[qh]at e1
  cases e3:kvs[i]? with
  |none=>rw[e3]at e1;cases e1
  |some x0=>rw[e3]at e1;cases e1;exact dB N (L.2 i x0 z e3 e2).2.1}
 have ko:KO ak H10 x ws hn k:={dx,_,gp,sp,hvs,p,Km,Hc,J,hd9,M};refine{_,U,x,dx,_,U,N _ _ p,u7 ∅,lp,_,k.map (Hs.lV hn),2,U,aw.of e11,by rw[qa,qa,hkl],Qr hn k,{by rw[qa];omega,.inl (by rw[qa];omega)},?_,?_}
 ·intro m y dd H' Q' hy hd s q
  rw[qh]at hd
  cases e3:k[m]? with
  |none=>rw[e3]at hd;cases hd
  |some z =>
   rw[e3]at hd;cases hd;have hm:=qk e3;exact{x,y,ws,hn,k,z,U,(ko.same N).same s,dB s (ny.2 m y (nm z) hy (by rw[qh,e3];rfl)),hm,W'.aB z hm,nd,λH'' kv s'' hkv=>q H'' kv s'' hkv.dv}
 intro np B ix g12 s12 six e12;obtain⟨po,so⟩:=Hs.mD W' Z.hg six {0,0,[],.none,[]}
 have hix:∀i∈ix,i<k.length:=λi hi=>by
  have:=(six.1.mem_iff).mp hi
  rwa [zy,qa]at this
 have na:=(A2.imp (R':=λv e=>e_ B ws v (nm e)) (ys:=k) {by rw[qa,hkl],λi y z e1 e2=>ny.2 i y (nm z) e1 (by rw[qh,e2];rfl)} λ_ _ _ g=>dB s12 g).ix (a:=V.aT) (b:=({0,0,[],.none,[]}:Hs.Dd)) ix hix;generalize (ix.map λi=>k.getD i (⟨0,0,[],.none,[]⟩:Hs.Dd))=ss at po so na;generalize (ix.map λi=>(kvs.map (·.2.1)).getD i V.aT)=ns at e12 na;have c:=N.trans s12;have ob12:=c _ _ p;have nnp:np≠x:=nf (by rw[N _ _ p];simp) g12;refine{_,U,x,dx,_,U,ob12,wb L0 ⋯,?_};refine{_,U,x,dx,_,U,aG,wb AM ⋯,?_}
 have O:∀{b u} (w1 w2:HO),B b=some u->b≠x->(upd (upd B x w1) x w2) b=some u:=λw1 w2 h z=>by rw[aD z,aD z];exact h
 have R:∀{b u},B b=some u->(∀C dx fs,u≠.ins C dx fs)->b≠x:=λh1 h2 z=>by
  rw[z,ob12]at h1;exact h2 _ _ _ (qE h1).symm
 have tu:∀w1 w2:HO,ie B (upd (upd B x w1) x w2):=λw1 w2 b xs h=>O w1 w2 h (R h λ_ _ _ z=>by cases z)
 refine kk _ ss (((D.trans c).wr i3).wr i3) (po.trans pe) λS hS=>?_
 have fr:∀{b},(del H x) b=none->¬S b:=λh z=>by
  obtain⟨o,e,_⟩:=hS _ z;rw[h]at e;cases e
 have t10:=D
 have tv:∀w1 w2:HO,ie B (ll (upd (upd B x w1) x w2) S):=λw1 w2 b xs h=>k_ (tu w1 w2 b xs h) λz=>by
  obtain⟨o',e,n⟩:=hS _ z;have h2:=(D.trans c) _ _ e;rw[h]at h2;exact n xs (qE h2).symm
 refine{dx,f,sp,tp,gp,np,kvs,hvs,ns,k,k_ aG (fr i3),{k_ (O _ _ (c _ _ X.at') (R (c _ _ X.at') λ_ _ _ z=>by cases z)) (fr (rX g1)),G.pos,G.bR,G.wd},k_ (O _ _ (c _ _ M) (R (c _ _ M) λ_ _ _ z=>by cases z)) (fr (c2.free (rX g3))),.inr {o,k_ (O _ _ (c _ _ e10) (R (c _ _ e10) λ_ _ _ z=>by cases z)) (fr (c04.free (rX g5)))},(L.same c).bK (tv _ _),po.symm,k_ (O _ _ (c _ _ J) (R (c _ _ J) λ_ _ _ z=>by cases z)) (fr ((s07.trans t).free g9)),λd hd=>hd9 d (po.mem_iff.mp hd),k_ (O _ _ e12 nnp) (fr ((D.trans N).free g12)),A2.mw (na.imp λ_ _ _ g=>m7 g (tv _ _)),Z.perm po,so}
def Cg(T:Txt K mg tk)(F:FO K mg "_law_signs" lJ)(i:tX P w K mg base):vU P w K mg base:=by
 refine ax F Ag (m2 λ_ _=>rfl) {} λfa O A outer s H vs Q E L h=>?_;refine{_,(ai (ar (cy iy T.bG boot_tuple (a1 (vK (aa lJ) vZ [("_law_roll_here",1)] (il (du gA (vv 0) dO (dg (ah cP aj (ah bJ (xl (vv 0)) aj))))) (λ_ _ _=>b_) (λ_ _ _=>(cl i L (a2 (ah de (vv 0) aj) (vc 1))))))))),?_};obtain⟨C,p,ws,y,rfl,M,hd,k⟩:=h;obtain⟨g,R⟩:=hd.get 0 ⋯;refine{_,U,_,U,C,_,0,.int g,U,U,aw.of hd.at',R,_,_,U,U,(by show(0:Int)<12;decide),_,_,U,U,_,U,C,_,U,aw.of hd.at',λN H1 g1 I G=>?_};have D:=JN (xs:=List.map V.int y) (b:=1+g % 12) (by have:=c7 g (m:=12) ⋯;omega) (by have:=df g (m:=12) ⋯;omega) (by rw[qa];exact hd.len);refine{N,U,{_,aw.of G},f' (xs:=bQ (List.map V.int y) none (some (1+g % 12))) (qj (aV ())) (λj ys H'=>ab H1 H'/\∃c,cn H' ys c/\c.length=j/\∀x∈c,eP ws x) {ab.refl _,[],.nil,U,λ_ z=>nomatch z} (λ_ _ H' s=>aw.of (s.1 _ _ G)) (λj x ys H' Y S a s' k1 Z=>?_) λH' q ys s' X t=>?_}
 ·obtain⟨m,rfl⟩:=o7 (qk a)
  obtain⟨s',c,e,o,f⟩:=s';refine aL (B:=S H') ?_;refine{_,U,_,_,U,U,{⋯,⋯},_,U,_,p,ws,U,M.mono (I.trans s'),λH2 v d n dv r=>?_};refine k1 v H2 {s'.trans n,c++[d],(cn.same n e).snoc dv,by rw[qm,zi,o],λx a=>?_};rcases qy.mp a with a|a
  ·exact f x a
  ·rw[zb.mp a];exact r
 ·obtain⟨s',c,e,o,f⟩:=s'
  refine{q,ys,U,aw.of aG,λl H2 J n W=>?_};exact k H2 (.ref l) c (((I.trans s').up t).trans n) (.tup W (cn.same ((ab.new t).trans n) e)) () () f
def B8(T:Txt K mg tk)(F:FO K mg "_law_what_of_marks" nY)(C:j1 P w K mg base)(V:jY P w K mg base)(B:ub P w K mg base)(n:iL P w K mg base):tT P w K mg base:=by
 refine ax F mC (m3 λ_ _ _=>rfl) {} λfa cdv A outer s H vs Q E y h=>?_
 refine{_,(aq (sn mC.nd 3 (cl V y (a2 (xl (vv 1)) (vv 2))))
   (aq (sn mC.nd 4 (cl C y (a2 (xl (vv 1)) (vv 2))))
   (aq (sn mC.nd 5 (ba (a2 (cl B y (a2 (xl (vv 1)) (vv 2))) (cl B y (a2 (xl (vv 1)) (vv 2))))))
   (aq (az (ck aP (vv 0) aj) (aq (sn mC.nd 6 (xa (cI (a2 eW (cl n y (a1 (ah de (xl (vv 1)) aj))))) (cy n0 T.fy boot_int (a1 (ce fw (ah bJ (xl (vv 1)) aj) aj)))))
   (ai (ar (ah nu (ah nu (ba (a2 aE (vv 3))) (vv 5)) (ba (a2 (cl n y (a1 (xl (vv 1)))) (vv 6))))))) aO)
   (aq (az (ck aP (vv 0) aj) (ai (ar (ah nu (ah nu (ba (a2 aE (vv 3))) (vv 5)) (ba (a1 (cl n y (a1 (xl (vv 1))))))))) aO)
   (aq (az (ck aP (vv 0) aj) (ai (ar (ba (ac aE (ac (vv 3) (a2 (xa (cI (a2 aE aE)) (ah bJ (xl (vv 1)) aj)) (xa (cI (a2 eW (vv 4))) (cy n0 T.fy boot_int (a1 (ce fw (ah bJ (ah de (xl (vv 1)) aj) aj) aj)))))))))) aO)
   (aq (az (ck aP (vv 0) aj) (ai (ar (ba (ac aE (a2 (vv 3) (vv 4)))))) aO)
   (aq (sn mC.nd 7 (xa (cI (a2 aE (cl n y (a1 (ah de (xl (vv 1)) aj))))) (cy n0 T.fy boot_int (a1 (ce fw (ah bJ (xl (vv 1)) aj) aj)))))
   (ai (ar (ba (ac aE (ac (vv 3) (ac (vv 4) (a2 (cl C y (a2 (xl (vv 1)) (vv 2))) (vv 7)))))))))))))))),?_}
 obtain⟨i,o,p,ws,ns,rfl,a,hd,k⟩:=h;obtain⟨a0,h0⟩:=hd.get 0 ⋯;obtain⟨a1,h1⟩:=hd.get 1 ⋯;obtain⟨a2,h2⟩:=hd.get 2 ⋯;obtain⟨a3,h3⟩:=hd.get 3 ⋯;obtain⟨a4,h4⟩:=hd.get 4 ⋯;have s:=ab.refl H;refine{_,U,o,_,0,.int a0,U,U,aw.of hd.at',h0,_,U,_,p,ws,U,a,λH1 v1 d1 s1 n1 t1=>?_};obtain⟨pd,rfl,q⟩:=t1;replace a:=a.mono s1;replace hd:=hd.mono s1;replace s:=s.trans s1;refine{_,U,o,_,1,.int a1,U,U,aw.of hd.at',h1,_,U,_,p,ws,U,a,λH2 v2 d2 s2 n2 t2=>?_};obtain⟨nd,rfl,N⟩:=t2;replace a:=a.mono s2;replace hd:=hd.mono s2;replace n1:=n1.same s2;replace s:=s.trans s2;refine{_,U,o,_,1,.int a1,U,U,aw.of hd.at',h1,_,U,_,p,ws,U,a,λH3 v3 d3 s3 e t3=>?_};replace a:=a.mono s3;replace hd:=hd.mono s3;replace n1:=n1.same s3;replace n2:=n2.same s3;replace s:=s.trans s3;refine{_,U,o,_,2,.int a2,U,U,aw.of hd.at',h2,_,U,_,p,ws,U,a,λH4 v4 d4 R f t4=>?_};replace a:=a.mono R;replace hd:=hd.mono R;replace n1:=n1.same R;replace n2:=n2.same R;replace e:=e.same R;replace s:=s.trans R;refine{aN rfl,λq5 H5 g5 L D=>?_};replace a:=a.mono L;replace hd:=hd.mono L;replace n1:=n1.same L;replace n2:=n2.same L;replace e:=e.same L;replace f:=f.same L;replace s:=s.trans L;refine{_,U,U,_,U,?_};refine bC (λ_=>?_) λ_=>?_
 ·refine{_,U,o,_,4,.int a4,U,U,aw.of hd.at',h4,_,_,U,U,{⋯,⋯},_,U,λz hz=>?_}
  refine{aN rfl,λq6 H6 g6 m e6=>?_};replace a:=a.mono m;replace hd:=hd.mono m;replace n1:=n1.same m;replace n2:=n2.same m;replace e:=e.same m;replace f:=f.same m;replace s:=s.trans m;replace D:=m _ _ D;refine{_,U,o,_,4,.int a4,U,U,aw.of hd.at',h4,_,_,U,U,(by show(0:Int)<3;decide),_,_,U,U,.inr {_,U,?_}};refine{q6,_,_,U,U,aw.of e6,oy _,qQ _,λv G=>?_}
  have I:∃b,(∀H',DT H' v b)/\L6 b:=by
   simp only[List.mem_cons,List.not_mem_nil,or_false]at G
   rcases G with rfl|rfl
   ·exact⟨_,λ_=>.aT,.inl rfl⟩
   ·exact⟨_,λ_=>.str z,.inr ⟨_,U,hz⟩⟩
  obtain⟨b,db,I⟩:=I;refine{_,U,aN rfl,λS H7 g7 d W=>?_};replace a:=a.mono d;replace hd:=hd.mono d;replace n1:=n1.same d;replace n2:=n2.same d;replace e:=e.same d;replace f:=f.same d;replace s:=s.trans d;replace D:=d _ _ D;refine{_,U,S,q5,_,_,U,U,aH.of W,aH.of D,by simp,by simp,aN rfl,λq8 H8 g8 g t=>?_};replace a:=a.mono g;replace hd:=hd.mono g;replace n1:=n1.same g;replace n2:=n2.same g;replace e:=e.same g;replace f:=f.same g;replace s:=s.trans g;refine{_,U,o,_,3,.int a3,U,U,aw.of hd.at',h3,_,U,λZ M=>?_};refine{_,U,aN rfl,λJ H10 g10 c O=>?_};replace a:=a.mono c;replace hd:=hd.mono c;replace n1:=n1.same c;replace n2:=n2.same c;replace e:=e.same c;replace f:=f.same c;replace s:=s.trans c;replace t:=c _ _ t;refine{q8,J,_,_,U,U,aH.of t,aH.of O,by simp,by simp,aN rfl,λq9 x g9 j r=>?_};exact k x _ _ (s.trans j) (.tup (xs:=[.str "mark",v1,v3,v4,.str Z,v]) r (.cons (.str _) (.cons (n1.same j) (.cons (e.same j) (.cons (f.same j) (.cons (.str Z) (.cons (db _) .nil))))))) λnum=>.mark _ _ _ _ _ q t3 t4 M I
 refine{_,U,U,_,U,?_};refine bC (λ_=>?_) λ_=>?_
 ·refine{_,U,aN rfl,λS H7 g7 d W=>?_}
  replace a:=a.mono d;replace hd:=hd.mono d;replace n1:=n1.same d;replace n2:=n2.same d;replace e:=e.same d;replace f:=f.same d;replace s:=s.trans d;replace D:=d _ _ D;refine{_,U,S,q5,_,_,U,U,aH.of W,aH.of D,by simp,by simp,aN rfl,λq8 H8 g8 g t=>?_};replace a:=a.mono g;replace hd:=hd.mono g;replace n1:=n1.same g;replace n2:=n2.same g;replace e:=e.same g;replace f:=f.same g;replace s:=s.trans g;refine{_,U,o,_,3,.int a3,U,U,aw.of hd.at',h3,_,U,λZ M=>?_};refine{aN rfl,λJ H10 g10 c O=>?_};replace a:=a.mono c;replace hd:=hd.mono c;replace n1:=n1.same c;replace n2:=n2.same c;replace e:=e.same c;replace f:=f.same c;replace s:=s.trans c;replace t:=c _ _ t;refine{q8,J,_,_,U,U,aH.of t,aH.of O,by simp,by simp,aN rfl,λq9 x g9 j r=>?_};exact k x _ _ (s.trans j) (.tup (xs:=[.str "note",v1,v3,v4,.str Z]) r (.cons (.str _) (.cons (n1.same j) (.cons (e.same j) (.cons (f.same j) (.cons (.str Z) .nil)))))) λnum=>.note _ _ _ _ q t3 t4 M
 refine{_,U,U,_,U,?_};refine bC (λ_=>?_) λ_=>?_
 ·refine{_,U,aN rfl,λS H7 g7 d W=>?_}
  replace a:=a.mono d;replace hd:=hd.mono d;replace n1:=n1.same d;replace n2:=n2.same d;replace e:=e.same d;replace f:=f.same d;replace s:=s.trans d;refine{_,U,o,_,2,.int a2,U,U,aw.of hd.at',h2,_,_,U,U,(by show(0:Int)<2;decide),S,_,_,U,U,aw.of W,c7 _ ⋯,df _ ⋯,λv G=>?_}
  obtain⟨z,rfl,hz⟩:∃z:Str,v=.str z/\(z = "row" \/ z = "column"):=by
   simp only[List.mem_cons,List.not_mem_nil,or_false]at G
   rcases G with rfl|rfl
   ·exact⟨_,U,.inl rfl⟩
   ·exact⟨_,U,.inr rfl⟩
  refine⟨_,U,aN rfl,λq8 H8 g8 g t=>?_⟩;replace a:=a.mono g;replace hd:=hd.mono g;replace n1:=n1.same g;replace n2:=n2.same g;replace e:=e.same g;replace f:=f.same g;replace s:=s.trans g;refine{_,U,o,_,2,.int a2,U,U,aw.of hd.at',h2,_,_,U,U,{⋯,⋯},_,_,U,U,(by show(0:Int)<3;decide),_,_,U,U,.inr {_,U,?_}};refine{q8,_,_,U,U,aw.of t,oy _,qQ _,λv2' Y=>?_}
  have I:∃b,DT H8 v2' b/\vT (cX ws) b:=by
   simp only[List.mem_cons,List.not_mem_nil,or_false]at Y
   rcases Y with rfl|rfl
   ·exact⟨_,.aT,.inl rfl⟩
   ·exact⟨_,n2,.inr ⟨_,U,N⟩⟩
  obtain⟨b,db,I⟩:=I;exact{aN rfl,λq9 x g9 j r=>k x _ _ (s.trans j) (.tup r (.cons (.str _) (.cons (n1.same j) (.cons (.str z) (.cons (db.same j) .nil))))) λnum=>.line _ _ _ q hz I}
 refine{_,U,U,_,U,?_};refine bC (λ_=>{_,U,_,U,aN rfl,λq9 x g9 j r=>k x _ _ (s.trans j) (.tup r (.cons (.str _) (.cons (n1.same j) (.cons (n2.same j) .nil)))) λnum=>.i6 _ _ q N}) λ_=>?_;refine{_,U,o,_,3,.int a3,U,U,aw.of hd.at',h3,_,_,U,U,{⋯,⋯},_,U,λz hz=>?_};refine{aN rfl,λq6 H6 g6 m e6=>?_};replace a:=a.mono m;replace hd:=hd.mono m;replace n1:=n1.same m;replace n2:=n2.same m;replace e:=e.same m;replace f:=f.same m;replace s:=s.trans m;refine{_,U,o,_,3,.int a3,U,U,aw.of hd.at',h3,_,_,U,U,(by show(0:Int)<3;decide),_,_,U,U,.inr {_,U,?_}};refine{q6,_,_,U,U,aw.of e6,oy _,qQ _,λv G=>?_}
 obtain⟨z',rfl,hz'⟩:∃z':Str,v=.str z'/\(z' = "" \/ cm z'):=by
  simp only[List.mem_cons,List.not_mem_nil,or_false]at G
  rcases G with rfl|rfl
  ·exact⟨_,U,.inl rfl⟩
  ·exact⟨_,U,.inr hz⟩
 refine⟨_,U,_,U,_,U,o,_,2,.int a2,U,U,aw.of hd.at',h2,_,U,_,p,ws,U,a,λH7 v7 d7 d n7 t7=>?_⟩;obtain⟨nd2,rfl,X⟩:=t7;replace a:=a.mono d;replace hd:=hd.mono d;replace n1:=n1.same d;replace n2:=n2.same d;replace e:=e.same d;replace f:=f.same d;replace s:=s.trans d;exact{_,U,aN rfl,λq9 x g9 j r=>k x _ _ (s.trans j) (.tup r (.cons (.str _) (.cons (n1.same j) (.cons (n2.same j) (.cons (n7.same j) (.cons (.str z') .nil)))))) λnum=>.cell _ _ _ _ q N X hz'}
def CZ(T:Txt K mg tk)(F:FO K mg "is_sign_name_or_none" o9)(b:lP P w K mg base):uS P w K mg base:=by
 refine ax F BH (m2 λ_ _=>rfl) {} λfa g A outer s H vs Q E e h=>?_;refine{_,(ai (ar (ec (ce mv (na 1) eW) (c0 (cl b e (a2 (na 0) (na 1))))))),?_};obtain⟨p,ws,v,d,rfl,f,hw,c,hd,k⟩:=h;refine{U,_,U,?_};rcases hd with rfl|⟨m,rfl,hm⟩
 ·cases c
  exact aL (k H (ab.refl H))
 ·obtain⟨a,xs,rfl,_,_⟩:=c9 c
  exact aM {_,_,_,_,U,f,hw,c,{m,U,hm},k}
def Ci(T:Txt K mg tk)(F:FO K mg "is_side" oZ)(c:gY P w K mg base)(b:lP P w K mg base)(e:fz P w K mg base):ui P w K mg base:=by
 refine ax F BR (m2 λ_ _=>rfl) {} λfa n A outer s H vs Q E f h=>?_;refine{_,(ai (ar (dM (cl e f (a2 (na 1) aj)) (dM (cl b f (a2 (na 0) (xt (na 1)))) (c0 (cl c f (a2 (xt (na 1)) (hX (v:=.ref cG) rfl T.cG rfl)))))))),?_};obtain⟨p,ws,v,d,rfl,j,hw,r,⟨m,z,rfl,q,hz⟩,k⟩:=h;obtain⟨a,x,y,rfl,i,o,ty⟩:=d2 r;cases ty;refine{a,_,_,U,i,U,_,U,aL {_,_,_,x,U,U,aH.of i,U,_,_,_,_,U,j,hw,o,{m,U,q},λH1 g=>{_,U,aL {_,_,_,.str z,U,U,aH.of (g _ _ i),U,z,_,["ahead","behind"],U,(j.same g).RE,?_}}}};rw[qA (by simpa using hz)];exact k H1 g
def Ct(T:Txt K mg tk)(F:FO K mg "is_sign_of_roll" nJ)(g:om P w K mg base)(f:vR P w K mg base):uO P w K mg base:=by
 refine ax F Di (m2 λ_ _=>rfl) {} λfa r A outer s H vs Q E m h=>?_
 refine{_,(aq (az (cT (bP (cl f m (a1 (na 1))))) (ai (ar cW)) aO)
   (ai (ar (ec (cb dQ T.aC boot_isinstance (a2 (na 1) (dH (v:=.ty "str") (by rfl) T.dU boot_str rfl))) (ec (ce aP (xt (na 1)) aE) (c0 (cl g m (a2 (na 0) (xt (na 1)))))))))),?_}
 obtain⟨p,ws,v,d,rfl,o,hw,i,hd,k⟩:=h;refine{v,d,ws,U,i,hd,hw.wd,λH1 b=>{_,U,aM ?_}};rcases hd with⟨c,rfl,t⟩|⟨z,rfl,hz⟩|⟨ds,rfl,q⟩
 ·cases i
  exact⟨_,"str",_,U,U,.str _,_,U,aL (k H1 b)⟩
 ·obtain⟨a,x,y,rfl,e,j,ty⟩:=d2 i
  cases j;refine{_,"str",_,U,U,.tup (b _ _ e),_,U,aM {_,_,_,.str "picture",U,U,aH.of (b _ _ e),U,U,_,U,?_}};rw[qA rfl];exact aL (k H1 b)
 ·obtain⟨a,x,y,rfl,e,j,ty⟩:=d2 i
  cases j;refine{_,"str",_,U,U,.tup (b _ _ e),_,U,aM {_,_,_,.str "refer",U,U,aH.of (b _ _ e),U,U,_,U,?_}};rw[decide_eq_false ∅];exact aM {_,_,_,y,U,U,aH.of (b _ _ e),U,_,_,_,_,U,o.same b,hw.mono b,ty.same b,{ds,U,q},λH2 n=>k H2 (b.trans n)}
def wI(T:Txt K mg tk)(F:FO K mg "is_sign_names" lB)(f:lP P w K mg base):uF P w K mg base:=by
 refine ax F C' (m2 λ_ _=>rfl) {} λfa R A outer s H vs Q E D h=>?_
 refine{_,(aq (az (PW.pt (dz (cT (bP (cb dQ T.aC boot_isinstance (a2 (na 1) (dH (v:=.ty "tuple") (by rfl) T.bG boot_tuple rfl))))) (f9 (cT (sN d_ d_ aj (cb cZ T.bh boot_len (a1 (na 1))) (hX (v:=.int 12) (by rfl) T.fv {_,U})))))) (ai (ar cW)) aO)
   (aq (az (cT (bP (cb (kE rfl) T.gK boot_all (a1 (vK (aa lB) uW [("roll",0)] (iu (na 1)) (λ_ _ _=>b_) (λ_ _ _=>(cl f D (a2 (nc 1) (na 0))))))))) (ai (ar cW)) aO)
   (ai (ar (ce aP (cb Lu T.bh boot_len (a1 (cy (QG rfl (Sh D)) T.uB boot_set (a1 (na 1))))) (cb cZ T.bh boot_len (a1 (na 1)))))))),?_}
 obtain⟨p,ws,v,d,rfl,O,hw,M,⟨G,rfl,h1,h2,hs,nd⟩,k⟩:=h;obtain⟨a,xs,rfl,c,t⟩:=c9 M;have z:=Mj t;rw[qa]at z;refine{_,"tuple",_,U,U,.tup c,_,U,aM {a,_,U,.inr (aH.of c),_,_,U,U,_,U,?_}};rw[q0 (qA (show(1:Int)≤(xs.length:Int) from ()))];refine{_,_,U,U,_,U,?_};rw[show decide ((xs.length:Int)≤12)=true from qA ()]
 have at':∀{i:Nat} {x:V},xs[i]?=some x->∃m,G[i]?=some m/\DT H x (.tuple m):=λr=>by
  obtain⟨d,hd,td⟩:=dat t r;rw[qh]at hd;obtain⟨m,e,rfl⟩:=vf.mp hd;exact{m,e,td}
 refine aM {a,U,{_,aH.of c},Oy () c (λi x H' Z Y r g k1=>?_) λH' q g J=>{q,List.replicate _ true,U,aw.of (by rw[aG,jh]),?_}}
 ·obtain⟨m,e,td⟩:=at' r
  exact aL (B:=Y H') {_,_,_,_,U,O.same g,hw.mono g,td.same g,{m,U,hs m (qk e)},k1}
 ·rw[sh]
  have C:=g.up (o:=.lst (List.replicate xs.length (.bl true))) J;refine{_,U,aM (kR.nd a xs (G.map (·.map L5)) rfl (C _ _ c) (by rw[qa];exact z) (λi y ks W j=>?_) (Ij nd hs) (by rw[qa];omega) λL H2 N X j=>?_)}
  ·obtain⟨m,e,td⟩:=at' W
   rw[qh,e]at j;cases j;obtain⟨w,n,i,rfl,_⟩:=hs m (qk e);obtain⟨b,rfl,S⟩:=ux td;exact{_,U,C _ _ S}
  ·have I:=C.trans X
   rw[qa]at j;refine{L,_,U,(),j,a,_,U,.inr (aH.of (I _ _ c)),U,?_};rw[qA (by rw[z])];exact k _ I
def xT(T:Txt K mg tk)(F:FO K mg "shown_deed" oB)(c:vS P w K mg base)(d:nj P w K mg base)(a:uP P w K mg base):uH P w K mg base:=by
 refine ax F J2 (m1 λ_=>rfl) {} λfa C A outer s H vs Q E e h=>?_
 refine{_,(aq (sn J2.nd 1 (cI (ac (xt (vv 0)) (ac (cy tK T.dU boot_str (a1 (xt (vv 0)))) (a2 (cl d e (a1 (xt (vv 0)))) (cl c e (a1 (xt (vv 0)))))))))
   (ai (ar (bm PySem.F.plainAttrs_str PySem.F.slot_str_join PySem.F.type_str_join wJ aE (a1 (ah pB (vv 1) (cl a e (a1 (xt (vv 0)))))))))),?_}
 obtain⟨v,w,n,hs,b,ws,rfl,dk,kk⟩:=h;obtain⟨q,i,o,k,ds,rfl,eq,L,y,dx,hw⟩:=dk.at';refine{_,U,q,_,0,.str w,U,U,aH.of eq,bH (j:=0) rfl,?_};refine{_,U,q,_,1,.int n,U,U,aH.of eq,bH (j:=1) rfl,_,U,.inr {n,U,xN dk.nn},?_};refine{_,U,q,_,2,i,U,U,aH.of eq,bH (j:=2) rfl,i,hs,U,L,dk.hl,dk.hf,λH1 g=>?_};refine{_,U,q,_,3,o,U,U,aH.of (g _ _ eq),bH (j:=3) rfl,o,b,U,y.same g,dk.bo,λH2 I=>?_};have t2:=g.trans I;refine{aN rfl,λN R O z D=>?_};have f:=t2.trans z;refine{U,_,U,_,U,q,_,4,k,U,U,aH.of (f _ _ eq),bH (j:=4) rfl,k,ds,ws,U,dx.same f,hw,λS G m p=>?_};have M:=f.trans m;have B:=hw.len;refine{N,G,_,_,U,U,m _ _ D,p,?_,λx J V r t=>?_}
 ·rw[qa]
  exact qj (aV (by show 4+_≤1000;omega))
 refine{" ",x,([w,toString n,Txt.join "," (hs.map bI),jU b]:List Str)++ws,U,U,aw.of ?_,EO dk.wl dk.nn dk.hl dk.hf dk.bo B,kk J (M.trans r)};rw[t,zf];rfl
def y8(T:Txt K mg tk)(F:FO K mg "read_sign" pY)(e:oO P w K mg base)(i:fW P w K mg base):uh P w K mg base:=by
 refine ax F zU (m1 λ_=>rfl) {} λfa I A outer s H vs Q E n h=>?_
 refine{_,(aq (az (bP (bm PySem.F.plainAttrs_str PySem.F.slot_str_startswith PySem.F.type_str_startswith Gb (na 0) (a1 aE))) (ai (ar (ba (a2 aE (cl i n (a1 (du tJ (na 0) (dg aj) dO))))))) aO)
   (aq (az (bP (bm PySem.F.plainAttrs_str PySem.F.slot_str_startswith PySem.F.type_str_startswith Gb (na 0) (a1 aE))) (ai (ar (ba (a2 aE (cl e n (a1 (du tJ (na 0) (dg aj) dO))))))) aO)
   (ai (ar (fH (ck aP (na 0) aE) aE (na 0)))))),?_}
 obtain⟨z,d,rfl,C,n,k⟩:=h
 have b:("*":Str)=⟨#[42]⟩:=∅
 have a:("#":Str)=⟨#[35]⟩:=∅
 rcases n with⟨c,rfl,D,rfl⟩|⟨w,rfl,hw,rfl⟩|⟨p,y,rfl,o,rfl⟩
 ·have J:∀c∈("abcdefghijklmnopqrstuvwxyz .,":Str).cps.toList,Txt.startswith (if(⟨#[c]⟩:Str) = " " then("_":Str) else⟨#[c]⟩) "*"=false/\Txt.startswith (if(⟨#[c]⟩:Str) = " " then("_":Str) else⟨#[c]⟩) "#"=false/\((⟨#[c]⟩:Str)≠" "->(⟨#[c]⟩:Str)≠"_"):=∅
  obtain⟨j,f,t⟩:=J c D;refine{U,_,_,U,U,?_};rw[j];refine{_,U,aM ?_};refine{U,_,_,U,U,?_};rw[f];refine{_,U,aM ?_};refine{U,_,U,?_}
  by_cases g:(⟨#[c]⟩:Str) = " "
  ·refine sv (by rw[q0 g]) ?_
   rw[g]at k;exact k _ _ (ab.refl H) (.str _)
  ·refine rm (decide_eq_false (by rw[qt g];exact t g)) ?_
   show Q (.str (if({#[c]}:Str) = " " then("_":Str) else{#[c]})) H;rw[qt g];exact k _ _ (ab.refl H) (.str _)
 ·have j:Txt.startswith ("*"++w) "*"=true:=by rw[b,Ce];rfl
  have f:cA ("*"++w) (some 1) none=w:=by rw[b];exact JH 42 w
  refine{U,_,_,U,U,?_};rw[j];refine{_,U,aL ?_};refine{_,U,_,U,(by rw[kQ];exact qj (aV (by have:=c_ hw;have:("*":Str).length=1:=rfl;omega))),?_};rw[f];refine{w,.str w,U,C,{U,hw},λv H1 x r=>?_};refine{qj (aV (qz rfl)),λq H2 G m B=>?_};exact k _ _ (x.trans m) (.tup B (.cons (.str _) (.cons (r.same m) .nil)))
 ·have j:Txt.startswith ("#"++y) "*"=false:=by rw[b,a,Ce];rfl
  have t:Txt.startswith ("#"++y) "#"=true:=by rw[a,Ce];rfl
  have f:cA ("#"++y) (some 1) none=y:=by rw[a];exact JH 35 y
  have L:y.length≤998:=by
   rcases o with⟨_,rfl⟩|o
   ·decide +kernel
   ·exact qg (cC.len o) ⋯
  refine⟨U,_,_,U,U,?_⟩;rw[j];refine{_,U,aM ?_};refine{U,_,_,U,U,?_};rw[t];refine{_,U,aL ?_};refine{_,U,_,U,(by rw[kQ];exact qj (aV (by have:("#":Str).length=1:=rfl;omega))),?_};rw[f];refine{y,p,U,C,o,λv H1 x r=>?_};refine{qj (aV (qz rfl)),λq H2 G m B=>?_};exact k _ _ (x.trans m) (.tup B (.cons (.str _) (.cons (r.same m) .nil)))
def Bl(T:Txt K mg tk)(F:FO K mg "_law_what_of_signs" oA)(G:j1 P w K mg base)(B:jY P w K mg base)(q:lN P w K mg base)(D:vE P w K mg base)(t:vU P w K mg base):uY P w K mg base:=by
 refine ax F rN (m3 λ_ _ _=>rfl) {} λfa cdv A outer s H vs Q E o h=>?_
 refine{_,(aq (sn rN.nd 3 (cl B o (a2 (xl (vv 1)) (vv 2))))
   (aq (sn rN.nd 4 (cl G o (a2 (xl (vv 1)) (vv 2))))
   (aq (sn rN.nd 5 (xa (cI (a2 eW (cl q o (a2 (ah de (xl (vv 1)) aj) (vv 2))))) (cy n0 T.fy boot_int (a1 (ce fw (ah bJ (xl (vv 1)) aj) aj)))))
   (aq (az (ck aP (vv 0) aj) (ai (ar (ba (a2 aE (vv 3))))) aO)
   (aq (az (ck aP (vv 0) aj) (ai (ar (ba (ac aE (a2 (vv 4) (vv 3)))))) aO)
   (aq (az (ck aP (vv 0) aj) (ai (ar (ba (a2 aE (vv 4))))) aO)
   (aq (az (ck aP (vv 0) aj) (ai (ar (ba (ac aE (ac (vv 3) (a2 (vv 5) (cl t o (a2 (du gA (vv 1) (dg aj) dO) (vv 2))))))))) aO)
   (aq (az (ck aP (vv 0) aj) (ai (ar (ba (ac aE (a2 (vv 3) (cl D o (a2 (du gA (vv 1) (dg aj) dO) (vv 2)))))))) aO)
   (ai (ar (ba (a1 aE)))))))))))),?_}
 obtain⟨i,j,p,ws,ns,rfl,c,hd,k⟩:=h;obtain⟨a0,h0⟩:=hd.get 0 ⋯;obtain⟨a1,h1⟩:=hd.get 1 ⋯;have s:=ab.refl H;refine{_,U,j,_,0,.int a0,U,U,aw.of hd.at',h0,_,U,_,p,ws,U,c,λH1 v1 d1 Z n1 t1=>?_};obtain⟨pd,rfl,f⟩:=t1;replace c:=c.mono Z;replace hd:=hd.mono Z;replace s:=s.trans Z;refine{_,U,j,_,1,.int a1,U,U,aw.of hd.at',h1,_,U,_,p,ws,U,c,λH2 v2 d2 J n2 t2=>?_};obtain⟨nd,rfl,x⟩:=t2;replace c:=c.mono J;replace hd:=hd.mono J;replace n1:=n1.same J;replace s:=s.trans J;refine{_,U,j,_,1,.int a1,U,U,aw.of hd.at',h1,_,_,U,U,{⋯,⋯},_,U,_,p,ws,U,c,λH3 v3 d3 y W t3=>?_};obtain⟨sd,rfl,N⟩:=t3;replace c:=c.mono y;replace hd:=hd.mono y;replace n1:=n1.same y;replace n2:=n2.same y;replace s:=s.trans y;refine{aN rfl,λq4 H4 g4 m e4=>?_};replace c:=c.mono m;replace hd:=hd.mono m;replace n1:=n1.same m;replace n2:=n2.same m;replace W:=W.same m;replace s:=s.trans m;refine{_,U,j,_,1,.int a1,U,U,aw.of hd.at',h1,_,_,U,U,(by show(0:Int)<3;decide),_,_,U,U,.inr {_,U,?_}};refine{q4,_,_,U,U,aw.of e4,oy _,qQ _,λv hv=>?_}
 have Y:∃b,DT H4 v b/\vT (iV ws) b:=by
  simp only[List.mem_cons,List.not_mem_nil,or_false]at hv
  rcases hv with rfl|rfl
  ·exact⟨_,.aT,.inl rfl⟩
  ·exact⟨_,W,.inr ⟨_,U,N⟩⟩
 obtain⟨b,db,Y⟩:=Y;refine{_,U,U,_,U,?_};refine bC (λ_=>{_,U,aN rfl,λI e C a d=>k e _ _ (s.trans a) (.tup d (.cons (.str _) (.cons (n1.same a) .nil))) λnum=>.part _ f}) λ_=>?_;refine{_,U,U,_,U,?_};refine bC (λ_=>{_,U,_,U,aN rfl,λI e C a d=>k e _ _ (s.trans a) (.tup d (.cons (.str _) (.cons (n2.same a) (.cons (n1.same a) .nil)))) λnum=>.move _ _ x f}) λ_=>?_;refine{_,U,U,_,U,?_};refine bC (λ_=>{_,U,aN rfl,λI e C a d=>k e _ _ (s.trans a) (.tup d (.cons (.str _) (.cons (n2.same a) .nil))) λnum=>.cut _ x}) λ_=>?_;refine{_,U,U,_,U,?_};refine bC (λ_=>?_) λ_=>?_
 ·refine{_,U,_,U,_,U,_,U,j,_,U,aw.of hd.at',λR H5 g5 r g=>?_}
  refine{_,U,R,p,ws,_,U,c.mono r,{(hd.from 2 ⋯ g).at',by have:=(hd.from 2 ⋯ g).len;omega,(hd.from 2 ⋯ g).bR},λH6 v6 sg M S O L V=>?_};refine{aN rfl,λI e C a d=>?_};have n:=(r.trans M).trans a;exact k e _ _ (s.trans n) (.tup d (.cons (.str _) (.cons (n1.same n) (.cons (db.same n) (.cons (S.same a) .nil))))) λnum=>.put _ _ _ f Y O L V
 refine{_,U,U,_,U,?_};refine bC (λ_=>?_) λ_=>?_
 ·refine{_,U,_,U,_,U,j,_,U,aw.of hd.at',λR H5 g5 r g=>?_}
  refine{_,U,R,p,ws,_,U,c.mono r,{(hd.from 1 ⋯ g).at',by have:=(hd.from 1 ⋯ g).len;omega,(hd.from 1 ⋯ g).bR},λH6 v6 nn M S O L X z=>?_};refine{aN rfl,λI e C a d=>?_};have n:=(r.trans M).trans a;exact k e _ _ (s.trans n) (.tup d (.cons (.str _) (.cons (n1.same n) (.cons (S.same a) .nil)))) λnum=>.out _ _ f O L X z
 ·exact{aN rfl,λI e C a d=>k e _ _ (s.trans a) (.tup d (.cons (.str _) .nil)) λnum=>.nothing}
def B_(T:Txt K mg tk)(F:FO K mg "is_signs" lL)(b:uO P w K mg base):uq P w K mg base:=by
 refine ax F A0 (m2 λ_ _=>rfl) {} λfa n A outer s H vs Q E f h=>?_
 refine{_,(aq (az (PW.pt (dz (cT (bP (cb dQ T.aC boot_isinstance (a2 (na 1) (dH (v:=.ty "tuple") (by rfl) T.bG boot_tuple rfl))))) (f9 (cT (sN d_ d_ aj (cb cZ T.bh boot_len (a1 (na 1))) (hX (v:=.int 12) (by rfl) T.fv {_,U})))))) (ai (ar cW)) aO)
   (ai (ar (cb (kE rfl) T.gK boot_all (a1 (vK (aa lL) uD [("roll",0)] (iu (na 1)) (λ_ _ _=>b_) (λ_ _ _=>(cl b f (a2 (nc 1) (na 0)))))))))),?_}
 obtain⟨p,ws,v,d,rfl,m,hw,r,⟨ds,rfl,h1,h2,hs⟩,k⟩:=h;obtain⟨a,xs,rfl,e,t⟩:=c9 r;have z:=Mj t;refine{_,"tuple",_,U,U,.tup e,_,U,aM {a,_,U,.inr (aH.of e),_,_,U,U,_,U,?_}};rw[q0 (qA (show(1:Int)≤(xs.length:Int) from ()))];refine{_,_,U,U,_,U,?_};rw[show decide ((xs.length:Int)≤12)=true from qA ()];refine aM {a,U,{_,aH.of e},Oy () e (λi x H' y o g c k1=>?_) λH' q c j=>{q,List.replicate _ true,U,aw.of (by rw[aG,jh]),?_}}
 ·obtain⟨d,hd,td⟩:=dat t g
  exact aL (B:=o H') {_,_,_,d,U,m.same c,hw.mono c,td.same c,hs d (qk hd),k1}
 ·rw[sh]
  exact k _ (c.up j)
def Er(T:Txt K mg tk)(F:FO K mg "read_listed" nA)(G:uh P w K mg base)(C:lZ P w K mg base):uz P w K mg base:=by
 refine ax F A8 (m2 λ_ _=>rfl) {} λfa cdv A outer s H vs Q E O h=>?_
 refine{_,(aq (az (ck aP (na 0) aE) (ai (ar (cI (a1 (cy iy T.bG boot_tuple (a1 (l0 (il (na 1)) (λ_ _ _=>b_) (λ_ _ _=>(cl G O (a1 (na 0))))))))))) aO)
   (aq (az (ck aP (na 0) aE) (ai (ar (cI (a1 (cy iy T.bG boot_tuple (a1 (l0 (il (na 1)) (λ_ _ _=>b_) (λ_ _ _=>(cl C O (a1 (na 0))))))))))) aO)
   (aq (az (ck fw (cb cZ T.bh boot_len (a1 (na 1))) aj) (ai fC) aO)
   (ai (ar (cI kH)))))),?_}
 obtain⟨k0,p,es,ys,rfl,md,ep,O,k⟩:=h;refine{U,_,U,?_}
 have put:∀{P:PyData->Str->Prop} {o:List PyData},L2.F2 P o ys->ys.length≤12->∀{H1:Hp},ab H H1->∀{own fr g tt te σ Q'},(∀x z d H' (r:V->Hp->Prop) (n:Hp->Prop),x=V.str z->P d z->ab H H'->(∀v m,ab H' m->DT m v d->r v m)->g x (bc own fr σ) H' λI H2=>tt I H2 λb J=>if b=true then te I J r else n J)->(∀q xs H',H1 q=none->ab H1 H'->H' q=some (.lst xs)->cn H' xs o->Q' (.ref q) H')->l6 own fr g tt te σ Q' (rG p) H1:=λ{P o} f2 hl {H1} c {own fr g tt te σ Q'} hs hd=>by
  refine f' (xs:=ys.map V.str) (by rw[qa];exact qj (aV ())) (λi xs H'=>ab H1 H'/\cn H' xs (o.take i)) {ab.refl _,.nil} (λi ys H' q=>aw.of ((c.trans q.1) _ _ ep)) (λi x xs H' r n f ⟨a,R⟩ k1 k2=>?_) λH2 q xs ⟨a,R⟩ _ y=>?_
  ·rw[qh]at f
   cases hz:ys[i]? with
   |none=>rw[hz]at f;exact nomatch f
   |some z =>
    rw[hz]at f;obtain⟨d,Y,N⟩:=f2.at hz;refine hs x z d H' r n (qE f).symm N (c.trans a) λv m t L=>k1 _ _ {a.trans t,?_};rw[zo,Y];exact(R.same t).snoc L
  ·rw[qa,←f2.len,zn]at R
   exact hd q xs _ (a.EH y) (a.up y) aG (R.same (ab.new y))
 cases O with
 |put o _ S Z W =>
  refine sv S ?_;refine{p,U,{_,aw.of ep},put Z W (ab.refl H) (λx z d H' r n f N c k1=>?_) λq xs H1 y c e1 X=>?_}
  ·subst f
   refine aL (B:=n H') ?_;exact{z,d,U,md.same c,N,λv m t L=>k1 v m t L}
  ·refine{q,_,U,aw.of e1,λl H2 hl a e2=>?_}
   refine{qj (aV (qz rfl)),λD J e j M=>?_};exact k D _ _ ((c.trans a).EH e) (c.trans (a.trans j)) M (.cons (.tup (j _ _ e2) (X.same (a.trans j))) .nil)
 |out o _ S Z W =>
  refine rm (by rw[S];decide +kernel) ?_;refine{U,_,U,sv S ?_};refine{p,U,{_,aw.of ep},put Z W (ab.refl H) (λx z d H' r n f N c k1=>?_) λq xs H1 y c e1 X=>?_}
  ·subst f
   refine aL (B:=n H') ?_;exact{z,d,U,md.same c,N,λv m t L=>k1 v m t L}
  ·refine{q,_,U,aw.of e1,λl H2 hl a e2=>?_}
   refine{qj (aV (qz rfl)),λD J e j M=>?_};exact k D _ _ ((c.trans a).EH e) (c.trans (a.trans j)) M (.cons (.tup (j _ _ e2) (X.same (a.trans j))) .nil)
 |no h1 h2 =>
  refine rm (decide_eq_false h1) ?_;refine{U,_,U,rm (decide_eq_false h2) ?_};refine{p,_,U,.inl (aw.of ep),_,_,U,U,_,U,aM ?_};refine{qj (aV (qz rfl)),λD J e j M=>?_};exact k D _ _ e j M .nil
def Ew(T:Txt K mg tk)(F:FO K mg "_law_what" qK)(gfCe:jY P w K mg base)(gfAf:tT P w K mg base)(gfAd:uY P w K mg base)(Z:iL P w K mg base):uT P w K mg base:=by
 refine ax F sT (m3 λ_ _ _=>rfl) {} λfa cdv A outer s H vs Q E hr h=>?_
 refine{_,(aq (sn sT.nd 3 (ah bJ (xl (vv 0)) aj))
   (aq (sn sT.nd 4 (du gA (vv 0) (dg aj) dO))
   (aq (az (ck iK (vv 3) aj) (ai (ar (cl gfAd hr (ac (vv 3) (a2 (vv 4) (vv 1)))))) aO)
   (aq (az (ck iK (vv 3) aj) (ai (ar (cl gfAf hr (ac (vv 3) (a2 (vv 4) (vv 1)))))) aO)
   (aq (az (ck aP (vv 3) aj) (aq (sn sT.nd 5 (xa (cI (ac aE (ac aE (a2 aE aE)))) (ah bJ (xl (vv 4)) aj)))
   (ai (ar (ba (ac aE (ac (cl gfCe hr (a2 (xl (vv 4)) (vv 1))) (ac (xa (vv 1) (ah bJ (xl (vv 4)) (cb cZ T.bh boot_len (a1 (vv 1))))) (a2 (vv 5) (ce aP (ah bJ (xl (vv 4)) aj) aj))))))))) aO)
   (aq (az (PW.pt (m6 (ck iK (vv 3) aj) (n_ (ck fw (vv 2) aj)))) (ai (ar (ba (a2 (xa (cI (a2 aE aE)) (ah ng (vv 3) aj)) (ah cP aj (ah bJ (xl (vv 4)) (ah ng (vv 2) aj))))))) aO)
   (aq (az (PW.pt (dz (ck aP (vv 3) aj) (f9 (ck aP (vv 3) aj)))) (ai (ar (ba (a2 (xa (cI (a2 aE aE)) (ah ng (vv 3) aj)) (cl Z hr (a1 (xl (vv 4)))))))) aO)
   (aq (az (ck aP (vv 3) aj) (ai (ar (ba (a2 aE (cy iy T.bG boot_tuple (a1 (l0 (il (du gA (vv 4) dO (dg (cb cZ T.bh boot_len (a1 (vv 1)))))) (λ_ _ _=>b_) (λ_ _ _=>(ah bJ (vv 0) (xa (cI (a2 aj (ah cP (ah kO aj aj) aj))) (ah bJ (ah de (vv 0) aj) aj))))))))))) aO)
   (ai (ar (ba (a1 aE)))))))))))),?_}
 obtain⟨d0,p,ws,S,num,rfl,a,O,k⟩:=h;obtain⟨f,g0⟩:=O.get 0 ⋯;refine{_,U,d0,_,0,.int f,U,U,aw.of O.at',g0,_,_,U,U,(by show(0:Int)<17;decide),?_};refine{_,U,_,U,d0,_,U,aw.of O.at',λy H1 g1 s e1=>?_};replace a:=a.mono s;have hd:=O.from 1 ⋯ e1;have hd6:DR H1 y (S.drop 1) 6:={hd.at',by have:=hd.len;omega,hd.bR};obtain⟨L,Y⟩:=hd.get 0 ⋯;obtain⟨a1,h1⟩:=hd.get 1 ⋯;obtain⟨a2,h2⟩:=hd.get 2 ⋯;obtain⟨a3,h3⟩:=hd.get 3 ⋯;refine{_,U,_,_,U,U,_,U,?_};refine bC (λ_=>?_) λc1=>?_
 ·exact{_,U,_,U,_,U,_,y,p,ws,_,U,a,hd6,λd v9 w9 b d9 h9=>k d _ _ (s.trans b) d9 (h9 _)}
 refine{_,U,_,_,U,U,_,U,?_};refine bC (λ_=>?_) λc2=>?_
 ·exact{_,U,_,U,_,U,_,y,p,ws,_,U,a,hd6,λd v9 w9 b d9 h9=>k d _ _ (s.trans b) d9 (h9 _)}
 refine{_,U,U,_,U,?_};refine bC (λ_=>?_) λc3=>?_
 ·refine{aN rfl,λJ H2 g2 e D=>?_}
  replace a:=a.mono e;replace hd:=hd.mono e;replace s:=s.trans e;refine{_,U,y,_,2,.int a2,U,U,aw.of hd.at',h2,_,_,U,U,(by show(0:Int)<4;decide),J,_,_,U,U,aw.of D,c7 _ ⋯,df _ ⋯,λv r=>?_}
  obtain⟨z,rfl,hz⟩:∃z:Str,v=.str z/\z∈(["read","note","write","give"]:List Str):=by
   obtain⟨z,hz,rfl⟩:=qf.mp (show v∈(["read","note","write","give"]:List Str).map V.str from r);exact{z,U,hz}
  refine{_,U,y,_,0,.int L,U,U,aw.of hd.at',Y,_,U,_,p,ws,U,a,λH3 v3 d3 X n3 t3=>?_};obtain⟨pd,rfl,hpd⟩:=t3;replace a:=a.mono X;replace hd:=hd.mono X;replace s:=s.trans X;refine{_,U,_,U,y,_,1,.int a1,U,U,aw.of hd.at',h1,_,U,p,_,U,.inl (aw.of a.at'),_,_,U,U,a.len.1,p,_,_,U,U,aw.of a.at',c7 _ a.len.1,df _ a.len.1,λv2 hv2=>?_};obtain⟨w,hw,rfl⟩:=qf.mp hv2;exact{_,U,_,U,y,_,3,.int a3,U,U,aw.of hd.at',h3,_,_,U,U,(by show(0:Int)<2;decide),U,aN rfl,λN d M b g=>k d _ _ (s.trans b) (.tup g (.cons (.str _) (.cons (n3.same b) (.cons (.str w) (.cons (.str z) (.cons (.bl _) .nil)))))) (.leave _ _ _ _ hpd hw hz)}
 have hk:(0:Int)≤f % 17/\f % 17<17:={c7 _ ⋯,df _ ⋯};have c2:¬f % 17<11:=λz=>c2 (qA z)
 have c3:¬f % 17=11:=λz=>c3 (by rw[decide_eq_true_eq];exact congrArg V.int z)
 refine{_,U,_,_,U,U,_,U,?_};refine bC (λc4=>?_) λc4=>aM ?_
 ·have c4:f % 17<14:=qF c4
  refine{_,U,_,_,U,U,_,U,?_};refine bC (λc5=>?_) λc5=>?_
  ·have c5:1<num:=qF c5
   refine{aN rfl,λJ H2 g2 e D=>?_};replace a:=a.mono e;replace hd:=hd.mono e;replace s:=s.trans e;refine{_,U,_,_,U,U,J,_,_,U,U,aw.of D,(by show 0≤f % 17 - 12;omega),(by show f % 17 - 12<2;omega),λv r=>?_}
   obtain⟨kk,rfl,i⟩:∃z:Str,v=.str z/\(z = "back" \/ z = "again"):=by
    simp only[List.mem_cons,List.not_mem_nil,or_false]at r
    rcases r with rfl|rfl
    ·exact⟨_,U,.inl rfl⟩
    ·exact⟨_,U,.inr rfl⟩
   have lo:=c7 L (m:=num - 1) ();have hi:=df L (m:=num - 1) ();exact{_,U,y,_,0,.int L,U,U,aw.of hd.at',Y,_,U,_,_,U,U,_,_,U,U,(by show 0<num - 1;omega),_,_,U,U,aN rfl,λN d M b g=>k d _ _ (s.trans b) (.tup g (.cons (.str _) (.cons (.int _) .nil))) (.back _ _ i (by show 1≤1+L % (num - 1);omega) (by show 1+L % (num - 1)<num;omega))}
  ·refine{_,U,U,_,U,?_}
   refine bC (λR=>?_) λR=>?_
   ·have R:f % 17=14:=V.int.inj (qF R)
    refine aL ?_;refine{aN rfl,λJ H2 g2 e D=>?_};replace a:=a.mono e;replace hd:=hd.mono e;replace s:=s.trans e;refine{_,U,_,_,U,U,J,_,_,U,U,aw.of D,(by show 0≤f % 17 - 14;omega),(by show f % 17 - 14<2;omega),λv r=>?_}
    obtain⟨kk,rfl,i⟩:∃z:Str,v=.str z/\(z = "bring" \/ z = "drop"):=by
     simp only[List.mem_cons,List.not_mem_nil,or_false]at r
     rcases r with rfl|rfl
     ·exact⟨_,U,.inl rfl⟩
     ·exact⟨_,U,.inr rfl⟩
    exact⟨_,U,y,_,0,.int L,U,U,aw.of hd.at',Y,_,U,λz hz=>⟨aN rfl,λN d M b g=>k d _ _ (s.trans b) (.tup g (.cons (.str _) (.cons (.str z) .nil))) (.hL _ _ i hz)⟩⟩
   ·refine⟨_,U,U,_,U,?_⟩
    refine bC (λW=>?_) λW=>?_
    ·have W:f % 17=15:=V.int.inj (qF W)
     refine{aN rfl,λJ H2 g2 e D=>?_};replace a:=a.mono e;replace hd:=hd.mono e;replace s:=s.trans e;refine{_,U,_,_,U,U,J,_,_,U,U,aw.of D,(by show 0≤f % 17 - 14;omega),(by show f % 17 - 14<2;omega),λv r=>?_}
     obtain⟨kk,rfl,i⟩:∃z:Str,v=.str z/\(z = "bring" \/ z = "drop"):=by
      simp only[List.mem_cons,List.not_mem_nil,or_false]at r
      rcases r with rfl|rfl
      ·exact⟨_,U,.inl rfl⟩
      ·exact⟨_,U,.inr rfl⟩
     exact⟨_,U,y,_,0,.int L,U,U,aw.of hd.at',Y,_,U,λz hz=>⟨aN rfl,λN d M b g=>k d _ _ (s.trans b) (.tup g (.cons (.str _) (.cons (.str z) .nil))) (.hL _ _ i hz)⟩⟩
    ·refine⟨_,U,U,_,U,?_⟩
     refine bC (λ_=>?_) λ_=>?_
     ·refine{_,U,_,U,p,_,U,.inl (aw.of a.at'),_,U,y,_,U,aw.of hd.at',λq3 H3 g3 X e3=>?_}
      have hcut:(bQ (List.map V.int (S.drop 1)) none (some ((ws.map V.str).length:Int))).length=ws.length:=by
       rw[FV (by have:=hd.len;have:=a.bR;rw[qa,qa];omega),qa]
      have h6:=a.bR;refine{q3,U,{_,aw.of e3},f' (qj (aV ())) (λj ys H'=>ab H3 H'/\∃o:List Int,ys=o.map V.int/\o.length=j/\∀c∈o,0≤c/\c≤1000000) {ab.refl _,[],U,U,λ_ z=>nomatch z} (λ_ _ H' s'=>aw.of (s'.1 _ _ e3)) (λj x ys H' K1 K0 hx s' k1 k0=>?_) λH' q ys s' hy hq=>?_}
      ·obtain⟨m,rfl⟩:=o7 (qk hx)
       obtain⟨s',o,rfl,I,t⟩:=s';refine aL (B:=K0 H') ?_;refine{_,U,_,_,U,U,{⋯,⋯,⋯},_,_,U,U,aN rfl,λq4 H4 g4 s4 e4=>?_};refine{_,U,_,_,U,U,{⋯,⋯},_,_,U,U,(by show(0:Int)<2;decide),q4,_,_,U,U,aw.of e4,c7 _ ⋯,df _ ⋯,λm2 G=>?_}
       obtain⟨n,rfl,hn,hn2⟩:∃n,m2=V.int n/\0<n/\n≤1000001:=by
        simp only[List.mem_cons,List.not_mem_nil,or_false]at G
        rcases G with rfl|rfl
        ·exact⟨9,U,⋯,⋯⟩
        ·exact⟨_,U,⋯,⋯⟩
       refine⟨_,_,U,U,hn,k1 _ H4 ⟨s'.trans s4,o++[m % n],by rw[zf];rfl,by rw[qm,zi,I],λc C=>?_⟩⟩;rcases qy.mp C with C|C
       ·exact t c C
       ·rw[zb.mp C]
        exact⟨c7 _ hn,by have:=df m hn;omega⟩
      ·obtain⟨s',o,rfl,I,t⟩:=s'
       exact{q,_,U,aw.of aG,λl H5 g5 s5 e5=>{aN rfl,λN d M b g=>k d _ _ ((s.trans (((X.trans s').up hq).trans s5)).trans b) (.tup g (.cons (.str _) (.cons (.tup (b _ _ e5) (L2.bU _ o)) .nil))) (.jC o () t)}}
     ·exact{aN rfl,λN d M b g=>k d _ _ (s.trans b) (.tup g (.cons (.str _) .nil)) .nothing}
 ·refine{_,U,U,_,U,?_}
  refine bC (λR=>?_) λR=>?_
  ·have R:f % 17=14:=V.int.inj (qF R)
   refine aL ?_;refine{aN rfl,λJ H2 g2 e D=>?_};replace a:=a.mono e;replace hd:=hd.mono e;replace s:=s.trans e;refine{_,U,_,_,U,U,J,_,_,U,U,aw.of D,(by show 0≤f % 17 - 14;omega),(by show f % 17 - 14<2;omega),λv r=>?_}
   obtain⟨kk,rfl,i⟩:∃z:Str,v=.str z/\(z = "bring" \/ z = "drop"):=by
    simp only[List.mem_cons,List.not_mem_nil,or_false]at r
    rcases r with rfl|rfl
    ·exact⟨_,U,.inl rfl⟩
    ·exact⟨_,U,.inr rfl⟩
   exact⟨_,U,y,_,0,.int L,U,U,aw.of hd.at',Y,_,U,λz hz=>⟨aN rfl,λN d M b g=>k d _ _ (s.trans b) (.tup g (.cons (.str _) (.cons (.str z) .nil))) (.hL _ _ i hz)⟩⟩
  ·refine⟨_,U,U,_,U,?_⟩
   refine bC (λW=>?_) λW=>?_
   ·have W:f % 17=15:=V.int.inj (qF W)
    refine{aN rfl,λJ H2 g2 e D=>?_};replace a:=a.mono e;replace hd:=hd.mono e;replace s:=s.trans e;refine{_,U,_,_,U,U,J,_,_,U,U,aw.of D,(by show 0≤f % 17 - 14;omega),(by show f % 17 - 14<2;omega),λv r=>?_}
    obtain⟨kk,rfl,i⟩:∃z:Str,v=.str z/\(z = "bring" \/ z = "drop"):=by
     simp only[List.mem_cons,List.not_mem_nil,or_false]at r
     rcases r with rfl|rfl
     ·exact⟨_,U,.inl rfl⟩
     ·exact⟨_,U,.inr rfl⟩
    exact⟨_,U,y,_,0,.int L,U,U,aw.of hd.at',Y,_,U,λz hz=>⟨aN rfl,λN d M b g=>k d _ _ (s.trans b) (.tup g (.cons (.str _) (.cons (.str z) .nil))) (.hL _ _ i hz)⟩⟩
   ·refine⟨_,U,U,_,U,?_⟩
    refine bC (λ_=>?_) λ_=>?_
    ·refine{_,U,_,U,p,_,U,.inl (aw.of a.at'),_,U,y,_,U,aw.of hd.at',λq3 H3 g3 X e3=>?_}
     have hcut:(bQ (List.map V.int (S.drop 1)) none (some ((ws.map V.str).length:Int))).length=ws.length:=by
      rw[FV (by have:=hd.len;have:=a.bR;rw[qa,qa];omega),qa]
     have h6:=a.bR;refine{q3,U,{_,aw.of e3},f' (qj (aV ())) (λj ys H'=>ab H3 H'/\∃o:List Int,ys=o.map V.int/\o.length=j/\∀c∈o,0≤c/\c≤1000000) {ab.refl _,[],U,U,λ_ z=>nomatch z} (λ_ _ H' s'=>aw.of (s'.1 _ _ e3)) (λj x ys H' K1 K0 hx s' k1 k0=>?_) λH' q ys s' hy hq=>?_}
     ·obtain⟨m,rfl⟩:=o7 (qk hx)
      obtain⟨s',o,rfl,I,t⟩:=s';refine aL (B:=K0 H') ?_;refine{_,U,_,_,U,U,{⋯,⋯,⋯},_,_,U,U,aN rfl,λq4 H4 g4 s4 e4=>?_};refine{_,U,_,_,U,U,{⋯,⋯},_,_,U,U,(by show(0:Int)<2;decide),q4,_,_,U,U,aw.of e4,c7 _ ⋯,df _ ⋯,λm2 G=>?_}
      obtain⟨n,rfl,hn,hn2⟩:∃n,m2=V.int n/\0<n/\n≤1000001:=by
       simp only[List.mem_cons,List.not_mem_nil,or_false]at G
       rcases G with rfl|rfl
       ·exact⟨9,U,⋯,⋯⟩
       ·exact⟨_,U,⋯,⋯⟩
      refine⟨_,_,U,U,hn,k1 _ H4 ⟨s'.trans s4,o++[m % n],by rw[zf];rfl,by rw[qm,zi,I],λc C=>?_⟩⟩;rcases qy.mp C with C|C
      ·exact t c C
      ·rw[zb.mp C]
       exact⟨c7 _ hn,by have:=df m hn;omega⟩
     ·obtain⟨s',o,rfl,I,t⟩:=s'
      exact{q,_,U,aw.of aG,λl H5 g5 s5 e5=>{aN rfl,λN d M b g=>k d _ _ ((s.trans (((X.trans s').up hq).trans s5)).trans b) (.tup g (.cons (.str _) (.cons (.tup (b _ _ e5) (L2.bU _ o)) .nil))) (.jC o () t)}}
    ·exact{aN rfl,λN d M b g=>k d _ _ (s.trans b) (.tup g (.cons (.str _) .nil)) .nothing}
def Bb(T:Txt K mg tk)(F:FO K mg "is_what" lz)(b:rk P w K dn cY)(hF:∀f sp,hG f sp->∃k fd ps,k≤6/\cE P w K mg base ia k f fd ps sp/\PySem.W.keepIn K (.ref f)=true/\Binds K fd ps []):uA P w K mg base:=by
 refine ax F GG (m3 λ_ _ _=>rfl) {} λfa cdv A outer s H vs Q E S h=>?_
 refine{_,(aq (az (PW.pt (dz (cT (bP (cb dQ T.aC boot_isinstance (a2 (na 2) (dH (v:=.ty "tuple") (by rfl) T.bG boot_tuple rfl))))) (f9 (ck aP (cb cZ T.bh boot_len (a1 (na 2))) aj)))) (ai (ar cW)) aO)
   (aq (az (PW.pt (dz (cT (bP (cb dQ T.aC boot_isinstance (a2 (xt (na 2)) (dH (v:=.ty "str") (by rfl) T.dU boot_str rfl))))) (f9 (ck (Rf b) (xt (na 2)) (hX (v:=.ref dn) rfl T.dn rfl))))) (ai (ar cW)) aO)
   (aq (sn GG.nd 3 (fg b T.dn (xt (na 2))))
   (aq (az (ck fY (cb cZ T.bh boot_len (a1 (na 2))) (ah cP (cb cZ T.bh boot_len (a1 (na 3))) aj)) (ai (ar cW)) aO)
   (aq (az (cT (bP (cb (kE rfl) T.gK boot_all (a1 (l4 (own:=["form","part"]) (fr:=[("roll",0)]) rfl (HL (by rfl) T.lY (a2 (na 3) (du sJ (na 2) (dg aj) dO))) {U,∅,∅} (rT (aa lz) ["roll","number","thing","forms"] rfl rfl (λ_ h=>l8 h) ∅ ∅ ∅) (λ_ _ _=>(mG (n:=2) rfl (eK (dF (i:=0) (by show List.Nodup (["form","part","roll"]:List Str);decide +kernel) rfl (Or.inl rfl)) (eK (dF (i:=1) (by show List.Nodup (["form","part","roll"]:List Str);decide +kernel) rfl (Or.inl rfl)) jZ)))) (λ_=>ow rfl rfl ⋯) (λ_ _ _=>b_) (λ_ _ _=>(cv hF S (na 0) (a2 (nc 2) (na 1))))))))) (ai (ar cW)) aO)
   (ai (ar (ec (ce R8 (xt (na 2)) (ba (a2 aE aE))) (c0 (ce iK (xt (na 2)) (na 1))))))))))),?_}
 obtain⟨p,ws,n,v,wt,rfl,R,hw,hn,ht,I,k⟩:=h;obtain⟨z,fs,ds,rfl,g,f2,hb⟩:=Qk hn I;obtain⟨a,xs,rfl,c,t⟩:=c9 ht
 cases t with
 |@cons x xs _ _ Z t =>
  cases Z;refine{_,"tuple",_,U,U,.tup c,_,U,aM {a,_,U,.inr (aH.of c),U,_,U,?_}};refine bC (λh1=>absurd (V.int.inj (qF h1)) (λe=>by have e:((xs.length+1:Nat):Int)=0:=e;omega)) λ_=>?_;refine{_,_,_,.str z,U,U,aH.of c,fj,_,"str",_,U,U,.str z,_,U,aM {_,_,_,.str z,U,U,aH.of c,fj,z,U,U,_,U,?_}};have hf:=R.Ri z
  cases L:fV cY z with
  |none =>
   rw[L]at hf;rw[hf]at g;exact nomatch g
  |some fa =>
   rw[L]at hf;obtain⟨fs',r,m⟩:=hf;rw[g]at r;cases r;refine aM {_,_,_,.str z,U,U,aH.of c,fj,z,fa,U,L,a,_,U,.inr (aH.of c),fa,_,U,.inr (aH.of m),_,_,U,U,U,_,U,?_};have hl:=Mj t;have h1:=f2.len;refine bC (λh=>absurd h (by simp[hl,h1])) λ_=>?_;refine{_,U,a,_,U,aH.of c,P_,λq X=>?_};rw[Fq];have D:ab H (upd H q (.tup xs)):=(ab.refl H).up X;refine{fa,q,U,{_,aH.of (D _ _ m)},{_,aH.of (aG ..)},rF (xs:=fs.map λf=>.ref (Fk f)) (ys:=xs) (λi zs H'=>ab (upd H q (.tup xs)) H'/\zs=List.replicate i (V.bl true)) {ab.refl _,U} (λi zs H' ⟨s,_⟩=>{aH.of (s _ _ (D _ _ m)),aH.of (s _ _ (aG ..))}) (by rw[qa];exact iZ (qg (OM g) ⋯)) ?_ ?_}
   ·rintro i x y zs H' p2 K1 K0 O hy ⟨s,rfl⟩ B k1 k2
    rw[qh]at O;obtain⟨f,M,rfl⟩:=vf.mp O;obtain⟨d,hd,td⟩:=dat t hy;have J:=(D.trans s).trans (ab.new (o:=.tup [.ref (Fk f),y]) B);exact{p2,_,U,aH.of aG,U,_,_,U,_,_,U,U,aL {_,_,U,{f,U,U},_,_,_,d,U,R.same J,hw.mono J,td.same J,f2.at M hd,λH2 C=>k1 _ _ {(s.trans (ab.new B)).trans C,by rw[ki]}}}
   ·rintro H' p2 zs ⟨s,rfl⟩ _ B
    have C:ab H _:=(D.trans s).up (o:=.lst (List.replicate (min (fs.map λf=>V.ref (Fk f)).length xs.length) (V.bl true))) B;refine{p2,List.replicate _ true,U,aw.of (by rw[aG,jh]),?_};rw[sh];refine{_,U,aM {_,_,_,.str z,U,U,aH.of (C _ _ c),fj,⋯,λq3 H5 hq3 Y e5=>?_}};have G:=C.trans Y;refine{q3,_,U,.inr (aH.of e5),U,U,_,U,?_};rw[show su (.str z) [.str "back",.str "again"]=decide (z∈(["back","again"]:List Str)) from m8 z ["back","again"]]
    by_cases N:z∈(["back","again"]:List Str)
    ·obtain⟨i,rfl,hi⟩:=hb N
     cases t with
     |cons t1 t2 =>
      cases t1;rw[qA N];refine aM {_,_,_,.int i,U,U,aH.of (G _ _ c),bH (j:=1) rfl,_,_,U,U,?_};rw[qA hi];exact k _ G
    ·rw[decide_eq_false N]
     exact aL (k _ G)
def ED(T:Txt K mg tk)(F:FO K mg "read_what" oa)(t:uz P w K mg base)(a:rk P w K bZ bX)(hF:∀f sp,fE f sp->∃k fd ps,k≤6/\cE P w K mg base ia k f fd ps sp/\PySem.W.keepIn K (.ref f)=true/\Binds K fd ps []):uC P w K mg base:=by
 refine ax F DF (m1 λ_=>rfl) {} λfa cdv A outer s H vs Q E g h=>?_
 refine{_,(aq (az (PW.pt (dz (ck aP (cb cZ T.bh boot_len (a1 (na 0))) aj) (f9 (ck (Rf a) (xl (na 0)) (hX (v:=.ref bZ) rfl T.bZ rfl))))) (ai fC) aO)
   (aq (sn DF.nd 1 (fg a T.bZ (xl (na 0))))
   (aq (l' (i:=2) DF.nd rfl (Or.inl rfl) (own:=["read","word"]) (fr:=[]) rfl (Nw (by rfl) T.lY (a2 (na 1) (du gA (na 0) (dg aj) dO))) {U,∅,∅} (fU ∅) (λ_ _ _=>(mG (n:=2) rfl (eK (dF (i:=0) (by show List.Nodup (["read","word"]:List Str);decide +kernel) rfl (Or.inl rfl)) (eK (dF (i:=1) (by show List.Nodup (["read","word"]:List Str);decide +kernel) rfl (Or.inl rfl)) jZ)))) (λ_=>ow rfl rfl ⋯) (λ_ _ _=>b_) (λ_ _ _=>(cv hF g (na 0) (a1 (na 1)))))
   (ai (ar (cy iy T.bG boot_tuple (a1 (ah pB (ah pB (cI (a1 (xl (na 0)))) (na 2)) (cl t g (a2 (xl (na 0)) (du gA (na 0) (dg (ah cP (cb cZ T.bh boot_len (a1 (na 1))) aj)) dO))))))))))),?_}
 obtain⟨p,ds,zs,rfl,md,ep,g,hl,k⟩:=h
 cases g with
 |mk c rs ds zs es ys h1 h4 h5 =>
  have b:H p=some (.lst (.str c::(zs++ys).map V.str)):=ep;have G:=md.Rz c;refine{p,_,U,.inl (aw.of b),U,_,U,?_};have M:=h4.len;have h5':=Pf h1;refine bC (λh0=>absurd (V.int.inj (qF h0)) (λe=>by have e:((((zs++ys).map V.str).length+1:Nat):Int)=0:=e;omega)) λ_=>?_;refine{_,_,_,.str c,U,U,aw.of b,fj,c,U,U,_,U,?_}
  cases Z:fV bX c with
  |none=>rw[Z,h1]at G;exact nomatch G
  |some fa =>
   rw[Z]at G;obtain⟨rs',er,j⟩:=G;rw[h1]at er;cases er;refine aM ?_;refine{_,_,_,.str c,U,U,aw.of b,fj,c,fa,U,Z,?_};refine{_,U,p,_,U,aw.of b,λq H1 hq L e1=>?_};rw[Fq]at e1;refine{fa,q,U,{_,aH.of (L _ _ j)},{_,aw.of e1},rF (t1:=true) (t2:=false) (xs:=rs.map λr=>.ref (DP r)) (ys:=(zs++ys).map V.str) (λi vs H'=>ab H1 H'/\cn H' vs (ds.take i)) {ab.refl _,.nil} (λi vs H' ⟨s,_⟩=>{aH.of (s _ _ (L _ _ j)),aw.of (s _ _ e1)}) (by rw[qa];exact qj (aV ())) ?_ ?_}
   ·rintro i x y vs H' p2 K1 K0 m hy ⟨I,hd⟩ R k1 k2
    obtain⟨r,g,rfl⟩:∃r,rs[i]?=some r/\x=.ref (DP r):=by
     rw[qh]at m
     cases e:rs[i]? with
     |none=>rw[e]at m;exact nomatch m
     |some f=>rw[e]at m;exact{f,U,(qE m).symm}
    have hi:=(qw.mp g).1
    obtain⟨z,hz,rfl⟩:∃z,zs[i]?=some z/\y=.str z:=by
     rw[qh,vz (),qc ()]at hy;exact{_,qc (),(qE hy).symm}
    obtain⟨d,Y,hP⟩:=h4.at g hz;have B:=(L.trans I).trans (ab.new (o:=.tup [.ref (DP r),.str z]) R);refine{p2,_,U,aH.of aG,U,_,_,U,_,_,U,U,?_};refine aL ?_;refine{_,_,U,{r,U,U},?_};exact{z,d,U,md.same B,hP,λv H2 C d4=>k1 _ _ {(I.trans (ab.new R)).trans C,by rw[zo,Y];exact(hd.same ((ab.new R).trans C)).snoc d4}}
   ·rintro H2 X vs ⟨I,hd⟩ _ hT
    have D:min (rs.map λr=>V.ref (DP r)).length ((zs++ys).map V.str).length=ds.length:=by rw[qa,qa,qm];omega
    rw[D,zn]at hd;have hvl:=lj hd;have z2:=L.trans (I.up (o:=.lst vs) hT);have hd:=hd.same (ab.new (o:=.lst vs) hT);have eT:upd H2 X (.lst vs) X=some (.lst vs):=aG;refine{_,_,_,.str c,U,U,aw.of (z2 _ _ b),fj,qj (aV (qz rfl)),λq3 H3 g3 B e3=>?_};refine{q3,X,_,_,U,U,e3,B _ _ eT,qj (aV (by show 1+_≤_;omega)),λq4 H4 g4 C e4=>?_};have J:=z2.trans (B.trans C);refine{_,_,_,.str c,U,U,aw.of (J _ _ b),fj,?_};refine{fa,_,U,.inr (aH.of (J _ _ j)),_,_,U,U,_,U,p,_,U,aw.of (J _ _ b),λq5 H5 g5 O S=>?_}
    have S:H5 q5=some (.lst (ys.map V.str)):=by
     rw[S,qa]
     have:((rs.length:Int)+1)=((rs.length+1:Nat):Int):=()
     rw[this,L2.kb (by rw[qr,qa,qm];omega),kf,←M.2,←List.map_drop,List.drop_left]
    have z5:=J.trans O;refine{c,q5,es,ys,U,md.same z5,S,h5,λq6 xs6 H6 g6 N e6 d6=>?_};have hx6:=lj d6
    have he:es.length≤1:=by cases h5 <;> exact qz rfl
    refine{q4,q6,_,_,U,U,(O.trans N) _ _ e4,e6,qj (aV (by rw[qm];show 1+_+_≤_;omega)),λq7 H7 g7 s7 e7=>?_};refine{q7,_,U,aw.of e7,λl H8 hl s8 e8=>?_};have z8:=s7.trans s8;exact k _ _ (z5.trans (N.trans z8)) (.tup e8 (.cons (.str _) ((hd.same (B.trans (C.trans (O.trans (N.trans z8))))).app (d6.same z8))))
def zJ(T:Txt K mg tk)(F:FO K mg "_law_house" iD)(gfAz:uZ P w K mg base)(gfBo:nX P w K mg base)(gfCm:vr P w K mg base)(gfCb:uT P w K mg base):vu P w K mg base:=by
 refine ax F dW (m2 λ_ _=>rfl) {} λfa cdv A outer s H vs Q E hr h=>?_;have hu1:(A.deeper (envOfC "_law_house" (aa iD) ↑s fa cdv)).units+1<cLine:=p7 hr
 refine{_,(aq (sn dW.nd 2 (ah Qn (vv 0) (cI (a1 aj))))
   (aq (sn dW.nd 3 (cl gfCm hr (a1 (xl (vv 2)))))
   (aq (sm dW.nd 4 (cb cZ T.bh boot_len (a1 (vv 3))))
   (aq (sm dW.nd 5 (vK (aa iD) nL [("_law_many",4)] (il (vv 3)) (λ_ _ _=>b_) (λ_ _ _=>(ah Pp (cI (a1 aj)) (vc 1)))))
   (aq (sn dW.nd 6 MZ)
   (aq (sn dW.nd 7 (cI kH))
   (aq (fo (yZ (by rfl) T.el (a1 (du gA (vv 0) (dg aj) (dg (vv 1))))) (gt (eK (gn dW.nd 8) (eK (gn dW.nd 9) jZ)))
   (aq (sn dW.nd 10 (cl gfBo hr (a2 (ah cP (vv 9) (ah f7 (ah f7 (ah f7 aj aj) (vv 8)) (vv 8))) aj)))
   (aq (sm dW.nd 11 (ah bJ (xl (vv 10)) (vc 4)))
   (aq (fo (nK (by rfl) T.fe (a1 (ah bJ (ah de (xl (vv 10)) (vc 4)) aj))) (gn dW.nd 12)
   (aq (sn dW.nd 13 (ah bJ (xa (vv 10) (ah cP aj (vv 12))) (vc 4)))
   (aq (sn dW.nd 14 (ah bJ (ah de (xa (vv 10) (ah cP aj (vv 12))) (vc 4)) (ah cP (xi (xi (vc 5) (vv 13)) (vv 13)) aj)))
   (ai (az (ck fw (vv 14) (xi (xi (vc 5) (vc 11)) (vv 13))) (aq (sm dW.nd 15 (Eb hu1 (vv 6) (ba (a2 (vv 13) (vv 14))) (λ_ _=>rfl)))
   (aq (sX (vK (aa iD) nL [("_law_known",5),("_law_who",11),("_law_theirs",15)] (nK (by rfl) T.fe (a1 (vc 4))) (λ_ _ _=>b_) (λ_ _ _=>(cb (BS rfl) T.lS boot_max (a2 (xi (xi (vc 1) (vc 2)) (vv 0)) (xi (vc 3) (vv 0)))))) (Dm (vc 5) (vc 11) Ey))
   (ai (sX (cb (BS rfl) T.lS boot_max (a2 (xi (xi (vc 5) (vc 11)) (vv 13)) (vv 14))) (Dm (xi (vc 5) (vc 11)) (vv 13) Ey))))) aO)))))
   (aq (sn dW.nd 16 (ah cP (xi (xi (vc 5) (vc 11)) (vc 11)) aj))
   (aq (sn dW.nd 17 (cy iy T.bG boot_tuple (a1 (xi (vc 5) (vc 11)))))
   (aq (Mx hu1 (vv 6) (ba (a2 (vc 11) (vv 16))) (cy tE T.gQ boot_list (a1 (vv 17))) rfl)
   (aq (sX (vv 16) (Dm (xi (vc 5) (vc 11)) (vc 11) Ey))
   (aq (sn dW.nd 18 (cl gfCb hr (ac (du gA (vv 10) (dg aj) dO) (a2 (vv 3) (vv 16)))))
   (ai (ap (vv 7) (a1 (ba (ac (xi (vv 3) (vc 11)) (ac (vv 16) (ac (vv 17) (a2 (cl gfAz hr (a2 (xl (vv 10)) (vv 3))) (vv 18))))))))))))))))))
   (ai (ar (ba (a2 (vv 3) (vv 7)))))))))))),?_}
 obtain⟨sp,Z,b,rfl,hs,hl,k⟩:=h;refine{_,U,aN rfl,λX H1 g1 s1 e1=>?_};refine{sp,X,_,_,U,U,hs.same s1,e1,by rw[qa];exact qj (aV (by show Z.length+1≤1000;omega)),λp2 H2 g2 s2 e2=>?_}
 obtain⟨i0,h0⟩:∃i0,iH (List.map V.int Z++[V.int 0]) (0:Int)=some (.int i0):=by
  cases Z with
  |nil=>exact{0,U}
  |cons n Z=>exact{n,bH (j:=0) rfl}
 refine{_,U,p2,_,_,_,U,U,aw.of e2,h0,_,U,λH3 rp ws s3 g3 rl h2 nd=>?_};refine{_,U,rp,_,U,.inl (aw.of rl.at'),?_};generalize hM:(ws.map V.str).length=M
 have hM':ws.length=M:=by rw[←hM,qa]
 have hM0:0<M/\M≤6:={by have:=rl.pos;omega,by have:=rl.bR;omega}
 refine{_,U,rp,U,{_,aw.of rl.at'},f' (xs:=ws.map V.str) (qj (aV ()))
  (λi ys H'=>ab H3 H'/\∃ks:List Addr,ys=ks.map V.ref/\ks.length=i/\ks.Nodup/\∀kk∈ks,H3 kk=none/\H' kk=some (.lst (Hs.bY (List.replicate M 0))))
  {ab.refl _,[],U,U,wj,λ_ z=>nomatch z} (λ_ _ H' s'=>aw.of (s'.1 _ _ rl.at')) (λj x ys H' K1 K0 hx s' k1 k0=>?_) λH' kp ys s' hy hq=>?_}
 ·obtain⟨s',ks,rfl,hk,nd',I⟩:=s'
  refine aL (B:=K0 H') ?_;refine{aN rfl,λq1 H4 g4 s4 e4=>?_};refine{_,U,q1,_,_,U,U,e4,(),(),(by show 1 * (M:Int).toNat≤sizeLine;rw[Nat.one_mul,Int.toNat_natCast];exact qj (aV ())),λq2 H5 g5 s5 e5=>?_};rw[Hs.mh]at e5;refine k1 _ _ {(s'.trans s4).trans s5,ks++[q2],by rw[zf];rfl,by rw[qm,zi,hk],?_,λkk hkk=>?_}
  ·refine B1 nd' λz=>?_
   have:=s4 _ _ (I q2 z).2;rw[g5]at this;cases this
  ·rcases qy.mp hkk with z|z
   ·exact⟨(I kk z).1,s5 _ _ (s4 _ _ (I kk z).2)⟩
   ·rw[zb.mp z]
    exact⟨(s'.trans s4).free g5,e5⟩
 ·obtain⟨s',ks,rfl,hk,nd',I⟩:=s'
  rw[hM]at hk;refine λtp H4 g4 s4 e4=>?_;refine{aN rfl,λdp H5 g5 s5 e5=>?_};have gk:∀{a o},H' a=some o->(upd H' kp (.lst (ks.map V.ref))) a=some o:=λ{a o} e=>ab.new hq a o e
  have st:Hs.dZ H3 H5 kp tp dp ws (List.replicate M (List.replicate M 0)) [] [] ks [] []:=by
   have kd:kp≠dp:=cg (s4 _ _ aG) g5;refine{((s'.up hq).trans s4).trans s5,s5 _ _ (s4 _ _ aG),by rw[hk,j7],λi kk e=>?_,nd',λz=>?_,kd,λz=>?_,s'.free hq,(s'.up hq).free g4,((s'.up hq).trans s4).free g5,λkk z=>(I kk z).1,s5 _ _ e4,(λd z=>nomatch z),qb _,e5,{U,λi d z=>by cases z}}
   ·have hi:=(qw.mp e).1
    rw[Hs.g_ ()];exact s5 _ _ (s4 _ _ (gk (I kk (qk e)).2))
   ·have:=(I kp z).2
    rw[hq]at this;cases this
   ·have:=s4 _ _ (gk (I dp z).2)
    rw[g5]at this;cases this
  refine{_,U,_,U,_,U,_,U,sp,_,U,((hs.same s1).same s2).same (s3.trans st.same),λq6 H6 g6 s6 e6=>?_};have st6:=st.guard g6 s6 e6
  have S:∀{n:Nat},n≤(bQ (List.map V.int Z) (some 1) (some b)).length->n≤Z.length - 1:=λh=>by
   refine qg h ?_;unfold bQ;rw[zq,wa,qa];have:HT.bE Z.length 0 (some 1)=min 1 Z.length:=HT.eE _ _ 1;rw[this];omega
  have hcut:(bQ (List.map V.int Z) (some 1) (some b)).length≤63:=qg (AN _ _ _) (by rw[qa];exact hl);have R:=Hs.Kn.start M
  refine{q6,U,{_,aw.of e6},IZ (xs:=bQ (List.map V.int Z) (some 1) (some b)) (λi σ H7=>∃(kn:List (List Nat)) (ds:List Hs.Dd) (ks:List Addr) (kvs:List (List Key×V)) (des:List V) (v8 v9 v10 v11 f D g G v16 v17 v18:Option V),
    σ=[some (.ref sp),some (.int b),some (.ref p2),some (.ref rp),some (.int M),some (.ref kp),some (.ref tp),some (.ref dp),v8,v9,v10,v11,f,D,g,G,v16,v17,v18] ∧
    Hs.dZ (upd H3 q6 (.lst (bQ (List.map V.int Z) (some 1) (some b)))) H7 kp tp dp ws kn ds ds ks kvs des/\Hs.Kn M ds kn/\Hs.Wh M ds/\ds.length≤i/\∀d∈ds,sI ws d.br/\bA ws d.num d.wt)
   {_,[],ks,[],[],none,none,none,none,none,none,none,none,none,none,none,U,st6,R.1,R.2,qb _,λ_ z=>nomatch z} ?_ ?_ ?_}
  ·rintro i σ H7 _ ⟨kn,ds,ks,kvs,des,v8,v9,v10,v11,f,D,g,G,v16,v17,v18,rfl,h7,_⟩
   exact aw.of (h7.same _ _ aG)
  ·rintro i x σ H7 pe hx ⟨kn,ds,ks,kvs,des,v8,v9,v10,v11,f,D,g,G,v16,v17,v18,rfl,h7,K7,W7,hlen,hbw⟩ hpe
   obtain⟨c,rfl⟩:=o7 (qk hx);have hi:i<63:=zc (qw.mp hx).1 hcut;refine{pe,_,U,aH.of aG,U,?_};have h7:=h7.mono (ab.new (o:=.tup [.int i,.int c]) hpe);refine{_,_,U,_,_,U,U,?_};refine{_,U,_,_,U,U,.inl {⋯,⋯},_,U,_,_,U,U,.inl {⋯,⋯},_,U,_,_,U,U,.inr {(),()},_,_,U,U,_,22,U,⋯,λH8 X ms s8 g8 d8 hl8=>?_};have h8:=h7.guard g8 s8 d8.at';obtain⟨a0,h0⟩:=d8.get 0 ⋯;refine{_,U,X,_,0,.int a0,U,U,aw.of d8.at',h0,_,U,_,_,U,U,(by omega:(0:Int)<M),?_};obtain⟨w,hw⟩:=Int.eq_ofNat_of_zero_le (c7 a0 (by omega:(0:Int)<M))
   have C:w<M:=by have:=df a0 (by omega:(0:Int)<M);omega
   show cB 11 (V.int (a0 % (M:Int))) _ _ _;rw[hw];have hr3:0≤a0 / (M:Int) % 3/\a0 / (M:Int) % 3<3:={c7 _ ⋯,df _ ⋯}
   refine{_,U,X,_,0,.int a0,U,U,aw.of d8.at',h0,_,U,_,_,U,U,{(),()},_,_,U,U,(by show(0:Int)<3;decide),_,U,(),(),tI (n:=(a0 / (M:Int) % 3).toNat)
    (λj σ H9=>∃(kn:List (List Nat)) (ks:List Addr) (f D g G:Option V),
     σ=[some (.ref sp),some (.int b),some (.ref p2),some (.ref rp),some (.int M),some (.ref kp),some (.ref tp),some (.ref dp),some (.int i),some (.int c),some (.ref X),some (.int w),f,D,g,G,v16,v17,v18] ∧
     Hs.dZ (upd (upd H3 q6 (.lst (bQ (List.map V.int Z) (some 1) (some b)))) X (.lst (List.map V.int ms))) H9 kp tp dp ws kn ds ds ks kvs des/\Hs.Kn M ds kn)
    {kn,ks,f,D,g,G,U,h8,K7} ?_ ?_}
   ·rintro j σ H9 hj ⟨kn,ks,f,D,g,G,rfl,N,J⟩
    have hj3:j<3:=()
    have d9:DR H9 X ms 22:={N.same _ _ aG,d8.len,d8.bR}
    have O:(0:Int)≤1+(0+(j:Int))/\1+(0+(j:Int))<((List.map V.int ms).length:Int):=by rw[qa];omega
    refine{_,U,_,U,_,_,U,U,X,_,_,U,U,aw.of d9.at',O.1,O.2,λv hv=>?_};obtain⟨b1,_,rfl⟩:=qf.mp hv;refine{_,U,_,_,U,U,(by omega:(0:Int)<M),?_};obtain⟨o,ho⟩:=Int.eq_ofNat_of_zero_le (c7 b1 (by omega:(0:Int)<M))
    have hoM:o<M:=by have:=df b1 (by omega:(0:Int)<M);omega
    show cB 13 (V.int (b1 % (M:Int))) _ _ _;rw[ho];obtain⟨ko,hko,eko,ako⟩:=N.rowAt (i:=o) (by rw[J.len];exact hoM);obtain⟨kw,hkw,W,akw⟩:=N.rowAt (i:=w) (by rw[J.len];exact C);have lo:(Hs.aF kn o).length=M:=J.row o hoM;have lw:(Hs.aF kn w).length=M:=J.row w C;refine{_,U,_,U,_,_,U,U,X,_,_,U,U,aw.of d9.at',O.1,O.2,λv hv=>?_};obtain⟨b2,_,rfl⟩:=qf.mp hv;refine{_,U,_,_,U,U,{(),()},_,U,_,U,kp,_,_,_,U,U,aw.of N.h_,ako,_,U,ko,_,_,_,U,U,aw.of eko,Hs.eH (),_,_,U,U,_,_,U,U,(),?_};have hto:=c7 (b2 / (M:Int)) (m:=((Hs.aK (Hs.aF kn o) o:Nat):Int)+1) ();have hto2:=df (b2 / (M:Int)) (m:=((Hs.aK (Hs.aF kn o) o:Nat):Int)+1) ();obtain⟨t,ht⟩:=Int.eq_ofNat_of_zero_le hto;rw[ht]at hto2;show cB 14 (V.int (b2 / (M:Int) % (((Hs.aK (Hs.aF kn o) o:Nat):Int)+1))) _ _ _;rw[ht];refine{_,U,_,U,_,U,kp,_,_,_,U,U,aw.of N.h_,akw,_,U,kw,_,_,_,U,U,aw.of W,Hs.eH (),_,_,U,U,_,U,?_};refine bC (λhgt=>?_) λ_=>?_
    ·have hgt:Hs.aK (Hs.aF kn w) o<t:=by
      have:=qF hgt;omega
     obtain⟨e,he,ew,en⟩:=J.has (j:=o) (k:=t) hoM () ();subst ew en;obtain⟨qe,ve,ee,_⟩:=N.tab e he;refine{_,U,_,U,_,U,aN rfl,λpt Ht gt st' et=>?_};have hT:=N.mono st';refine{tp,.ref qe,U,ve▸ig.t (k:=Hs.fJ e) hT.jA et,?_};have le:e.hd.length=M:=W7.len e he;have hn:((M:Int)).toNat=M:=Int.toNat_natCast M
     refine{_,U,_,U,(),(),Pc (n:=(M:Int).toNat) (by rw[hn];exact qj (aV ()))
      (λa ys H'=>ab Ht H'/\ys=Hs.bY ((List.range a).map λa=>max (Hs.aK (Hs.aF kn w) a) (Hs.aK e.hd a))) {ab.refl _,U} (λa ys H' K1 K0 ha s' k1 k0=>?_) λH' pn ys s' hy hq=>?_}
     ·obtain⟨s',rfl⟩:=s'
      rw[hn]at ha;refine aL (B:=K0 H') ?_;refine{_,U,_,U,kp,_,_,_,U,U,aw.of (s' _ _ hT.h_),akw,_,U,kw,_,_,_,U,U,aw.of (s' _ _ (st' _ _ W)),Hs.wF (Hs.eH ()),_,U,_,U,qe,_,_,_,U,U,aw.of (s' _ _ (st' _ _ ee)),Hs.wF (Hs.eH ()),_,_,U,?_};show K1 (V.int (if((Hs.aK e.hd a:Nat):Int)>((Hs.aK (Hs.aF kn w) a:Nat):Int) then((Hs.aK e.hd a:Nat):Int) else((Hs.aK (Hs.aF kn w) a:Nat):Int))) H';rw[Hs.lM];refine k1 _ _ {s',?_};rw[je,zf];unfold Hs.bY;rw[zf];rfl
     ·obtain⟨s',rfl⟩:=s'
      have hT':=hT.mono s';have y:=hT'.swap (i:=w) (p:=pn) (r:=(List.range (M:Int).toNat).map λa=>max (Hs.aK (Hs.aF kn w) a) (Hs.aK e.hd a)) (by rw[J.len];exact C) hq;rw[jb]at y
      have hwl:w<kn.length:=by rw[J.len];exact C
      obtain⟨kw2,hkw2,ekw2,akw2⟩:=y.rowAt (i:=w) (by rw[wq];exact hwl);rw[show Hs.aF (kn.set w ((List.range (M:Int).toNat).map λa=>max (Hs.aK (Hs.aF kn w) a) (Hs.aK e.hd a))) w=(List.range (M:Int).toNat).map (λa=>max (Hs.aK (Hs.aF kn w) a) (Hs.aK e.hd a)) from Hs.aI hwl]at ekw2;rw[jb]at akw2;have L:=y.h_;rw[jb]at L;refine{_,U,_,U,kp,_,_,w,U,U,(by rw[aD (cg hT'.h_ hq)];exact hT'.h_),Hs.iU (by rw[qa,hT'.fL];exact hwl),?_}
      have hlen2:e.aB<((List.range (M:Int).toNat).map λa=>max (Hs.aK (Hs.aF kn w) a) (Hs.aK e.hd a)).length:=by rw[qa,vm,hn];exact hoM
      refine{_,U,_,U,kp,_,_,_,U,U,aw.of L,akw2,_,U,kw2,_,_,_,U,U,aw.of ekw2,Hs.eH hlen2,_,U,_,_,U,_,U,_,U,kp,_,_,_,U,U,aw.of L,akw2,_,U,kw2,_,_,e.aB,U,U,ekw2,Hs.iU (by rw[qa];exact hlen2),?_};have h11:=y.row (i:=w) (k:=kw2) (r:=((List.range (M:Int).toNat).map λa=>max (Hs.aK (Hs.aF kn w) a) (Hs.aK e.hd a)).set e.aB (max (Hs.aK ((List.range (M:Int).toNat).map λa=>max (Hs.aK (Hs.aF kn w) a) (Hs.aK e.hd a)) e.aB) e.num)) hkw2;rw[←Hs.ka]at h11
      have ex:(kn.set w ((List.range (M:Int).toNat).map λa=>max (Hs.aK (Hs.aF kn w) a) (Hs.aK e.hd a))).set w (((List.range (M:Int).toNat).map λa=>max (Hs.aK (Hs.aF kn w) a) (Hs.aK e.hd a)).set e.aB (max (Hs.aK ((List.range (M:Int).toNat).map λa=>max (Hs.aK (Hs.aF kn w) a) (Hs.aK e.hd a)) e.aB) e.num))=kn.set w (Hs.merged M (Hs.aF kn w) e.hd e.aB e.num):=by
       rw[List.set_set,hn];unfold Hs.merged;rw[Hs.gS _ hoM]
      rw[ex]at h11;have vx:V.int (if((e.num:Nat):Int)>((Hs.aK ((List.range (M:Int).toNat).map λa=>max (Hs.aK (Hs.aF kn w) a) (Hs.aK e.hd a)) e.aB:Nat):Int) then((e.num:Nat):Int) else((Hs.aK ((List.range (M:Int).toNat).map λa=>max (Hs.aK (Hs.aF kn w) a) (Hs.aK e.hd a)) e.aB:Nat):Int))=Hs.nV (max (Hs.aK ((List.range (M:Int).toNat).map λa=>max (Hs.aK (Hs.aF kn w) a) (Hs.aK e.hd a)) e.aB) e.num):=congrArg V.int (Hs.lM _ _);rw[←vx]at h11;exact{_,ks.set w pn,_,_,_,_,U,h11,J.merge W7 C he hgt}
    ·exact{kn,ks,_,_,_,_,U,N,J}
   ·rintro σ H9 ⟨kn,ks,f,D,g,G,rfl,N,J⟩
    have hwl:w<kn.length:=by rw[J.len];exact C
    obtain⟨kw,hkw,W,akw⟩:=N.rowAt (i:=w) hwl;have lw:(Hs.aF kn w).length=M:=J.row w C;refine{_,U,_,U,kp,_,_,_,U,U,aw.of N.h_,akw,_,U,kw,_,_,_,U,U,aw.of W,Hs.eH (),_,_,U,U,?_};show cB 16 (Hs.nV (Hs.aK (Hs.aF kn w) w+1)) _ _ _;refine{_,U,_,U,kp,_,_,_,U,U,aw.of N.h_,akw,kw,_,U,aw.of W,λph H10 g10 s10 e10=>?_};have y:=N.mono s10;refine{_,U,ph,_,U,.inr (aH.of e10),λpl H11 g11 s11 e11=>?_};refine{_,U,_,U,_,U,aN rfl,λpt H12 g12 s12 e12=>?_};have h12:=(y.mono s11).mono s12;refine{tp,_,U,qZ.t (k:=Hs.fJ (Hs.cK kn w .none [])) h12.jA e12 (wb h12.iB (aV ())),?_}
    have h13:=h12.put (d:=Hs.cK kn w .none []) (q:=pl) (s12 _ _ e11) (λz=>cg y.h_ g11 z.symm) (λz=>cg y.dat g11 z.symm) (λz=>by
      obtain⟨a,ha,e2⟩:=zv.mp z
      exact cg (y.rows a pl (by rw[qc ha,e2])) g11 rfl)
     (λe he=>Hs.tw λz=>by
      have q1:=J.cnt e he;rw[z.1,z.2]at q1;have q2:(Hs.cK kn w .none []).num=Hs.aK (Hs.aF kn w) w+1:=rfl;have q3:(Hs.cK kn w .none []).aB=w:=rfl;rw[q2,q3]at q1
      omega)
    refine{_,U,_,U,_,U,kp,_,_,_,U,U,aw.of h13.h_,akw,_,U,kw,_,_,w,U,U,h13.rows w kw hkw,Hs.iU (by rw[qa];omega),?_};have h14:=h13.row (i:=w) (k:=kw) (r:=(Hs.aF kn w).set w (Hs.aK (Hs.aF kn w) w+1)) hkw;rw[←Hs.ka]at h14;have d14:DR _ X ms 22:={h14.same _ _ aG,d8.len,d8.bR};have sG:ab H3 (upd (upd H3 q6 (.lst (bQ (List.map V.int Z) (some 1) (some b)))) X (.lst (List.map V.int ms))):=(ab.new (st.same.free g6)).up (h7.same.free g8);have r14:=rl.mono (sG.trans h14.same);refine{_,U,_,U,X,_,U,aw.of d14.at',λq15 H15 g15 s15 e15=>?_};have d15:=d14.from 4 ⋯ e15;refine{_,U,_,U,q15,rp,ws,_,_,U,r14.mono s15,{d15.at',qg ⋯ d15.len,d15.bR},λH16 vw wt s16 dw hww2=>?_};have h16:=(h14.mono s15).mono s16;have r16:=(r14.mono s15).mono s16;have d16:=(d14.mono s15).mono s16;obtain⟨a3,h3⟩:=d16.get 3 ⋯
    have hww:w<ws.length:=()
    have hwd:iH (ws.map V.str) (w:Int)=some (.str ws[w]):=bH (by rw[qh,qc hww];rfl);refine{_,U,.inl {U,_,aw.of h16.dat},_,U,_,U,rp,_,_,_,U,U,aw.of r16.at',hwd,_,U,_,U,_,U,X,_,3,.int a3,U,U,aw.of d16.at',h3,_,U,_,rp,ws,U,r16,λH17 vb br s17 dbr hbr=>?_};refine{_,U,aN rfl,λpd H18 g18 s18 e18=>?_};have h18:=(h16.mono s17).mono s18;refine{dp,_,_,U,U,h18.dat,(by rw[h18.d5.1];exact aV ()),?_};have pt1:ph≠tp:=λz=>cg N.jA g10 z.symm;have pt2:ph≠kw:=λz=>cg W g10 z.symm
    have eph:H18 ph=some (.tup (Hs.bY (Hs.aF kn w))):=by
     refine s18 _ _ (s17 _ _ (s16 _ _ (s15 _ _ ?_)));rw[aD pt2,aD pt1];exact s12 _ _ (s11 _ _ e10)
    refine{_,ds++[Hs.cK kn w br wt],ks,_,_,_,_,_,_,_,_,_,_,_,_,_,U,((h18.Fp (d2:=Hs.cK kn w br wt) rfl rfl).add (d:=Hs.cK kn w br wt) (v:=.ref pd) {pd,ws[w],ph,vb,vw,U,qc hww,e18,eph,dbr.same s18,dw.same (s17.trans s18)}).weak (ab.new (h7.same.free g8)),J.next W7 C,W7.next J C,?_,λd hd=>?_}
    ·rw[qm,zi]
     omega
    ·rcases qy.mp hd with hd|hd
     ·exact hbw d hd
     ·rw[zb.mp hd]
      exact⟨hbr,hww2⟩
  ·rintro σ H7 ⟨kn,ds,ks,kvs,des,v8,v9,v10,v11,f,D,g,G,v16,v17,v18,rfl,h7,K7,W7,hlen,hbw⟩
   have Y:Hs.dZ H3 H7 kp tp dp ws kn ds ds ks kvs des:=h7.weak (ab.new (st.same.free g6));have s03:ab H H3:=(s1.trans s2).trans s3;refine{_,U,_,U,aN rfl,λq8 H8 g8 s8 e8=>?_};exact k H8 q8 rp dp ws ds des ((s03.trans Y.same).trans s8) ((s03.trans Y.same).free g8) e8 (rl.mono (Y.same.trans s8)) h2 nd (s03.free Y.fd) (s8 _ _ Y.dat) (Y.d5.mono s8) (hM'▸W7) hbw (S hlen)
def Co(T:Txt K mg tk)(F:FO K mg "is_deed" mU)(o:vC P w K mg base)(m:pN P w K mg base)(g:iC P w K mg base)(v:fz P w K mg base)(j:uA P w K mg base):vV P w K mg base:=by
 refine ax F CD (m2 λ_ _=>rfl) {} λfa O A outer s H vs Q E d h=>?_
 refine{_,(aq (az (PW.pt (dz (cT (bP (cl v d (a2 (na 1) aj)))) (f9 (cT (bP (cl g d (a2 (na 0) (du sJ (na 1) dO (dg aj))))))))) (ai (ar cW)) aO)
   (aq (az (PW.pt (dz (cT (bP (cl m d (a2 (na 0) (xt (na 1)))))) (f9 (ck fY (xu (xt (na 1)) (bm PySem.F.plainAttrs_list PySem.F.slot_list_index PySem.F.type_list_index (Se d) (na 0) (a1 (xt (na 1))))) (ah ng (xt (na 1)) aj))))) (ai (ar cW)) aO)
   (ai (ar (dM (cl o d (a2 (na 0) (xt (na 1)))) (c0 (cl j d (ac (na 0) (a2 (xt (na 1)) (xt (na 1))))))))))),?_}
 obtain⟨p,ws,q,x,n,vc,W,Z,b,S,L,X,rfl,y,hw,c,C,N,R,D,k⟩:=h;obtain⟨B,xs,rfl,I,t⟩:=c9 C;have e:=oJ t;subst e;have n2:=D.n2;refine{q,_,_,U,c,U,_,U,aM {_,U,_,_,U,aH.of c,(λe=>absurd e.2 (by show ¬(2=5);decide)),λr d=>?_}};have z:ab H (upd H r (.tup [.str x,.int n])):=(ab.refl H).up d;refine{_,_,_,_,U,y.same z,hw.mono z,.tup (aG ..) (.cons (.str x) (.cons (.int n) .nil)),{_,U,x,n,U,D.Jc,D.n1,()},λH2 s2=>{_,U,aM ?_}};have i:=z.trans s2;refine{_,_,_,.ref B,U,U,aH.of (i _ _ c),U,_,_,_,_,U,y.same i,hw.mono i,C.same i,{W,U,D.lc,D.hc},λH4 V=>{_,U,aM ?_}};have a:=i.trans V;refine{_,_,_,.ref B,U,U,aH.of (a _ _ c),U,.inl {U,_,aw.of (hw.mono a).at'},_,_,_,.str x,U,U,aH.of (a _ _ c),U,Q3 (hw.mono a) D.Jc ?_};refine{B,_,_,.int (n - 1),U,U,aH.of (a _ _ I),bH (by rw[qh,D.own];rfl),_,_,_,.int n,U,U,aH.of (a _ _ c),U,_,_,U,U,U,_,U,?_};refine bC (λM=>absurd M (by simp)) λ_=>?_;refine{_,_,_,Z,U,U,aH.of (a _ _ c),U,_,_,_,b,U,y.same a,hw.mono a,N.same a,D.br,λH6 J=>{_,U,aL ?_}};have f:=a.trans J;exact{_,_,_,.int n,U,U,aH.of (f _ _ c),U,_,_,_,S,U,U,aH.of (f _ _ c),U,_,_,n,_,L,U,y.same f,hw.mono f,(),R.same f,D.wh,λG Y=>k G (f.trans Y)}
def AC(T:Txt K mg tk)(F:FO K mg "read_deed" mW)(z:vV P w K mg base)(G:u9 P w K mg base)(I:oe P w K mg base)(B:iG P w K mg base)(C:uC P w K mg base):tV P w K mg base:=by
 refine ax F sM (m2 λ_ _=>rfl) {} λfa cdv A outer s H vs Q E t h=>?_
 refine{_,(aq (az (cT (bP (cb dQ T.aC boot_isinstance (a2 (na 1) (dH (v:=.ty "str") (by rfl) T.dU boot_str rfl))))) (ai fC) aO)
   (aq (sn sM.nd 2 (bm PySem.F.plainAttrs_str PySem.F.slot_str_split PySem.F.type_str_split pX (na 1) (a1 aE)))
   (aq (az (ck iK (cb cZ T.bh boot_len (a1 (na 2))) aj) (ai fC) aO)
   (aq (sn sM.nd 3 (ba (ac (xl (na 2)) (ac (cl B t (a1 (xl (na 2)))) (a2 (cl I t (a1 (xl (na 2)))) (cl G t (a1 (xl (na 2)))))))))
   (aq (sn sM.nd 4 (ah OL (na 3) (ba (a1 (cl C t (a1 (du gA (na 2) (dg aj) dO)))))))
   (aq (az (cT (bP (cl z t (a2 (na 0) (na 4))))) (ai fC) aO)
   (ai (ar (na 4))))))))),?_}
 obtain⟨p,ws,g,n,i,b,wt,d,rfl,D,hw,hd,k⟩:=h;have nb:Nb n:={by have:=hd.n1;omega,by have:=hd.n2;omega};have rc:cM (.tuple (i.map PyData.int)) (Txt.join "," ((i.map PyData.int).map bI)):={i,λe=>by have:=hd.lc;have:=hw.pos;rw[e]at *;simp at *;omega,by have:=hd.lc;have:=hw.bR;omega,U,λc r=>{(hd.hc c r).1,by have:=(hd.hc c r).2;omega},by rw[List.map_map];rfl};have rb:=HS hw.wd hd.br;have y:=hw.wd g hd.Jc;refine{_,"str",_,U,U,.str _,_,U,aM ?_}
 have Y:Txt.split (As g n (i.map PyData.int) b d) " "=([g,toString n,Txt.join "," ((i.map PyData.int).map bI),jU b]:List Str)++d:=sU (c:=32) (by simp) λx f W=>by
  have fr:dC x:=by
   rcases qy.mp f with f|f
   ·simp only[List.mem_cons,List.not_mem_nil,or_false]at f
    rcases f with rfl|rfl|rfl|rfl
    ·exact ip y
    ·exact kZ nb
    ·exact cM.fr rc
    ·exact E6.fr rb
   ·exact eO.fr hd.rw x f
  exact(fr 32 W).1 rfl
 have hbo:qN b:=by
  rcases hd.br with hb|⟨a,c,hb,ha,r⟩
  ·exact .inl hb
  ·exact .inr ⟨a,c,hb,c_ (hw.wd a ha),c_ r⟩
 have J:(As g n (i.map PyData.int) b d).length≤10000:=by
  have a:=nW " " (([g,toString n,Txt.join "," ((i.map PyData.int).map bI),jU b]:List Str)++d)
  have c:=fI (ws:=([g,toString n,Txt.join "," ((i.map PyData.int).map bI),jU b]:List Str)++d) (c:=100) λx f=>by
   rcases qy.mp f with f|f
   ·simp only[List.mem_cons,List.not_mem_nil,or_false]at f
    rcases f with rfl|rfl|rfl|rfl
    ·exact qg (c_ y) ⋯
    ·exact qg (mH nb) ⋯
    ·refine yB (by rw[qa];have:=hd.lc;have:=hw.bR;omega) λx f=>?_
     obtain⟨c,r,rfl⟩:=qf.mp f;exact .inr {c,U,(hd.hc c r).1,by have:=(hd.hc c r).2;omega}
    ·exact LX hbo
   ·exact hd.bR.2 x f
  have o:(" ":Str).length=1:=rfl
  have hl:(([g,toString n,Txt.join "," ((i.map PyData.int).map bI),jU b]:List Str)++d).length=4+d.length:=by rw[qm];rfl
  have h15:=hd.bR.1;rw[hl]at a c;rw[o]at a;show(Txt.join " " (([g,toString n,Txt.join "," ((i.map PyData.int).map bI),jU b]:List Str)++d)).length≤10000;omega
 refine{U,_,32,U,U,J,λq H1 hq s1 o=>?_}
 have o:H1 q=some (.lst (.str g::.str (toString n)::.str (Txt.join "," ((i.map PyData.int).map bI))::.str (jU b)::d.map V.str)):=by
  rw[o,show Txt.split _ {#[32]}=_ from Y];rfl
 refine{q,_,U,.inl (aw.of o),_,_,U,U,_,U,?_};refine bC (λh5=>?_) λ_=>?_
 ·exfalso
  have h5:=qF h5
  have:1≤d.length:=by
   have:=hd.rw;generalize d=w0 at this;cases this;rw[qr];omega
  simp at h5
  omega
 refine{_,_,_,.str g,U,U,aw.of o,fj,?_};refine{_,_,_,.str (toString n),U,U,aw.of o,bH (j:=1) rfl,?_};refine{_,.int n,U,D.same s1,{n,U,nb,U},λv2 H2 R d2=>?_};have z2:=s1.trans R;refine{_,_,_,_,U,U,aw.of (R _ _ o),bH (j:=2) rfl,?_};refine{_,_,U,D.same z2,rc,λv3 H3 X d3=>?_};have z3:=z2.trans X;refine{_,_,_,_,U,U,aw.of ((R.trans X) _ _ o),bH (j:=3) rfl,?_};refine{_,_,U,D.same z3,rb,λv4 H4 Z d4=>?_};rw[k4 d2];refine{qj (aV (qz rfl)),λq5 H5 g5 N e5=>?_};have z5:=z3.trans (Z.trans N);have y5:=R.trans (X.trans (Z.trans N));refine{_,U,q,_,U,aw.of (y5 _ _ o),λq6 H6 g6 s6 e6=>?_}
 have e6:H6 q6=some (.lst (d.map V.str)):=by
  rw[e6];exact congrArg (λl=>some (HO.lst l)) (L2.kb (n:=4) (Nat.le_add_left _ _))
 have z6:=z5.trans s6;refine{q6,wt,d,U,D.same z6,e6,hd.rw,by have:=hd.bR.1;omega,λv7 H7 s7 d7=>?_};refine{qj (aV (qz rfl)),λq8 H8 g8 s8 e8=>?_};have O:=s6.trans (s7.trans s8);refine{q5,q8,_,_,U,U,O _ _ e5,e8,qj (aV (qz rfl)),λq9 H9 M L=>?_};have L:H9 q9=some (.tup [.str g,.int n,v3,v4,v7]):=L;have S:=z5.trans (O.trans M);have x3:=d3.same (Z.trans (N.trans (O.trans M)));have x4:=d4.same (N.trans (O.trans M));have x7:=d7.same (s8.trans M);refine{p,ws,q9,g,n,v3,i,v4,b,v7,wt,d,U,D.md.same S,hw.mono S,L,x3,x4,x7,hd,λH10 m=>{_,U,aM ?_}};exact k _ _ (S.trans m) (.tup (m _ _ L) (.cons (.str _) (.cons (.int _) (.cons (x3.same m) (.cons (x4.same m) (.cons (x7.same m) .nil))))))
def CT(T:Txt K mg tk){fd:FuncData}(F:t8 K "law" "law" fm fa fd)(gfAt:tZ P w K mg base)(gfBj:vu P w K mg base)(gfAu:tP P w K mg base)(gfCd:uN P w K mg base)(gfBw:tV P w K mg base)(O:uH P w K mg base):cE P w K mg base ia 10 fa fd ["_law_script"] i9:=by
 refine F.ok ml {} λcdv A outer s H vs Q E m h=>?_
 refine{_,(aq (sX (cl gfBj m (a2 (na 0) aj)) (gt (eK (gm ml.nd 1) (eK (gn ml.nd 2) jZ))))
   (aq (l' (i:=3) ml.nd rfl (Or.inl rfl) (own:=["_law_deed"]) (fr:=[]) rfl (il (na 2)) {U,∅,∅} (fU ∅) (λ_ _ _=>(dF (i:=0) (by show List.Nodup (["_law_deed"]:List Str);decide +kernel) rfl (Or.inl rfl))) (λ_=>kX rfl) (λ_ _ _=>b_) (λ_ _ _=>(cl O m (a1 (na 0)))))
   (aq (az (ck fY (cb Lu T.bh boot_len (a1 (cy (Q5 rfl) T.uB boot_set (a1 (na 3))))) (cb cZ T.bh boot_len (a1 (na 2)))) (ai (ar cW)) aO)
   (aq (sn ml.nd 4 (cl gfAu m (a2 (ah pB (na 3) (NR (na 3) (dg aj))) (ah cP (cb cZ T.bh boot_len (a1 (na 0))) (cb (OV m.hd) T.vP boot_sum (a1 (du gA (na 0) dO (dg aj))))))))
   (aq (l' (i:=5) ml.nd rfl (Or.inl rfl) (own:=["_law_text"]) (fr:=[("_law_roll_here",1)]) rfl (il (na 4)) {U,∅,∅} (rT (aa fm) ["_law_script","_law_roll_here","_law_deeds","_law_texts","_law_sent","_law_found"] rfl rfl (λ_ h=>l8 h) ∅ ∅ ∅) (λ_ _ _=>(dF (i:=0) (by show List.Nodup (["_law_text","_law_roll_here"]:List Str);decide +kernel) rfl (Or.inl rfl))) (λ_=>kX rfl) (λ_ _ _=>b_) (λ_ _ _=>(cl gfBw m (a2 (nc 1) (na 0)))))
   (aq (az (PW.pt (dz (ck (Au m) (l0 (il (na 5)) (λ_ _ _=>b_) (λ_ _ _=>(cl O m (a1 (na 0))))) (na 4)) (f9 (ck (Au m) (vK (aa fm) vp [("_law_roll_here",1)] (il (na 3)) (λ_ _ _=>b_) (λ_ _ _=>(cl gfBw m (a2 (nc 1) (na 0))))) (na 2))))) (ai (ar cW)) aO)
   (ai (ar (ce (R9 m) (cl gfCd m (a1 (mc gfAt m T.nP (a2 (nc 1) (na 5))))) (cl gfCd m (a1 (mc gfAt m T.nP (a2 (nc 1) (na 2)))))))))))))),?_}
 obtain⟨sp,ns,rfl,hs,hl,md,kk⟩:=h;refine{sp,ns,_,U,hs,hl,λH1 p0 rp dp ws ds des s1 g1 e1 q h2 nd gd e2 dds W bw hdl=>?_};refine{p0,_,U,aH.of e1,U,_,_,U,_,_,U,U,?_};have an:=O5 dds;have Z:des.length=ds.length:=an.1;obtain⟨hn,hg⟩:=W.sS;have sw:Sw ws hn ds:={nd,W,hg,λd hd=>HJ q.wd (W.aB d hd) (bw d hd).1 (bw d hd).2,()}
 have h11:∀d∈ds,∃wds,yQ ws d wds:=λd hd=>JZ q nd W () hd (bw d hd).1 (bw d hd).2
 obtain⟨f,hf⟩:∃f:Hs.Dd->List Str,∀d∈ds,yQ ws d (f d):=by
  classical
  exact{λd=>if h:d∈ds then(h11 d h).choose else[],λd hd=>by simp only[dif_pos hd];exact(h11 d hd).choose_spec}
 obtain⟨c,hT⟩:∃c:Hs.Dd->Str,c=λd=>Mh ws d (f d):={_,U}
 have inj:∀d∈ds,∀d'∈ds,c d=c d'->d=d':=λd hd d' r e=>by
  rw[hT]at e;obtain⟨a,b⟩:=FQ q (hf d hd) (hf d' r) e;exact W.one hd r (Hs.fN nd (gV (W.aB d hd)) (a▸gV (W.aB d' r))) b
 have hnd:(ds.map c).Nodup:=vi.mpr (W.uniq.imp_of_mem λ{a b} ha hb h e=>h (by rw[inj a ha b hb e];exact{U,U}));have md1:=md.same s1;refine{dp,U,{_,aw.of e2},f' (xs:=des) (iZ ()) (λj us H'=>ab H1 H'/\us=((ds.take j).map c).map V.str) {ab.refl _,U} (λ_ _ H' s'=>aw.of (s'.1 _ _ e2)) (λj x us H' K1 K0 Y s' k1 k0=>?_) λH2 lp us s' hu hlq=>?_}
 ·obtain⟨s',rfl⟩:=s'
  obtain⟨d,p,da⟩:=an.at Y;refine aL (B:=K0 H') ?_;refine{x,_,_,_,_,_,U,(hf d (qk p)).ok q (da.mono s'),λH3 L=>k1 _ _ {s'.trans L,?_}};rw[zo,p,zf,zf,hT];rfl
 obtain⟨s12,rfl⟩:=s'
 have e0:ds.take des.length=ds:=by rw[Z,zn]
 rw[e0]at hu ⊢;have n2:ab H1 (upd H2 lp (.lst ((ds.map c).map V.str))):=s12.trans (ab.new hlq);have e3:(upd H2 lp (.lst ((ds.map c).map V.str))) lp=some (.lst ((ds.map c).map V.str)):=aG;show k9 _ _ _ _ (upd H2 lp (.lst ((ds.map c).map V.str)));generalize upd H2 lp (.lst ((ds.map c).map V.str))=H3 at n2 e3;refine{lp,_,ds.map c,U,aw.of e3,U,hnd,by rw[qa];omega,λq4 H4 g4 s4 e4=>?_};refine{q4,_,U,by rw[qa];omega,e4,?_};refine{dp,_,U,.inl (aw.of ((n2.trans s4) _ _ e2)),?_};refine{U,_,U,gE ?_ ?_}
 ·rw[List.length_map,Z];simp
 refine{2,U,_,U,⋯,lp,_,U,aw.of (s4 _ _ e3),λq5 H5 ys g5 s5 hy hyl e5=>?_};have e35:=(s4.trans s5) _ _ e3;rw[qa,qa]at hyl;refine{lp,q5,_,ys,U,U,e35,e5,qj (aV (by rw[qa,qa];omega)),λq6 H6 g6 s6 e6=>?_};have u:=((n2.trans s4).trans s5).trans s6;refine{sp,_,U,.inl ((s1.trans u).seq hs),?_};refine{_,U,sp,_,U,(s1.trans u).seq hs,λq7 H7 g7 s7 e7=>?_};rw[Gu]at e7;refine{q7,_,U,aw.of e7,λi5=>?_};have s17:=u.trans s7;refine{_,_,U,U,q6,_,_,U,s7 _ _ e6,by rw[qm,qa,qa];omega,λH8 q8 zs s8 g8 e8 pz=>?_};have s18:=s17.trans s8
 have hz:∀v∈zs,∃d,d∈ds/\v=.str (c d):=λv hv=>by
  have hm:v∈(ds.map c).map V.str:=by
   rcases qy.mp (pz.mem_iff.mp hv) with h|h
   ·exact h
   ·exact hy v h
  obtain⟨z,hz,rfl⟩:=qf.mp hm;obtain⟨d,hd,rfl⟩:=qf.mp hz;exact{d,hd,U}
 obtain⟨es,ae⟩:=vQ hz
 have hzl:zs.length≤126:=by rw[pz.length_eq,qm,qa,qa];omega
 have hel:zs.length=es.length:=ae.1
 have ese:∀d∈es,d∈ds:=λd hd=>by
  obtain⟨i,hi,rfl⟩:=zw hd;obtain⟨v,_,h⟩:=ae.to (qc hi);exact h.1
 have memf:∀d,d∈ds↔d∈es:=λd=>{λhd=>by
  have hv:V.str (c d)∈zs:=pz.mem_iff.mpr (va _ (qf.mpr {_,qf.mpr {d,hd,U},U}));obtain⟨i,hi,e⟩:=zw hv;obtain⟨d',p,r,e'⟩:=ae.at (qc hi);rw[e]at e';rw[inj d hd d' r (V.str.inj e')]
  exact qk p,ese d}
 have ezs:zs=(es.map c).map V.str:=by rw[zj];exact IV ae
 refine{q8,U,{_,aw.of e8},f' (xs:=zs) (iZ ()) (λj us H'=>ab H8 H'/\A2 (Hs.ay H' ws) us (es.take j)) {ab.refl _,.nil} (λ_ _ H' s'=>aw.of (s'.1 _ _ e8)) (λj x us H' K1 K0 Y s' k1 k0=>?_) λH9 fq us s' hu9 hfq=>?_}
 ·obtain⟨s',au⟩:=s'
  obtain⟨d,p,hd,rfl⟩:=ae.at Y;refine aL (B:=K0 H') ?_;have t:=s18.trans s';refine{rp,ws,_,_,_,_,_,_,by rw[hT];rfl,md1.same t,q.mono t,(hf d hd).d8,λv H3 L dt=>k1 _ _ {s'.trans L,?_}};rw[zo,p];exact(au.imp λ_ _ _ g=>g.mono L).snoc (FC (hf d hd).aB dt)
 obtain⟨s89,au⟩:=s';rw[hel,zn]at au;have n9:ab H8 (upd H9 fq (.lst us)):=s89.trans (ab.new hfq);have e9:(upd H9 fq (.lst us)) fq=some (.lst us):=aG;have M:A2 (Hs.ay (upd H9 fq (.lst us)) ws) us es:=au.imp λ_ _ _ g=>g.mono (ab.new hfq);show k9 _ _ _ _ (upd H9 fq (.lst us));generalize upd H9 fq (.lst us)=H10 at n9 e9 M;have hul:us.length=es.length:=M.1;have s110:=s18.trans n9;have sP:∀{k:Nat} {a b:PyData},GC k a->k≤64->min a.depth b.depth≤64:=λg hk=>qg (Nat.min_le_left _ _) (qg g.sP hk)
 have gT:GC 1 (.list ((es.map c).map PyData.str)):=.lst λd hd=>by
  obtain⟨z,hz,rfl⟩:=qf.mp hd;obtain⟨e,he,rfl⟩:=qf.mp hz;refine cf ?_;rw[hT];exact yX q (hf e (ese e he)).d8
 have gD:GC 11 (.list (ds.map (sj ws))):=.lst λd hd=>by
  obtain⟨e,he,rfl⟩:=qf.mp hd;exact sw.gd e he
 refine{fq,U,{_,aw.of e9},f' (xs:=us) (iZ ()) (λj vs H'=>ab H10 H'/\vs=((es.take j).map c).map V.str) {ab.refl _,U} (λ_ _ H' s'=>aw.of (s'.1 _ _ e9)) (λj x vs H' K1 K0 Y s' k1 k0=>?_) λH11 tq vs s' hu11 htq=>?_}
 ·obtain⟨s',rfl⟩:=s'
  obtain⟨d,p,da⟩:=M.at Y;refine aL (B:=K0 H') ?_;refine{x,_,_,_,_,_,U,(hf d (ese d (qk p))).ok q (da.mono s'),λH3 L=>k1 _ _ {s'.trans L,?_}};rw[zo,p,zf,zf,hT];rfl
 obtain⟨s1011,rfl⟩:=s';rw[hul,zn];have o:ab H10 (upd H11 tq (.lst ((es.map c).map V.str))):=s1011.trans (ab.new htq);have e11:(upd H11 tq (.lst ((es.map c).map V.str))) tq=some (.lst ((es.map c).map V.str)):=aG;generalize upd H11 tq (.lst ((es.map c).map V.str))=H12 at o e11;have dT:fG H12 ((es.map c).map V.str) ((es.map c).map PyData.str):=rZ _;have e812:=(n9.trans o) _ _ e8;rw[ezs]at e812;refine{_,_,.lst (aw.of e11) dT,.lst (aw.of e812) dT,gT.lay,gT.lay,sP gT ⋯,_,U,gE ?_ ?_}
 ·rw[q0 rfl,gT.self];rfl
 have R:=s110.trans o;have X:=(((((s4.trans s5).trans s6).trans s7).trans s8).trans (n9.trans o)) _ _ e3;refine{lp,U,{_,aw.of X},f' (xs:=(ds.map c).map V.str) (iZ (by rw[qa,qa];omega)) (λj us H'=>ab H12 H'/\A2 (Hs.ay H' ws) us (ds.take j)) {ab.refl _,.nil} (λ_ _ H' s'=>aw.of (s'.1 _ _ X)) (λj x us H' K1 K0 Y s' k1 k0=>?_) λI rq vs s' hu13 hrq=>?_}
 ·obtain⟨s',au⟩:=s'
  rw[qh,qh]at Y;obtain⟨z,hz,rfl⟩:=vf.mp Y;obtain⟨d,p,rfl⟩:=vf.mp hz;have hd:=qk p;refine aL (B:=K0 H') ?_;have t:=R.trans s';refine{rp,ws,_,_,_,_,_,_,by rw[hT];rfl,md1.same t,q.mono t,(hf d hd).d8,λv H3 L dt=>k1 _ _ {s'.trans L,?_}};rw[zo,p];exact(au.imp λ_ _ _ g=>g.mono L).snoc (FC (hf d hd).aB dt)
 obtain⟨s1213,av⟩:=s';rw[qa,qa,zn]at av;have G:ab H12 (upd I rq (.lst vs)):=s1213.trans (ab.new hrq);have e13:(upd I rq (.lst vs)) rq=some (.lst vs):=aG;have N:A2 (Hs.ay (upd I rq (.lst vs)) ws) vs ds:=av.imp λ_ _ _ g=>g.mono (ab.new hrq);generalize upd I rq (.lst vs)=H14 at G e13 N;have l:=R.trans G;have d1:fG H14 vs (ds.map (sj ws)):=A2.eQ (A2.mw (N.imp λ_ _ _ g=>(ay.dt g).dv));have d2:fG H14 des (ds.map (sj ws)):=A2.eQ (A2.mw (an.imp λ_ _ _ g=>(ay.dt (g.mono l)).dv));refine{_,_,.lst (aw.of e13) d1,.lst (aw.of (l _ _ e2)) d2,gD.lay,gD.lay,sP gD ⋯,_,U,gE ?_ ?_}
 ·rw[q0 rfl,gD.self];rfl
 have e914:=(o.trans G) _ _ e9;have au14:=M.imp λ_ _ _ g=>g.mono (o.trans G);intro x dx nx ndx ne;have sm:=ID (o1:=.own x) (o2:=.ins ak dx []) nx ndx;refine{x,dx,rp,fq,ws,hn,us,es,ds,U,aG,(q.mono l).mono sm,sm _ _ e914,au14.imp λ_ _ _ g=>g.mono sm,sw,memf,(),λH15 ss s15 pe fk=>{U,?_}};have fk:=FK.all λS h=>fk S λb z=>(h b z).elim;have s1415:ab H14 H15:=sm.trans s15;refine{x,ws,hn,ss,U,fk,λH16 p1 u g16 dv1=>?_};have C:=l.trans (s1415.trans u);intro y dy ny ndy ney;have J:=ID (o1:=.own y) (o2:=.ins ak dy []) ny ndy;refine{y,dy,rp,dp,ws,hn,des,ds,ds,U,aG,(q.mono C).mono J,J _ _ (C _ _ e2),an.imp λ_ _ _ g=>(g.mono C).mono J,sw,λd=>Iff.rfl,(),λH17 ss2 s17' pe2 D=>{U,?_}};have D:=FK.all λS h=>D S λb z=>(h b z).elim;have es2:ss2=ss:=(Hs.klt.eq D.Rc fk.Rc (pe2.trans pe.symm)).symm▸rfl;have s1617:ab H16 H17:=J.trans s17';refine{y,ws,hn,ss2,U,D,λH18 p2 s18' g18 dv2=>?_};rw[es2]at dv2;have hwS:∀d∈ss,d.aB<ws.length:=λd hd=>W.aB d (pe.mem_iff.mp hd)
 have gR:GC 13 (Lb ws hn ss):=.lst (aJ (GC.up (k:=1) (.tup λd hd=>by
  obtain⟨n,_,rfl⟩:=qf.mp hd
  exact f_ _) ⋯) (aJ (GC.up (k:=1) (.lst λd hd=>by
  obtain⟨z,hz,rfl⟩:=qf.mp hd
  exact cf (gM (q.wd z hz))) ⋯) λd hd=>by
  obtain⟨e,he,rfl⟩:=qf.mp hd
  exact AO q.wd (hwS e he) (sw.gd e (pe.mem_iff.mp he)) λa ha=>hwS a (w6.mp ha).1))
 refine{_,_,dv1.same (s1617.trans s18'),dv2,gR.lay,gR.lay,sP gR ⋯,?_};rw[qt ⋯,gR.self];exact kk _
end
def Oh{P:Program}{w:World}{K:PySem.W.Frag}{mg:Str->Option Value}{base:Heap}(C:pN P w K mg base)(J:v_ P w K mg base)(F:pA P w K mg base)(L:uo P w K mg base)(q:vB P w K mg base)(G:iC P w K mg base)(u:om P w K mg base)(I:tS P w K mg base)(x:ui P w K mg base)(A:uS P w K mg base)(g:uF P w K mg base)(d:uq P w K mg base)(m:vY P w K mg base)(l:t_ P w K mg base)(b:uw P w K mg base)(o:uQ P w K mg base)(B:mg "is_counts"=some (.ref dj))(D:mg "is_deed_number"=some (.ref bu))(H:mg "is_hand"=some (.ref eG))(E:mg "is_leave"=some (.ref dJ))(p:mg "is_line_or_none"=some (.ref bL))(z:mg "is_name"=some (.ref b0))(y:mg "is_part"=some (.ref a'))(r:mg "is_plain_word"=some (.ref aY))(t:mg "is_side"=some (.ref cq))(s:mg "is_sign_name_or_none"=some (.ref a_))(c:mg "is_sign_names"=some (.ref bV))(a:mg "is_signs"=some (.ref dE))(j:mg "is_truth"=some (.ref dN))(i:mg "is_way"=some (.ref fc))(e:mg "is_word_or_empty"=some (.ref bF))(n:mg "is_word_or_none"=some (.ref bM)):∀f sp,hG f sp->∃k fd ps,k≤6/\cE P w K mg base ia k f fd ps sp/\PySem.W.keepIn K (.ref f)=true/\Binds K fd ps []:=by
 rintro f sp ⟨v,rfl,rfl⟩
 cases v with
 |counts=>exact fK C B ⋯ λ_ _ _ _ h=>h
 |num=>exact fK J D ⋯ λ_ _ _ _ h=>h
 |hand=>exact fK F H ⋯ λ_ _ _ _ h=>h
 |leave=>exact fK L E ⋯ λ_ _ _ _ h=>h
 |line=>exact fK q p ⋯ λ_ _ _ _ h=>h
 |name=>exact fK G z ⋯ λ_ _ _ _ h=>h
 |part=>exact fK u y ⋯ λ_ _ _ _ h=>h
 |word=>exact fK I r ⋯ λ_ _ _ _ h=>h
 |side=>exact fK x t ⋯ λ_ _ _ _ h=>h
 |Fe=>exact fK A s ⋯ λ_ _ _ _ h=>h
 |Fb=>exact fK g c ⋯ λ_ _ _ _ h=>h
 |signs=>exact fK d a ⋯ λ_ _ _ _ h=>h
 |truth=>exact fK m j ⋯ λ_ _ _ _ h=>h
 |way=>exact fK l i ⋯ λ_ _ _ _ h=>h
 |Fi=>exact fK b e ⋯ λ_ _ _ _ h=>h
 |won=>exact fK o n ⋯ λ_ _ _ _ h=>h
def QT{P:Program}{w:World}{K:PySem.W.Frag}{mg:Str->Option Value}{base:Heap}(q:oe P w K mg base)(y:lO P w K mg base)(t:tO P w K mg base)(A:iG P w K mg base)(d:oO P w K mg base)(u:fW P w K mg base)(j:vL P w K mg base)(x:uI P w K mg base)(l:uy P w K mg base)(o:uj P w K mg base)(b:uR P w K mg base)(p:mg "read_counts"=some (.ref cu))(r:mg "read_name"=some (.ref bD))(v:mg "read_name_or_none"=some (.ref bq))(s:mg "read_number"=some (.ref bT))(c:mg "read_part"=some (.ref aR))(n:mg "read_plain"=some (.ref aX))(m:mg "read_plain_or_empty"=some (.ref be))(e:mg "read_plain_or_none"=some (.ref bf))(i:mg "read_side"=some (.ref bO))(g:mg "read_sign_name_or_none"=some (.ref aW))(a:mg "read_truth"=some (.ref cO)):∀f sp,fE f sp->∃k fd ps,k≤6/\cE P w K mg base ia k f fd ps sp/\PySem.W.keepIn K (.ref f)=true/\Binds K fd ps []:=by
 rintro f sp ⟨z,rfl,rfl⟩
 cases z with
 |counts=>exact fK q p ⋯ λ_ _ _ _ h=>h
 |name=>exact fK y r ⋯ λ_ _ _ _ h=>h
 |gP=>exact fK t v ⋯ λ_ _ _ _ h=>h
 |number=>exact fK A s ⋯ λ_ _ _ _ h=>h
 |part=>exact fK d c ⋯ λ_ _ _ _ h=>h
 |plain=>exact fK u n ⋯ λ_ _ _ _ h=>h
 |eR=>exact fK j m ⋯ λ_ _ _ _ h=>h
 |plainN=>exact fK x e ⋯ λ_ _ _ _ h=>h
 |side=>exact fK l i ⋯ λ_ _ _ _ h=>h
 |snN=>exact fK o g ⋯ λ_ _ _ _ h=>h
 |truth=>exact fK b a ⋯ λ_ _ _ _ h=>h
def all_mk{l:PySem.W.OpenLaw}{w:World}{K:PySem.W.Frag}{h:Heap}{mg:Str->Option Value}{fa:Addr}(X:K.In h)(G:h.Ns mainGlobals mg)(hfa:mg "law"=some (.ref fa)){g:Tok}{d:Tok}{i:Tok}{n:Tok}(zb_all:PySem.W.nsIn K mainGlobals "all"=some none)(zb_bool:PySem.W.nsIn K mainGlobals "bool"=some none)(zb_dict:PySem.W.nsIn K mainGlobals "dict"=some none)(zb_enumerate:PySem.W.nsIn K mainGlobals "enumerate"=some none)(zb_int:PySem.W.nsIn K mainGlobals "int"=some none)(O:PySem.W.nsIn K mainGlobals "isinstance"=some none)(zb_len:PySem.W.nsIn K mainGlobals "len"=some none)(zb_list:PySem.W.nsIn K mainGlobals "list"=some none)(zb_max:PySem.W.nsIn K mainGlobals "max"=some none)(zb_range:PySem.W.nsIn K mainGlobals "range"=some none)(zb_set:PySem.W.nsIn K mainGlobals "set"=some none)(zb_sorted:PySem.W.nsIn K mainGlobals "sorted"=some none)(zb_str:PySem.W.nsIn K mainGlobals "str"=some none)(zb_sum:PySem.W.nsIn K mainGlobals "sum"=some none)(zb_tuple:PySem.W.nsIn K mainGlobals "tuple"=some none)(zb_zip:PySem.W.nsIn K mainGlobals "zip"=some none)(J:PySem.W.nsIn K mainGlobals "MOST_DIGITS"=some (some (.int 7 g)))(E:PySem.W.nsIn K mainGlobals "MOST_LETTERS"=some (some (.int 8 d)))(I:PySem.W.nsIn K mainGlobals "MOST_NUMBER"=some (some (.int 1000000 i)))(V:PySem.W.nsIn K mainGlobals "MOST_SIGNS"=some (some (.int 12 n)))(zt_LEAVES:PySem.W.nsIn K mainGlobals "LEAVES"=some (some (.ref cz)))(zt_MAIN:PySem.W.nsIn K mainGlobals "MAIN"=some (some (.ref eA)))(zt_WAYS:PySem.W.nsIn K mainGlobals "WAYS"=some (some (.ref eh)))(zt_WHERES:PySem.W.nsIn K mainGlobals "WHERES"=some (some (.ref cG)))(zt_FORMS:PySem.W.nsIn K mainGlobals "FORMS"=some (some (.ref dn)))(zt_READERS:PySem.W.nsIn K mainGlobals "READERS"=some (some (.ref bZ)))(za_is_counts:PySem.W.nsIn K mainGlobals "is_counts"=some (some (.ref dj)))(z:PySem.W.nsIn K mainGlobals "is_deed_number"=some (some (.ref bu)))(za_is_hand:PySem.W.nsIn K mainGlobals "is_hand"=some (some (.ref eG)))(za_is_leave:PySem.W.nsIn K mainGlobals "is_leave"=some (some (.ref dJ)))(r:PySem.W.nsIn K mainGlobals "is_line_or_none"=some (some (.ref bL)))(za_is_name:PySem.W.nsIn K mainGlobals "is_name"=some (some (.ref b0)))(za_is_part:PySem.W.nsIn K mainGlobals "is_part"=some (some (.ref a')))(A:PySem.W.nsIn K mainGlobals "is_plain_word"=some (some (.ref aY)))(za_is_side:PySem.W.nsIn K mainGlobals "is_side"=some (some (.ref cq)))(b:PySem.W.nsIn K mainGlobals "is_sign_name_or_none"=some (some (.ref a_)))(B:PySem.W.nsIn K mainGlobals "is_sign_names"=some (some (.ref bV)))(za_is_signs:PySem.W.nsIn K mainGlobals "is_signs"=some (some (.ref dE)))(za_is_truth:PySem.W.nsIn K mainGlobals "is_truth"=some (some (.ref dN)))(za_is_way:PySem.W.nsIn K mainGlobals "is_way"=some (some (.ref fc)))(m:PySem.W.nsIn K mainGlobals "is_word_or_empty"=some (some (.ref bF)))(q:PySem.W.nsIn K mainGlobals "is_word_or_none"=some (some (.ref bM)))(H:PySem.W.nsIn K mainGlobals "read_counts"=some (some (.ref cu)))(Z:PySem.W.nsIn K mainGlobals "read_name"=some (some (.ref bD)))(j:PySem.W.nsIn K mainGlobals "read_name_or_none"=some (some (.ref bq)))(F:PySem.W.nsIn K mainGlobals "read_number"=some (some (.ref bT)))(za_read_part:PySem.W.nsIn K mainGlobals "read_part"=some (some (.ref aR)))(Y:PySem.W.nsIn K mainGlobals "read_plain"=some (some (.ref aX)))(c:PySem.W.nsIn K mainGlobals "read_plain_or_empty"=some (some (.ref be)))(f:PySem.W.nsIn K mainGlobals "read_plain_or_none"=some (some (.ref bf)))(za_read_side:PySem.W.nsIn K mainGlobals "read_side"=some (some (.ref bO)))(a:PySem.W.nsIn K mainGlobals "read_sign_name_or_none"=some (some (.ref aW)))(M:PySem.W.nsIn K mainGlobals "read_truth"=some (some (.ref cO)))(zm_FORMS:L2.MD w K dn cY)(zm_READERS:L2.MD w K bZ bX)(zg_Folk:PySem.W.nsIn K mainGlobals "Folk"=some (some (.ref ak)))(zk_Folk:CX K ak)(S:PySem.W.findIn K (.ref ak) "hands"=some none)(D:PySem.W.findIn K (.ref ak) "heights"=some none)(u:PySem.W.findIn K (.ref ak) "kept_book"=some none)(N:PySem.W.findIn K (.ref ak) "seats"=some none)(k:PySem.W.findIn K (.ref ak) "sorted_names"=some none)(zn_Folk_told:PySem.W.findIn K (.ref ak) "told"=some none)(z_fCz:FX K "is_word" pb)(z_fBc:FX K "is_tuple_of" qV)(z_fCh:FX K "is_number" nr)(z_fCg:FX K "is_one_of" mO)(z_fDh:FX K "is_main" pw)(z_fBg:FX K "is_any_name" mQ)(z_fCy:FX K "is_sign" m4)(z_fDc:FX K "name_of" qR)(z_fDd:FX K "is_hand" o8)(z_fDg:FX K "is_name" oX)(z_fDe:FX K "is_part" mV)(z_fAl:FX K "is_line_or_none" oU)(z_fAx:FX K "is_sign_name" mT)(z_fAb:FX K "is_sign_name_or_none" o9)(z_fDf:FX K "is_side" oZ)(z_fAk:FX K "is_sign_of_roll" nJ)(z_fCs:FX K "is_signs" lL)(z_fAv:FX K "is_sign_names" lB)(z_fAs:FX K "is_plain_word" nF)(z_fAm:FX K "is_word_or_none" pZ)(z_fAj:FX K "is_word_or_empty" qX)(z_fDi:FX K "is_way" oE)(z_fCv:FX K "is_leave" oC)(z_fCr:FX K "is_truth" pk)(z_fAr:FX K "is_deed_number" ox)(z_fCn:FX K "is_counts" p8)(z_fDa:FX K "is_what" lz)(z_fCj:FX K "is_branch" rg)(z_fDb:FX K "is_deed" mU)(z_fBt:FX K "shown_name" qM)(z_fAw:FX K "shown_counts" oK)(z_fAy:FX K "shown_branch" p')(z_fBr:FX K "shown_side" qS)(z_fBv:FX K "shown_sign" oq)(z_fBp:FX K "shown_text" mM)(z_fBf:FX K "shown_thing" nk)(z_fCx:FX K "words_of" nE)(z_fBk:FX K "shown_deed" oB)(z_fBd:FX K "read_number" og)(z_fBn:FX K "read_plain" nh)(z_fBy:FX K "read_name" pT)(z_fCl:FX K "read_part" mL)(z_fAh:FX K "read_name_or_none" qP)(z_fAp:FX K "read_sign_name" nQ)(z_fAa:FX K "read_sign_name_or_none" qW)(z_fCp:FX K "read_side" mR)(z_fCo:FX K "read_sign" pY)(z_fAe:FX K "read_plain_or_none" n')(z_fAc:FX K "read_plain_or_empty" pE)(z_fBl:FX K "read_truth" qL)(z_fBh:FX K "read_counts" pQ)(z_fBa:FX K "read_branch" n6)(z_fBe:FX K "read_listed" nA)(z_fCc:FX K "read_what" oa)(z_fBw:FX K "read_deed" mW)(z_fCw:FX K "by_names" pJ)(z_fBu:FX K "last_heard" oM)(z_fAi:FX K "had_heard_as_much" oz)(z_fBq:FX K "check_past" oh)(z_fAq:FX K "how_many_heard" ou)(z_fBi:FX K "heights_of" lI)(z_fCu:FX K "seats_of" nB)(z_fBo:FX K "_law_draws" oI)(z_fBx:FX K "_law_word" nH)(z_fCm:FX K "_law_roll" oF)(z_fBz:FX K "_law_name" pP)(z_fCe:FX K "_law_part" p6)(z_fAo:FX K "_law_sign_name" p4)(z_fCf:FX K "_law_side" pM)(z_fCa:FX K "_law_sign" n4)(z_fBm:FX K "_law_signs" lJ)(z_fAn:FX K "_law_sign_names" ri)(z_fAd:FX K "_law_what_of_signs" oA)(z_fAf:FX K "_law_what_of_marks" nY)(z_fCb:FX K "_law_what" qK)(z_fAz:FX K "_law_branch" mZ)(z_fBj:FX K "_law_house" iD)(z_fCd:FX K "_law_told" pL)(z_fAu:FX K "_law_mixed_up" m_)(z_fDj:FX K "law" fm)(z_fAt:MX K ak "__init__" "Folk.__init__" false oG)(z_fCk:MX K ak "roll" "Folk.roll" false nU)(z_fBs:MX K ak "names" "Folk.names" false pK)(z_fBb:MX K ak "counts" "Folk.counts" false lQ)(z_fCq:MX K ak "deed" "Folk.deed" false oY)(z_fCt:MX K ak "key" "Folk.key" true lH)(z_fCi:MX K ak "past" "Folk.past" false pW)(z_fAg:MX K ak "names_within" "Folk.names_within" false km) :
  ∃fd:FuncData,(∀(s:Shared) (v:Value),BindsTo s fd {[v],[]} [("_law_script",v)])/\∀base:Heap,K.In base->base.Ns mainGlobals mg->(∀t∈([]:List Str),base.BuiltinsAt mg (nS K t))->cE l.prog w K mg base ia 10 fa fd ["_law_script"] i9:=by
 have T:Txt K mg (λx=>if x = "MOST_DIGITS" then g else if x = "MOST_LETTERS" then d else if x = "MOST_NUMBER" then i else if x = "MOST_SIGNS" then n else 0):={PySem.W.mg_none_of X G zb_all,PySem.W.mg_none_of X G zb_bool,PySem.W.mg_none_of X G zb_dict,PySem.W.mg_none_of X G zb_enumerate,PySem.W.mg_none_of X G zb_int,PySem.W.mg_none_of X G O,PySem.W.mg_none_of X G zb_len,PySem.W.mg_none_of X G zb_list,PySem.W.mg_none_of X G zb_max,PySem.W.mg_none_of X G zb_range,PySem.W.mg_none_of X G zb_set,PySem.W.mg_none_of X G zb_sorted,PySem.W.mg_none_of X G zb_str,PySem.W.mg_none_of X G zb_sum,PySem.W.mg_none_of X G zb_tuple,PySem.W.mg_none_of X G zb_zip,PySem.W.mg_of X G J,PySem.W.mg_of X G E,PySem.W.mg_of X G I,PySem.W.mg_of X G V,PySem.W.mg_of X G zt_LEAVES,PySem.W.mg_of X G zt_MAIN,PySem.W.mg_of X G zt_WAYS,PySem.W.mg_of X G zt_WHERES,PySem.W.mg_of X G zt_FORMS,PySem.W.mg_of X G zt_READERS,PySem.W.mg_of X G zg_Folk,zk_Folk.out.1,zk_Folk.out.2,S,D,u,N,k,zn_Folk_told};obtain @⟨_,_,an,_,_,kV,dc,pm,cd,ct,z1,z2,z3,z4⟩:=z_fDj;have e:=hfa.symm.trans (PySem.W.mg_of X G z1);cases e;refine{PySem.W.fnOf "law" "law" (cV fm) (bW fm) (aa fm) .none kV dc pm an cd ct,λs v=>.of_eq rfl,λbase _ _ hBs=>?_};have o:=DH l.prog w base T (z_fCz.fo X G);have p:=xX l.prog w base T (z_fBc.fo X G);have R:=zX l.prog w base T (z_fCh.fo X G);have C:=Eh l.prog w base T (z_fCg.fo X G);have r_fDc:=B2 l.prog w base T (z_fDc.fo X G);have r_fCr:=AW l.prog w base T (z_fCr.fo X G);have r_fBt:=Bv l.prog w base T (z_fBt.fo X G);have r_fAw:=An l.prog w base T (z_fAw.fo X G);have r_fAy:=DS l.prog w base T (z_fAy.fo X G);have r_fBp:=CJ l.prog w base T (z_fBp.fo X G);have U:=Ad l.prog w base T (z_fBd.fo X G);have r_fBl:=D4 l.prog w base T (z_fBl.fo X G);have r_fBu:=xJ l.prog w base T (z_fBu.fo X G);have r_fAi:=z_ l.prog w base T (z_fAi.fo X G);have r_fAq:=EC l.prog w base T (z_fAq.fo X G);have r_fCu:=C4 l.prog w base T (z_fCu.fo X G);have r_fCk:=Bq l.prog w base T (z_fCk.mo ∅);have r_fBs:=BF l.prog w base T (z_fBs.mo ∅);have r_fBb:=xI l.prog w base T (z_fBb.mo ∅);have r_fCq:=BM l.prog w base T (z_fCq.mo ∅);have r_fCt:=Ef l.prog w base T (z_fCt.mo ∅);have r_fAg:=CK l.prog w base T (z_fAg.mo ∅);have r_fBo:=xx l.prog w base T (z_fBo.fo X G);have Q:=CM l.prog w base T (z_fBx.fo X G);have r_fBz:=xR l.prog w base T (z_fBz.fo X G);have r_fAu:=Ba l.prog w base T (z_fAu.fo X G);have r_fDh:=xZ l.prog w base T (z_fDh.fo X G) R C p;have r_fBg:=Bc l.prog w base T (z_fBg.fo X G) R p o;have r_fDd:=Ai l.prog w base T (z_fDd.fo X G) o;have r_fAs:=Ac l.prog w base T (z_fAs.fo X G) o;have r_fAm:=BB l.prog w base T (z_fAm.fo X G) o;have r_fAj:=xY l.prog w base T (z_fAj.fo X G) C o;have r_fDi:=wX l.prog w base T (z_fDi.fo X G) C;have r_fCv:=xK l.prog w base T (z_fCv.fo X G) C;have r_fAr:=DD l.prog w base T (z_fAr.fo X G) R;have r_fCn:=xE l.prog w base T (z_fCn.fo X G) R p;have r_fBr:=Am l.prog w base T (z_fBr.fo X G) r_fBt;have r_fBv:=CA l.prog w base T (z_fBv.fo X G) r_fBt;have y:=Dw l.prog w base T (z_fBn.fo X G) o;have r_fBh:=zY l.prog w base T (z_fBh.fo X G) U;have r_fCw:=B9 l.prog w base T (z_fCw.fo X G) r_fDc;have r_fBq:=D0 l.prog w base T (z_fBq.fo X G) r_fAi r_fBu r_fDc;have r_fCi:=CL l.prog w base T (z_fCi.mo ∅) r_fAg;have r_fCm:=EL l.prog w base T (z_fCm.fo X G) r_fBo Q;have r_fCe:=BX l.prog w base T (z_fCe.fo X G) r_fBz;have r_fAo:=E3 l.prog w base T (z_fAo.fo X G) r_fBz;have r_fAz:=CS l.prog w base T (z_fAz.fo X G) Q;have r_fCy:=D1 l.prog w base T (z_fCy.fo X G) r_fBg r_fDh C p o;have L:=AS l.prog w base T (z_fDg.fo X G) r_fBg;have r_fCj:=xk l.prog w base T (z_fCj.fo X G) r_fDd p o;have r_fBf:=Cu l.prog w base T (z_fBf.fo X G) r_fAw r_fBt r_fBr r_fBp;have r_fBy:=Dk l.prog w base T (z_fBy.fo X G) U y;have r_fAp:=DE l.prog w base T (z_fAp.fo X G) U y;have r_fAe:=EM l.prog w base T (z_fAe.fo X G) y;have r_fAc:=xj l.prog w base T (z_fAc.fo X G) y;have r_fBa:=Al l.prog w base T (z_fBa.fo X G) y;have r_fBi:=xb l.prog w base T (z_fBi.fo X G) r_fAq r_fBu r_fDc;have r_fCf:=B5 l.prog w base T (z_fCf.fo X G) r_fAo;have r_fCa:=Dt l.prog w base T (z_fCa.fo X G) r_fCe Q;have r_fAn:=EK l.prog w base T (z_fAn.fo X G) r_fAo;have r_fCd:=Dl l.prog w base T (z_fCd.fo X G) r_fBb r_fCq r_fCt r_fBs r_fCi r_fCk;have r_fDe:=ER l.prog w base T (z_fDe.fo X G) r_fDh L;have r_fAl:=Dp l.prog w base T (z_fAl.fo X G) L;have r_fAx:=DX l.prog w base T (z_fAx.fo X G) L R p;have r_fCx:=EI l.prog w base T (z_fCx.fo X G) r_fBt r_fBv r_fBf;have r_fCl:=wV l.prog w base T (z_fCl.fo X G) r_fBy;have r_fAh:=zM l.prog w base T (z_fAh.fo X G) r_fBy;have r_fAa:=xg l.prog w base T (z_fAa.fo X G) r_fAp;have r_fCp:=AB l.prog w base T (z_fCp.fo X G) r_fAp;have r_fAt:=Ae l.prog w base T (z_fAt.mo ∅) r_fCt r_fCw r_fBq r_fBi r_fCu;have r_fBm:=Cg l.prog w base T (z_fBm.fo X G) r_fCa;have r_fAf:=B8 l.prog w base T (z_fAf.fo X G) r_fBz r_fCe r_fCf Q;have r_fAb:=CZ l.prog w base T (z_fAb.fo X G) r_fAx;have r_fDf:=Ci l.prog w base T (z_fDf.fo X G) C r_fAx p;have r_fAk:=Ct l.prog w base T (z_fAk.fo X G) r_fDe r_fCy;have r_fAv:=wI l.prog w base T (z_fAv.fo X G) r_fAx;have r_fBk:=xT l.prog w base T (z_fBk.fo X G) r_fAy r_fAw r_fCx;have r_fCo:=y8 l.prog w base T (z_fCo.fo X G) r_fCl y;have r_fAd:=Bl l.prog w base T (z_fAd.fo X G) r_fBz r_fCe r_fAo r_fAn r_fBm;have r_fCs:=B_ l.prog w base T (z_fCs.fo X G) r_fAk;have r_fBe:=Er l.prog w base T (z_fBe.fo X G) r_fCo r_fAp;have r_fCb:=Ew l.prog w base T (z_fCb.fo X G) r_fCe r_fAf r_fAd Q;have r_fDa:=Bb l.prog w base T (z_fDa.fo X G) (zm_FORMS.Rq ∅ ∅) (Oh r_fCn r_fAr r_fDd r_fCv r_fAl L r_fDe r_fAs r_fDf r_fAb r_fAv r_fCs r_fCr r_fDi r_fAj r_fAm (PySem.W.mg_of X G za_is_counts) (PySem.W.mg_of X G z) (PySem.W.mg_of X G za_is_hand) (PySem.W.mg_of X G za_is_leave) (PySem.W.mg_of X G r) (PySem.W.mg_of X G za_is_name) (PySem.W.mg_of X G za_is_part) (PySem.W.mg_of X G A) (PySem.W.mg_of X G za_is_side) (PySem.W.mg_of X G b) (PySem.W.mg_of X G B) (PySem.W.mg_of X G za_is_signs) (PySem.W.mg_of X G za_is_truth) (PySem.W.mg_of X G za_is_way) (PySem.W.mg_of X G m) (PySem.W.mg_of X G q));have r_fCc:=ED l.prog w base T (z_fCc.fo X G) r_fBe (zm_READERS.Rq ∅ ∅) (QT r_fBh r_fBy r_fAh U r_fCl y r_fAc r_fAe r_fCp r_fAa r_fBl (PySem.W.mg_of X G H) (PySem.W.mg_of X G Z) (PySem.W.mg_of X G j) (PySem.W.mg_of X G F) (PySem.W.mg_of X G za_read_part) (PySem.W.mg_of X G Y) (PySem.W.mg_of X G c) (PySem.W.mg_of X G f) (PySem.W.mg_of X G za_read_side) (PySem.W.mg_of X G a) (PySem.W.mg_of X G M));have r_fBj:=zJ l.prog w base T (z_fBj.fo X G) r_fAz r_fBo r_fCm r_fCb;have r_fDb:=Co l.prog w base T (z_fDb.fo X G) r_fCj r_fCn L p r_fDa;have r_fBw:=AC l.prog w base T (z_fBw.fo X G) r_fDb r_fBa r_fBh U r_fCc;exact CT l.prog w base T (Ez (st:=fm) z2 z3 z4) r_fAt r_fBj r_fAu r_fCd r_fBw r_fBk
end My
end
namespace PySem.W.Fast
def tw3691606695158338560:=0
def tw6826705178881650176:=0
def tw12814961816718879520:=0
def tw6159273794783011616:=0
def tw1589296775053065024:=0
def tw3257126792408186017:=0
def tw9464618972271488225:=0
def tw12889853003389722881:=0
def tw16568604685924243873:=0
def tw13141617188794664417:=0
def tw14590769596737247713:=0
def tw16226259776541748801:=0
def tw4178944629227158145:=0
def tw17853333470231904961:=0
def tw3019233534160369345:=0
def tw16750016810704805665:=0
def tw17681943901158115233:=0
def tw18270837354788752353:=0
def tw10824789465228340418:=0
def tw14518979003784172034:=0
def tw11729620002676801186:=0
def tw13271973008984725154:=0
def tw8405797705279230658:=0
def tw2070629325998581474:=0
def tw18373762455840990978:=0
def tw219589257345055714:=0
def tw8648791037269158147:=0
def tw14444673880785153283:=0
def tw15495731547245854083:=0
def tw12173198308724012419:=0
def tw4613521610947144419:=0
def tw14485465813674192771:=0
def tw8038582542627046339:=0
def tw5913982632664103940:=0
def tw17867676947928812868:=0
def tw12678118224235199972:=0
def tw3989083862420339364:=0
def tw9415472068937108388:=0
def tw11439338631646638052:=0
def tw10971553095471644837:=0
def tw13040545725108817157:=0
def tw1069970192707152197:=0
def tw14372331763625915813:=0
def tw16725213606421936613:=0
def tw7551818498896880165:=0
def tw15756621424336453189:=0
def tw8032759051000507973:=0
def tw8503975604104949669:=0
def tw13538434589170298821:=0
def tw15324181635598210054:=0
def tw15243864513616822310:=0
def tw7805999319973426342:=0
def tw8272931180380066086:=0
def tw1804580094257827174:=0
def tw6226952342656158118:=0
def tw6413203888854923718:=0
def tw5535768797171108614:=0
def tw5599845129940051846:=0
def tw956780802431621127:=0
def tw4089420996291870919:=0
def tw2097624321719698759:=0
def tw11792763277866445415:=0
def tw6646710154451304199:=0
def tw15837528523862258599:=0
def tw13616591040965639688:=0
def tw3605177346859095912:=0
def tw14913993298348233672:=0
def tw9563227884626458729:=0
def tw1908192179945304201:=0
def tw10148489489651069065:=0
def tw4742653725828794537:=0
def tw13173086915956105290:=0
def tw16042043158624420266:=0
def tw9682552098710900170:=0
def tw15579570416007087626:=0
def tw11826182658985136714:=0
def tw3977618806726631146:=0
def tw6220122591784706986:=0
def tw7147195480271307083:=0
def tw8123051325672661419:=0
def tw2278114042235963819:=0
def tw11825252842136758699:=0
def tw5443765243576059403:=0
def tw6557446211034100299:=0
def tw17488088825165382315:=0
def tw17879591529964414699:=0
def tw5916907500348021547:=0
def tw6126879939446966123:=0
def tw4884171136655052844:=0
def tw4272444047114985548:=0
def tw14929376965632296204:=0
def tw18177887805925667244:=0
def tw4492224799489490572:=0
def tw7557970265642695372:=0
def tw7593303117112057708:=0
def tw16581819532380880876:=0
def tw17280817684801165325:=0
def tw6759983688467766509:=0
def tw9570611826949054797:=0
def tw9812570422138875245:=0
def tw10729961478517014189:=0
def tw12176005576806595501:=0
def tw12400224852287770541:=0
def tw1685616497173766093:=0
def tw4796838301116208077:=0
def tw4379470863895322734:=0
def tw10157169928659129518:=0
def tw4010358204832818382:=0
def tw13040107616425971054:=0
def tw9321103414748238254:=0
def tw13246914353904797230:=0
def tw12439436585688279662:=0
def tw8790871039040681934:=0
def tw8777664452256628686:=0
def tw11096072507597838318:=0
def tw10449578812839314479:=0
def tw16022547637253981487:=0
def tw5062509166602085711:=0
def tw15558011445723496847:=0
def tw13539356729264164431:=0
def tw5775473923668657743:=0
def tw7046938538680023791:=0
def tw8499520557483373327:=0
def tw11813406411446358927:=0
def tw10257946374575363055:=0
def tw5660340034722324528:=0
def tw11283805000688219248:=0
def tw11384544652949023856:=0
def tw7528290732041795920:=0
def tw4263800882375978320:=0
def tw15327817047478181616:=0
def tw1061043177759281904:=0
def tw12779467743291665136:=0
def tw15946716573545276208:=0
def tw6080836931012528:=0
def tw7752690439698860976:=0
def tw15205675661950841073:=0
def tw11663100916650908049:=0
def tw11430206404161369841:=0
def tw11470556966512193361:=0
def tw4624993001141617553:=0
def tw625227006986333137:=0
def tw12968649186548511762:=0
def tw16397685550186623058:=0
def tw5757079929267007762:=0
def tw7302999234952875730:=0
def tw11072662533852798898:=0
def tw14084174368033195059:=0
def tw6548828614743606355:=0
def tw12565204366733667443:=0
def tw219798481696385267:=0
def tw16915814772774264531:=0
def tw5007700082854474483:=0
def tw17750317761181885235:=0
def tw6447161593908288435:=0
def tw8837831524084650995:=0
def tw2573855662360730611:=0
def tw13931205962224857075:=0
def tw14519212265023371251:=0
def tw6853293012683212852:=0
def tw13042973104204208276:=0
def tw9049308522752998388:=0
def tw1701256145383887029:=0
def tw12035783934005559669:=0
def tw15909993921882882453:=0
def tw17162989290896386485:=0
def tw1070388340086792629:=0
def tw4415336834906487317:=0
def tw17043235077705182037:=0
def tw12086896878142566261:=0
def tw13379569324968880246:=0
def tw1243760641839012118:=0
def tw11918593025377587574:=0
def tw3765307647123298742:=0
def tw16862610054934878006:=0
def tw3152796249442534551:=0
def tw3910953291256612119:=0
def tw16788789627456571703:=0
def tw9222277764851634551:=0
def tw18192943838511179127:=0
def tw16657646896729557591:=0
def tw11288324968364088055:=0
def tw5646257300647133943:=0
def tw1559116524480944887:=0
def tw8483994699012589495:=0
def tw11360411364089901015:=0
def tw6910523559663198167:=0
def tw6407678450726008024:=0
def tw8113183201315103064:=0
def tw9446923729079237368:=0
def tw16987635797541954392:=0
def tw18313429528910053208:=0
def tw15934570378213461880:=0
def tw7375556015419073400:=0
def tw16048752577801979768:=0
def tw7523324898598608921:=0
def tw12603826080498458681:=0
def tw184974642651472121:=0
def tw7817660075737286169:=0
def tw3585857310340287385:=0
def tw9178592116412447994:=0
def tw16928733353160623578:=0
def tw2226020958342942234:=0
def tw13554454611629058586:=0
def tw16556068718519800442:=0
def tw7907797899534986874:=0
def tw14712377947684301626:=0
def tw1535604321311614842:=0
def tw16323705490503400314:=0
def tw6282493629905595611:=0
def tw9821835458105519323:=0
def tw4367892863817814555:=0
def tw1388661240993595163:=0
def tw16577108246706580379:=0
def tw17095238971197017051:=0
def tw16448785023765066844:=0
def tw8209420963340901724:=0
def tw1063868648292000284:=0
def tw3518895935249415708:=0
def tw16205707624154990204:=0
def tw15477751409792988828:=0
def tw7244588769074217916:=0
def tw8146761144376322205:=0
def tw3296156230047604061:=0
def tw10263781852013564413:=0
def tw8989796114453583453:=0
def tw4842303647482449533:=0
def tw17237066653038869245:=0
def tw2153040689152324413:=0
def tw14454157192568243069:=0
def tw11328659689089065150:=0
def tw13980451017778783422:=0
def tw17771899274978211262:=0
def tw6563370193970899742:=0
def tw6608494849984766814:=0
def tw10923837776824197054:=0
def tw2247403062896603134:=0
def tw11281378620329945215:=0
def tw11239561833504172159:=0
def tw6173506803914732735:=0
def tw14795730826067420383:=0
def tw1735909610298286463:=0
def tw6697795179618264543:=0
def tw13962205690613014111:=0
def tw11326297301948017247:=0
def tw7674990746997249663:=0
def tw14478448694897850143:=0
def tw13549243870413083519:=0
def tw3815140103766930367:=0
def tw964108279900615862:=0
end PySem.W.Fast
open PySem PySem.W PyProof.Rows
set_option maxRecDepth 100000 in
set_option maxHeartbeats 0 in
theorem PySem.Challenge.cw_pagefolk_k11_whole_sent_and_read_holds : PySem.Challenge.rw_pagefolk_k11_whole_sent_and_read.Holds := by
 w_on;o_law;k_head;(case hw=>w_witness2)
 k_fill
 refine L2.oR (l:=PySem.Challenge.rw_pagefolk_k11_whole_sent_and_read) (n:=63) (k:=10) (x:="_law_script") (CX:=L2.ia) (sp:=My.i9) (Ps:=[]) [] My.MS (fun _=>0) rfl (by decide) rfl ⟨rfl,by decide,by decide,rfl⟩ (fun w h Y=>PySem.W.kIn_of Y) (fun w h Y Q z=>nomatch z) (fun w Q z=>nomatch z) ?hnt ?hnl (fun w t z=>nomatch z) (fun w t z=>nomatch z) ?hms (by decide) ?F My.mz (fun _ _ _ _ z=>z)
 case hms=>(intro w;kernel_rfl)
 case hnt=>(intro w;kernel_rfl)
 case hnl=>(intro w;kernel_rfl)
 case F =>
  intro w mg fa h KX G hmg;refine' My.all_mk KX G hmg ?_ ?_ ?_ ?_ ?_ ?_ ?_ ?_ ?_ ?_ ?_ ?_ ?_ ?_ ?_ ?_ ?_ ?_ ?_ ?_ ?_ ?_ ?_ ?_ ?_ ?_ ?_ ?_ ?_ ?_ ?_ ?_ ?_ ?_ ?_ ?_ ?_ ?_ ?_ ?_ ?_ ?_ ?_ ?_ ?_ ?_ ?_ ?_ ?_ ?_ ?_ ?_ ?_ ?_ ?_ ?zg_Folk ?_ ?_ ?_ ?_ ?_ ?_ ?_ ?_ ?_ ?_ ?_ ?_ ?_ ?_ ?_ ?_ ?_ ?_ ?_ ?_ ?_ ?_ ?_ ?_ ?_ ?_ ?_ ?_ ?_ ?_ ?_ ?_ ?_ ?_ ?_ ?_ ?_ ?_ ?_ ?_ ?_ ?_ ?_ ?_ ?_ ?_ ?_ ?_ ?_ ?_ ?_ ?_ ?_ ?_ ?_ ?_ ?_ ?_ ?_ ?_ ?_ ?_ ?_ ?_ ?_ ?_ ?_ ?_ ?_ ?_ ?_ ?_ ?_ ?_ ?_ ?_ ?_ ?_ ?_ ?_ ?_ ?_ ?_ ?_ ?_ ?_ ?_ ?_ ?_ ?_ ?_ ?_ ?_ ?_ ?_
  (case zg_Folk=>k_is)
  all_goals try first|k_is|(refine' L2.FX.mk ?z1 ?z2 ?z3 ?z4;(case z1=>k_is);(case z2=>k_is);(case z3=>k_is);(case z4=>k_is))|(refine' L2.MD.mk ?z1 ?z2;(case z1=>k_is);(case z2=>kernel_rfl))|kernel_rfl|(refine' L2.CX.mk ?z1 ?z2 ?z3 ?z4 ?z5 ?z6;(case z1=>k_is);(case z2=>k_is);(case z3=>k_is);(case z4=>k_is);(case z5=>k_is);(case z6=>k_is))|(refine' L2.MX.mk ?z1 ?z2 ?z3 ?z4 ?z5 ?z6;(case z1=>k_is);(case z2=>k_is);(case z3=>k_is);(case z4=>k_is);(case z5=>k_is);(case z6=>first|exact(fun h=>absurd h qp)|exact(fun _=>⟨by kernel_rfl,by kernel_rfl⟩)))