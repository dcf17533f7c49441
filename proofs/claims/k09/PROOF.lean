import PyProof.Rows.All
import Wide.All
import OpenK.AllK
import Wide.FinOn
import Lean
import PyProof.EqAt
import PyProof.EqKinds
import PyProof.TupleCall
import KE.KSortTup
import KE.KDictOf
import PyProof.AttrMissHeap
import KE.KSortKey
import KE.KNestM
import KE.KLam
import KE.KEqDict
import KE.KBoundM
import KE.KSuperObj
import PyProof.StrCalls6
import PySem.Challenge.RW_pagefolk_k09_texts_of_no_deed
set_option Elab.async false
set_option linter.all false
set_option maxRecDepth 100000
section
local macro_rules|`(())=>`(by omega)
local macro_rules|`(∅)=>`(by decide +kernel)
local macro_rules|`(⋯)=>`(by decide)
local macro_rules(kind:=«term{}»)|`({})=>`(fun _ _ _ _ h=>by cases h;subst_vars;first|rfl|grind)
local macro_rules(kind:=«term{_}»)|`({$x,*})=>`(⟨$x,*⟩)
local macro_rules|`(↑$x)=>`(($x).heap.objs.size)
def qc:=@PySem.wpAny_bind
def qq:=@if_neg
def qs:=@decide_eq_true
def q0:=@if_pos
def qA:=@PySem.wpAny_pure
def qB:=@of_decide_eq_true
def qC:=@PySem.Heap.lt_size
def qD:=@Option.some.inj
def qE:=@PySem.Heap.get?_push_of_some
def qF:=@PySem.Heap.get?_push_size
def qG:=@PySem.wpAny_mono
def qH:=@PySem.wpAny_holding
def qI:=@PySem.wpAny_call_entry
def Y{b:Sort u}{a:b}:a=a:=rfl
def qf:=@List.length_map
def qg:=@Nat.le_trans
def qi:=@Nat.le_refl
def qj:=@Nat.le_of_lt
def qk:=@List.mem_map
def ql:=@List.mem_cons_of_mem
def qm:=@List.getElem?_eq_getElem
def qo:=@List.mem_cons_self
def qp:=@Nat.ne_of_lt
def qr:=@List.mem_cons
def qu:=@List.length_append
def qv:=@Bool.and_eq_true
def qw:=@List.map_cons
def qx:=@List.mem_of_getElem?
def ze:=@Nat.le_of_ble_eq_true
def zf:=@List.mem_append
def zg:=@Bool.false_ne_true
def zh:=@List.mem_singleton
def zi:=@List.length_cons
def zj:=@List.getElem?_map
def zk:=@List.all_eq_true
def zm:=@List.map_append
def zo:=@Nat.lt_of_lt_of_le
def zq:=@List.map_map
def zr:=@List.getElem?_eq_some_iff
def zt:=@Array.length_toList
def zu:=@Bool.true_and
def zv:=@Array.getElem?_eq_getElem
def zw:=@Bool.eq_false_iff
def zx:=@List.size_toArray
def zy:=@List.length_singleton
def wb:=@Nat.ne_of_gt
def we:=@List.mem_append_right
def wf:=@List.nodup_cons
def wg:=@List.cons_ne_nil
def wm:=@Array.toList_append
def wn:=@Nat.lt_irrefl
def wq:=@Nat.zero_le
def wu:=@Array.getElem?_toList
def ww:=@List.getD_eq_getElem?_getD
def wx:=@List.length_take
def wy:=@List.all_map
def wz:=@Bool.false_and
def w5:=@List.mem_range
def w6:=@List.replicate_succ
def va:=@List.take_length
def vd:=@List.take_add_one
def vf:=@Array.getElem?_eq_some_iff
def vg:=@List.length_drop
def vh:=@Nat.lt_trans
def vi:=@Nat.lt_succ_of_lt
def vj:=@List.mem_iff_getElem
def vk:=@List.getElem_mem
def vm:=@List.take_of_length_le
def vn:=@Bool.or_eq_true
def vo:=@List.filterMap_cons
def vp:=@List.mem_append_left
def vq:=@List.length_set
def vt:=@List.append_assoc
def vy:=@List.nodup_nil
def vz:=@Nat.lt_succ_self
def v0:=@Nat.lt_add_of_pos_right
def ya:=@Nat.add_lt_add_left
def yb:=@List.getElem?_set_ne
def yc:=@List.length_range
def yd:=@List.drop_zero
def ye:=@List.getElem_of_mem
def yf:=@Array.getD_eq_getD_getElem?
def yg:=@Bool.eq_iff_iff
def yh:=@List.append_nil
def yi:=@List.any_cons
def yj:=@List.flatten_cons
def yk:=@List.foldl_cons
def yl:=@List.getElem?_toArray
def ym:=@List.getElem?_append_left
def yn:=@Nat.mod_lt
def yo:=@Nat.succ_pos
def yq:=@List.getElem?_replicate
def yt:=@List.length_replicate
def yu:=@Option.map_eq_some_iff
def yv:=@Array.size_append
def yw:=@Nat.lt_add_right
def yx:=@Nat.le_add_right
def yy:=@Nat.zero_add
def yz:=@Nat.not_lt_zero
def y0:=@List.mem_of_find?_eq_some
def y7:=@List.map_congr_left
def y8:=@List.mem_filter
def ja:=@List.getElem?_set_self
def jb:=@List.mem_filterMap
def jc:=@List.filterMap_map
def jd:=@Nat.add_comm
def je:=@Bool.false_or
def jf:=@Option.map_some
def jg:=@List.length_nil
def jh:=@Nat.lt_of_le_of_lt
def ji:=@Nat.min_le_left
def jj:=@List.map_set
def jk:=@Nat.min_eq_left
def jm:=@List.mem_of_mem_drop
def jn:=@List.getElem?_cons_succ
def jo:=@Bool.or_true
def jp:=@Nat.add_sub_cancel
def jq:=@Option.bind_eq_some_iff
def jr:=@List.eq_of_mem_replicate
def js:=@List.find?_map
def jt:=@Option.map_map
def ju:=@List.of_mem_zip
def jv:=@Option.isSome_iff_exists
def jw:=@Nat.mul_comm
def jx:=@Nat.le_of_not_lt
def jy:=@Nat.le_succ
def jz:=@List.lookup_cons
def j1:=@List.any_eq_true
def j2:=@Array.forIn_toList
def j3:=@List.find?_cons
def j4:=@List.getElem?_append_right
def j5:=@List.map_drop
def j6:=@Nat.add_zero
def j7:=@Nat.add_assoc
def j8:=@List.find?_some
def j9:=@List.range_succ
def ge:=@Bool.and_true
def gh:=@Option.getD_some
def gi:=@List.dropLast_concat_getLast
def gj:=@List.getLast_mem
def gl:=@Array.append_assoc
def gm:=@Option.isSome_map
def gq:=@List.length_filterMap_le
def gr:=@List.filterMap_append
def gs:=@List.getElem_toArray
def gu:=@List.getElem?_range
def gv:=@List.mem_or_eq_of_mem_set
def gw:=@List.mem_of_mem_take
def gx:=@List.find?_eq_none
def ka:=@Array.getElem?_eq_none
def kb:=@List.perm_append_singleton
def kc:=@List.filterMap_cons_some
def ke:=@Nat.length_repr_le_iff
def kf:=@List.drop_succ_cons
def kg:=@Nat.lt_trichotomy
def kh:=@Nat.lt_of_le_of_ne
def kj:=@Array.getElem?_setIfInBounds
def km:=@List.ext_getElem?
def kr:=@Array.toList_filterMap
def ku:=@List.take_append_drop
def ky:=@Nat.mul_le_mul_right
def kz:=@List.getElem?_eq_none
def me:=@List.flatMap_cons
def mf:=@Bool.beq_eq_decide_eq
namespace L2
open PySem PySem.Spec PyProof.Rows
def Tj{P:List Value->Prop}(h:P [])(u:List Value)(l:u.length=0):P u:=by
 cases u
 exact h
 cases l
def hJ{P:List Value->Prop}(h:∀a,P [a])(u:List Value)(l:u.length=1):P u:=by
 cases u
 cases l
 exact Tj (P:=λx=>P (_::x)) (h _) _ (Nat.succ.inj l)
def fF{P:List Value->Prop}(h:∀a b,P [a,b])(u:List Value)(l:u.length=2):P u:=by
 cases u
 cases l
 exact hJ (P:=λx=>P (_::x)) (h _) _ (Nat.succ.inj l)
def G1{P:List Value->Prop}(h:∀a b c,P [a,b,c])(u:List Value)(l:u.length=3):P u:=by
 cases u
 cases l
 exact fF (P:=λx=>P (_::x)) (h _) _ (Nat.succ.inj l)
abbrev Key:=Sum Int Str
def lD:Key->Value->Bool
 |.inl k,v=>Value.isInt k v
 |.inr x,v=>Value.isStrOf x v
def wN(w:World):Key->Int
 |.inl k=>hashInt k
 |.inr x=>hashStr w x
def l5:∀{k:Key} {v:Value},lD k v=true->(∃i t,k=Sum.inl i/\v=Value.int i t)\/(∃x t,k=Sum.inr x/\v=Value.str x t)
 |.inl i,v,h=>by
  obtain⟨t,e⟩:=Value.isInt_shape (k:=i) (v:=v) h;exact .inl {i,t,Y,e}
 |.inr x,v,h=>by
  obtain⟨t,e⟩:=Value.isStrOf_shape (x:=x) (v:=v) h;exact .inr {x,t,Y,e}
def NU(i:Int)(t:Tok):lD (.inl i) (.int i t)=true:=by simp[lD,Value.isInt]
def B8(x:Str)(t:Tok):lD (.inr x) (.str x t)=true:=by simp[lD,Value.isStrOf]
def Ab(a b:Int):decide ((Sum.inl a:Key)=Sum.inl b)=(a==b):=by
 by_cases e:a=b
 ·subst e;simp
 ·have h:¬(Sum.inl a:Key)=Sum.inl b:=λq=>e (Sum.inl.inj q)
  rw[decide_eq_false h];exact(beq_eq_false_iff_ne.mpr e).symm
def CC(a b:Str):decide ((Sum.inr a:Key)=Sum.inr b)=decide (a=b):=by
 by_cases e:a=b
 ·subst e;simp
 ·have h:¬(Sum.inr a:Key)=Sum.inr b:=λq=>e (Sum.inr.inj q)
  rw[decide_eq_false h,decide_eq_false e]
def GF(a:Int)(b:Str):decide ((Sum.inl a:Key)=Sum.inr b)=false:=decide_eq_false (λq=>nomatch q)
def AM(a:Str)(b:Int):decide ((Sum.inr a:Key)=Sum.inl b)=false:=decide_eq_false (λq=>nomatch q)
def ay(prog:Program)(w:World):PySem.KeyKind prog w Key where
 is:=lD
 hash:=wN w
 inj:=λv a b f d=>by
  rcases l5 f with⟨i,t,rfl,rfl⟩|⟨x,t,rfl,rfl⟩
  ·rcases l5 d with⟨j,u,rfl,e⟩|⟨y,u,rfl,e⟩
   ·injection e with e1 _;rw[e1]
   ·exact nomatch e
  ·rcases l5 d with⟨j,u,rfl,e⟩|⟨y,u,rfl,e⟩
   ·exact nomatch e
   ·injection e with e1 _;rw[e1]
 byValue:=λk v h=>by
  rcases l5 h with⟨i,t,rfl,rfl⟩|⟨x,t,rfl,rfl⟩ <;> rfl
 pyHash:=λc h=>by
  rcases l5 c with⟨i,t,rfl,rfl⟩|⟨x,t,rfl,rfl⟩
  ·exact wpAny_pyHash_int h
  ·exact wpAny_pyHash_str h
 eqBool:=λg c h=>by
  rcases l5 g with⟨i,t,rfl,rfl⟩|⟨x,t,rfl,rfl⟩
  ·rcases l5 c with⟨j,u,rfl,rfl⟩|⟨y,u,rfl,rfl⟩
   ·rw[Ab]at h;exact wpAny_eqBool_int h
   ·rw[GF]at h;exact SeqAt.EqAt.int_str i t y u _ _ _ _ h
  ·rcases l5 c with⟨j,u,rfl,rfl⟩|⟨y,u,rfl,rfl⟩
   ·rw[AM]at h;exact SeqAt.EqAt.str_int x t j u _ _ _ _ h
   ·rw[CC]at h;exact wpAny_eqBool_str h
 «strs»:=λk x t v h=>by
  rcases l5 h with⟨i,u,rfl,e⟩|⟨y,u,rfl,e⟩
  ·exact nomatch e
  ·injection e with e1 _
   subst e1;cases v <;> rfl
def O9(prog:Program)(w:World)(i:Int)(t:Tok):(ay prog w).is (.inl i) (.int i t)=true:=NU i t
def PN(prog:Program)(w:World)(x:Str)(t:Tok):(ay prog w).is (.inr x) (.str x t)=true:=B8 x t
inductive V where
 |a'|bl (b:Bool)|int (i:Int)|str (x:Str)|rX (b:Array UInt8)|GV (b:UInt64)|ref (a:Addr)|ty (n:String)
 deriving DecidableEq
def RelV:V->Value->Prop
 |.a',u=>u=Value.none
 |.bl b,u=>u=Value.bool b
 |.int i,u=>∃t,u=Value.int i t
 |.str x,u=>∃t,u=Value.str x t
 |.rX b,u=>∃t,u=Value.bytes b t
 |.GV b,u=>∃t,u=Value.float b t
 |.ref a,u=>u=Value.ref a
 |.ty n,u=>u=Value.type n
abbrev aF:List V->List Value->Prop:=Paired RelV
theorem aF.length(r:aF xs a):xs.length=a.length:=Paired.length r
theorem aF.get:∀{xs:List V} {a:List Value} {i:Nat} {x:V},aF xs a->xs[i]?=some x->∃u,a[i]?=some u/\RelV x u
 |_,_,_,_,.nil,e=>by simp at e
 |_,_,0,_,.cons r _,e=>by simp at e;subst e;exact{_,Y,r}
 |_,_,i+1,x,.cons _ t,e=>by
  obtain⟨u,h1,h2⟩:=aF.get (i:=i) (x:=x) t (by simpa using e);exact{u,by simpa using h1,h2}
theorem aF.set(r:RelV x u):∀{xs:List V} {a:List Value} (i:Nat),aF xs a->aF (xs.set i x) (a.set i u)
 |_,_,_,.nil=>.nil
 |_,_,0,.cons _ t=>.cons r t
 |_,_,i+1,.cons q t=>.cons q (aF.set r i t)
theorem aF.append:∀{xs ys:List V} {a ws:List Value},aF xs a->aF ys ws->aF (xs++ys) (a++ws)
 |_,_,_,_,.nil,s=>s
 |_,_,_,_,.cons r t,s=>.cons r (aF.append t s)
theorem aF.take:∀{xs:List V} {a:List Value} (n:Nat),aF xs a->aF (xs.take n) (a.take n)
 |_,_,0,_=>.nil
 |_,_,_+1,.nil=>.nil
 |_,_,n+1,.cons r t=>.cons r (aF.take n t)
theorem aF.drop:∀{xs:List V} {a:List Value} (n:Nat),aF xs a->aF (xs.drop n) (a.drop n)
 |_,_,0,r=>r
 |_,_,_+1,.nil=>.nil
 |_,_,n+1,.cons _ t=>aF.drop n t
def jV:Option V->Option Value->Prop
 |some v,some u=>RelV v u
 |none,none=>True
 |_,_=>False
def KV{κ:Type}:List (κ×V)->List (κ×Value)->Prop:=Paired λ(p:κ×V) (q:κ×Value)=>p.1=q.1/\RelV p.2 q.2
def kV:Key->V
 |.inl i=>.int i
 |.inr x=>.str x
inductive KD where
 |a'
 |int (i:Int)
 |tup (ks:List Key)
 |two (ks ls:List Key)
deriving DecidableEq
def IX(P:Program)(w:World):KD->Int
 |.a'=>4238894112
 |.int i=>hashInt i
 |.tup ks=>(tupleKind (ay P w)).hash ks
 |.two ks ls=>reduceHash (Builtin.Tuple.tupleHashOf [(tupleKind (ay P w)).hash ks,(tupleKind (ay P w)).hash ls])
def QB(P:Program)(w:World)(x:KD×Value×Value):DictEntry:={IX P w x.1,x.2.1,x.2.2}
inductive HO where
 |lst (xs:List V)
 |tup (xs:List V)
 |dK (kvs:List (Key×V))|dT (kvs:List (List Key×V))
 |dG (kvs:List (KD×V×V))
 |set (S:Int->Bool) (n:Nat)
 |ins (C dx:Addr) (fs:List (Str×V))
 |own (x:Addr)
 |xd (fs:List (Str×V))
 |met (f x:Addr)
 |Nv (lo hi:Int)
 |m_ (o:Obj) (u:HO)
 |mF (ps:Array Value)
 |ext (φ:Heap->Prop)
abbrev Hp:=Addr->Option HO
def GK(H:Hp):KD->V->Prop
 |.a',v=>v=.a'
 |.int i,v=>v=.int i
 |.tup ks,v=>∃b,v=.ref b/\H b=some (.tup (ks.map kV))
 |.two ks ls,v=>∃b c d,v=.ref b/\H b=some (.tup [.ref c,.ref d])/\H c=some (.tup (ks.map kV))/\H d=some (.tup (ls.map kV))
def upd(H:Hp)(a:Addr)(o:HO):Hp:=λb=>if b=a then some o else H b
def aN:upd H a o a=some o:=by unfold upd;rw[q0 rfl]
def aP(h:b≠a):upd H a o b=H b:=by unfold upd;rw[qq h]
def Kq{H:Hp}{a b:Addr}{o u:HO}(h:H a=some o)(h':H b=some u)(d:o≠u):a≠b:=by
 intro e;subst e;rw[h]at h';exact d (qD h')
def dg{H:Hp}{a b:Addr}{o:HO}(h:H a=some o)(h':H b=none):a≠b:=by
 intro e;subst e;rw[h]at h';cases h'
section
variable (P:Program)(w:World)
def ba(H:Hp)(h:Heap)(a:Addr):HO->Prop
 |.lst xs=>xs.length≤sizeLine/\∃(b:List Value) (n:Nat),aF xs b/\h.get? a=some { cls:=.type "list",data:=.seq b.toArray n }
 |.tup xs=>xs.length≤sizeLine/\∃b:List Value,aF xs b/\IsTup h a b.toArray
 |.dK kvs=>kvs.length≤sizeLine/\(a==sysModules)=false/\∃vs,KV kvs vs/\h.DictOf (ay P w) a vs
 |.dT kvs=>kvs.length≤sizeLine/\(a==sysModules)=false/\∃xs:List (List Key×Addr×Value),
   Paired (λ(p:List Key×V) (q:List Key×Addr×Value)=>p.1=q.1/\H q.2.1=some (.tup (p.1.map kV))/\RelV p.2 q.2.2) kvs xs ∧
   ∃o es d,h.get? a=some o/\o.ExactDict/\o.data=.dict es d/\es.toList=xs.map (entryOfKey (tupleKind (ay P w)))/\(xs.map (·.1)).Nodup
 |.dG kvs=>kvs.length≤sizeLine/\(a==sysModules)=false/\∃xs:List (KD×Value×Value),
   Paired (λ(p:KD×V×V) (q:KD×Value×Value)=>p.1=q.1/\GK H p.1 p.2.1/\RelV p.2.1 q.2.1/\RelV p.2.2 q.2.2) kvs xs ∧
   ∃o es d,h.get? a=some o/\o.ExactDict/\o.data=.dict es d/\es.toList=xs.map (QB P w)/\(xs.map (·.1)).Nodup
 |.set S n=>h.SetOf (intKind P w) a S n
 |.ins C dx fs=>H dx=some (.own a)/\fs.length≤1000/\dx≠a/\h.get? a=some (PySem.W.instObj C dx) ∧
   ∃c,h.Ns1 dx c/\(∀f,jV (fs.lookup f) (c f))/\PySem.Within c (fs.map (·.1))
 |.own _=>∃o,h.get? a=some o
 |.xd fs=>∃c,h.Ns1 a c/\∀f,jV (fs.lookup f) (c f)
 |.Nv lo hi=>∃t u v,h.get? a=some { cls:=.type "range",data:=.fields #[.int lo t,.int hi u,.int 1 v] }
 |.m_ o u=>h.get? a=some o/\ba H h a u
 |.mF ps=>h.get? a=some { cls:=.none,data:=.fields ps }
 |.met f x=>h.get? a=some (PySem.W.methodObj (.ref f) (.ref x))
 |.ext φ=>φ h/\(∃o,h.get? a=some o)/\∀h1 h2:Heap,φ h1->(∀o,h1.get? a=some o->h2.get? a=some o)->φ h2
def eV(H:Hp)(h:Heap):Prop:=∀a o,H a=some o->ba P w H h a o
end
section
variable {P:Program}{w:World}{H H':Hp}{h h':Heap}{a:Addr}{o:HO}
theorem ba.lt(x:ba P w H h a o):a<h.objs.size:=by
 cases o with
 |lst xs=>obtain⟨_,_,_,_,e⟩:=x;exact qC e
 |tup xs=>obtain⟨_,_,_,p⟩:=x;exact p.lt
 |dK kvs=>obtain⟨_,_,_,_,o,_,_,e,_⟩:=x;exact qC e
 |dT kvs=>obtain⟨_,_,_,_,o,_,_,e,_⟩:=x;exact qC e
 |dG kvs=>obtain⟨_,_,_,_,o,_,_,e,_⟩:=x;exact qC e
 |set S n=>obtain⟨o,_,_,_,e,_⟩:=x;exact qC e
 |ins C dx fs=>obtain⟨_,_,_,e,_⟩:=x;exact qC e
 |own y=>obtain⟨_,e⟩:=x;exact qC e
 |xd fs=>obtain⟨_,⟨_,_,_,e,_⟩,_⟩:=x;exact qC e
 |Nv lo hi=>obtain⟨_,_,_,e⟩:=x;exact qC e
 |m_ c u=>obtain⟨e,_⟩:=x;exact qC e
 |mF ps=>exact qC (show h.get? a=some _ from x)
 |met f y=>exact qC (show h.get? a=some _ from x)
 |ext b=>obtain⟨_,⟨_,e⟩,_⟩:=x;exact qC e
theorem Paired.vP{g e:Type}{F G:g->e->Prop}:∀{c:List g} {d:List e},Paired F c d->(∀a b,F a b->G a b)->Paired G c d
 |_,_,.nil,_=>.nil
 |_,_,.cons r t,f=>.cons (f _ _ r) (Paired.vP t f)
def GK.iR(g:GK H k v)(a:∀b xs,H b=some (.tup xs)->H' b=some (.tup xs)):GK H' k v:=by
 cases k with
 |a'=>exact g
 |int i=>exact g
 |tup ks=>obtain⟨b,e,h⟩:=g;exact{b,e,a _ _ h}
 |two ks j=>obtain⟨b,c,d,e,h1,h2,f⟩:=g;exact{b,c,d,e,a _ _ h1,a _ _ h2,a _ _ f}
theorem ba.iR(x:ba P w H h a o)(k:∀b u,(b=a\/H b=some (.own a))->h.get? b=some u->h'.get? b=some u)(D:∀b,H b=some (.own a)->H' b=some (.own a))(s:∀b xs,H b=some (.tup xs)->H' b=some (.tup xs)):ba P w H' h' a o:=by
 induction o with
 |lst xs=>obtain⟨z,j,n,r,e⟩:=x;exact{z,j,n,r,k _ _ (.inl rfl) e}
 |tup xs=>obtain⟨z,j,r,g,e,c⟩:=x;exact{z,j,r,g,k _ _ (.inl rfl) e,c}
 |dK kvs=>obtain⟨z,y,vs,r,g,es,i,e,c⟩:=x;exact{z,y,vs,r,g,es,i,k _ _ (.inl rfl) e,c}
 |dT kvs =>
  obtain⟨z,y,xs,r,g,es,i,e,c⟩:=x;exact{z,y,xs,Paired.vP r λp q z=>{z.1,s _ _ z.2.1,z.2.2},g,es,i,k _ _ (.inl rfl) e,c}
 |dG kvs =>
  obtain⟨z,y,xs,r,g,es,i,e,c⟩:=x;exact{z,y,xs,Paired.vP r λp q z=>{z.1,z.2.1.iR s,z.2.2},g,es,i,k _ _ (.inl rfl) e,c}
 |set S n=>obtain⟨g,es,i,t,e,c⟩:=x;exact{g,es,i,t,k _ _ (.inl rfl) e,c}
 |ins C dx fs =>
  obtain⟨d,z,ne,e,l,⟨m,es,i,A,c⟩,r⟩:=x;exact{D _ d,z,ne,k _ _ (.inl rfl) e,l,{m,es,i,k _ _ (.inr d) A,c},r}
 |own y=>obtain⟨g,e⟩:=x;exact{g,k _ _ (.inl rfl) e}
 |xd fs=>obtain⟨l,⟨m,es,i,e,c⟩,r⟩:=x;exact{l,{m,es,i,k _ _ (.inl rfl) e,c},r}
 |Nv lo hi=>obtain⟨t,u,v,e⟩:=x;exact{t,u,v,k _ _ (.inl rfl) e}
 |m_ g u B=>obtain⟨e,q⟩:=x;exact{k _ _ (.inl rfl) e,B q}
 |mF ps =>
  have e:h.get? a=some { cls:=.none,data:=.fields ps }:=x;show h'.get? a=some { cls:=.none,data:=.fields ps };exact k a _ (.inl rfl) e
 |met f y =>
  have e:h.get? a=some (PySem.W.methodObj (.ref f) (.ref y)):=x;show h'.get? a=some (PySem.W.methodObj (.ref f) (.ref y));exact k a _ (.inl rfl) e
 |ext E=>obtain⟨p,⟨o,e⟩,st⟩:=x;exact{st _ _ p λo q=>k _ _ (.inl rfl) q,{o,k _ _ (.inl rfl) e},st}
theorem eV.lt(x:eV P w H h)(e:H a=some o):a<h.objs.size:=(x a o e).lt
def eV.fresh(x:eV P w H h)(e:h.objs.size≤a):H a=none:=by
 cases q:H a with
 |none=>rfl
 |some u=>exact absurd (zo (x.lt q) e) (wn _)
def eV.kept(x:eV P w H h)(k:∀b u,h.get? b=some u->h'.get? b=some u):eV P w H h':=λa o e =>
 (x a o e).iR (λb u _ q=>k b u q) (λ_ q=>q) λ_ _ q=>q
def eV.laid(x:eV P w H h)(k:∀b u,h.get? b=some u->h'.get? b=some u)(g:h.objs.size≤a)(new:ba P w (upd H a o) h' a o):eV P w (upd H a o) h':=λb u e=>by
 have d:=x.fresh g
 by_cases f:b=a
 ·subst f;rw[aN]at e;cases e;exact new
 ·rw[aP f]at e
  exact(x b u e).iR (λc v _ q=>k c v q) (λc q=>by rw[aP (dg q d)];exact q) λc xs q=>by rw[aP (dg q d)];exact q
end
def Rd(H:Hp)(a:Addr)(u:HO):Prop:=H a=some u\/∃o,H a=some (.m_ o u)
def Rd.ok(r:Rd H a u)(x:eV P w H h):ba P w H h a u:=by
 rcases r with r|⟨o,r⟩
 ·exact x a u r
 ·obtain⟨_,q⟩:=x a _ r
  exact q
def HG:Option HO->Prop
 |some (.lst _)=>True
 |some (.dK _)=>True
 |some (.dT _)=>True
 |some (.dG _)=>True
 |some (.set _ _)=>True
 |some (.ins _ _ _)=>True
 |some (.ext _)=>True
 |_=>False
section
variable {P:Program}{w:World}{H:Hp}{h h':Heap}{x e:Addr}{o':HO}
def eV.write(ok:eV P w H h)(j:HG (H x))(m:e=x\/H e=some (.own x))(k:∀b u,b≠e->h.get? b=some u->h'.get? b=some u)(l:∃u,h'.get? e=some u)(new:ba P w (upd H x o') h' x o'):eV P w (upd H x o') h':=λb u q=>by
 have d:∀c y,H c=some (.own y)->c≠x:=λc y r z=>by subst z;rw[r]at j;exact j
 have f:∀c xs,H c=some (.tup xs)->c≠x:=λc xs r z=>by subst z;rw[r]at j;exact j
 by_cases g:b=x
 ·subst g;rw[aN]at q;cases q;exact new
 ·rw[aP g]at q
  by_cases a:b=e
  ·have q':H b=some (.own x):=by
    rcases m with z|z
    ·exact absurd (a.trans z) g
    ·rw[a];exact z
   rw[q]at q';cases q';obtain⟨v,n⟩:=l;exact{v,by rw[a];exact n}
  ·refine(ok b u q).iR (λc v i r=>k c v ?_ r) (λc r=>by rw[aP (d c b r)];exact r) λc xs r=>by rw[aP (f c xs r)];exact r
   rcases i with rfl|i
   ·exact a
   ·rintro rfl
    rcases m with z|z
    ·exact d c b i z
    ·rw[i]at z;cases z;exact g rfl
end
structure Un(fs ex:List Addr)(H H':Hp)(h h':Heap):Prop where
 keep:∀b o,h.get? b=some o->H b=none->b∉fs->b∉ex->h'.get? b=some o
 slot:∀b o,h.get? b=some o->H b=none->b∈fs->b∉ex->∃sl,h'.get? b=some { o with slots:=sl }
 free:∀b o,h.get? b=some o->H b=none->b∉ex->H' b=none
 there:∀b o,h.get? b=some o->b∉ex->∃o',h'.get? b=some o'
 dZ:∀b xs,H b=some (.tup xs)->H' b=some (.tup xs)
 fe:∀b o u,H b=some (.m_ o u)->H' b=some (.m_ o u)
 ff:∀b ps,H b=some (.mF ps)->∃more,H' b=some (.mF (ps++more))
 eP:∀b o xs,h.get? b=some o->H b=some (.tup xs)->h'.get? b=some o
section
variable {fs fs' ex ex':List Addr}{H H1 H2:Hp}{h h1 h2 h':Heap}{a x e:Addr}{o:HO}
def Un.any(u:Un fs ex H H1 h h1){b:Addr}{a:Obj}(q:h.get? b=some a)(n:H b=none)(c:b∉ex):∃e,h1.get? b=some { a with slots:=e }:=by
 by_cases d:b∈fs
 ·exact u.slot b a q n d c
 ·exact{a.slots,u.keep b a q n d c}
def Un.trans(a:Un fs ex H H1 h h1)(b:Un fs ex H1 H2 h1 h2):Un fs ex H H2 h h2 where
 keep:=λc d q n g e=>b.keep c d (a.keep c d q n g e) (a.free c d q n e) g e
 slot:=λc d q n g e=>by
  obtain⟨m,f⟩:=a.slot c d q n g e;obtain⟨j,i⟩:=b.slot c _ f (a.free c d q n e) g e;exact{j,i}
 free:=λc d q n e=>by
  obtain⟨o',f⟩:=a.there c d q e;exact b.free c o' f (a.free c d q n e) e
 there:=λc d q e=>by
  obtain⟨o',f⟩:=a.there c d q e;exact b.there c o' f e
 dZ:=λc xs q=>b.dZ c xs (a.dZ c xs q)
 fe:=λc d xs q=>b.fe c d xs (a.fe c d xs q)
 ff:=λc ps q=>by
  obtain⟨k,f⟩:=a.ff c ps q;obtain⟨l,i⟩:=b.ff c _ f;exact{k++l,by rw[i,gl]}
 eP:=λc d xs q n=>b.eP c d xs (a.eP c d xs q n) (a.dZ c xs n)
def Un.kept(k:∀b u,h.get? b=some u->h'.get? b=some u):Un fs ex H H h h' :=
 {λb a q _ _ _=>k b a q,λb a q _ _ _=>{a.slots,k b a q},λ_ _ _ n _=>n,λb a q _=>{a,k b a q},λ_ _ q=>q,λ_ _ _ q=>q,λ_ ps q=>{#[],by rw[q];simp},λb a _ q _=>k b a q}
def Un.refl:Un fs ex H H h h:=Un.kept λ_ _ q=>q
def Un.laid(k:∀b u,h.get? b=some u->h'.get? b=some u)(d:h.objs.size≤a)(c:H a=none):Un fs ex H (upd H a o) h h' where
 keep:=λb u q _ _ _=>k b u q
 slot:=λb u q _ _ _=>{u.slots,k b u q}
 free:=λb u q n _=>by rw[aP (qp (zo (qC q) d))];exact n
 there:=λb u q _=>{u,k b u q}
 dZ:=λb xs q=>by rw[aP (dg q c)];exact q
 fe:=λb u xs q=>by rw[aP (dg q c)];exact q
 ff:=λb ps q=>{#[],by rw[aP (dg q c),q];simp}
 eP:=λb u _ q _=>k b u q
def Un.write(c:HG (H x))(g:e=x\/H e=some (.own x))(k:∀b u,b≠e->h.get? b=some u->h'.get? b=some u)(d:∃u,h'.get? e=some u):Un fs ex H (upd H x o) h h':=by
 have i:∀b,H b=none->b≠x:=λb n z=>by subst z;rw[n]at c;exact c
 have f:∀b,H b=none->b≠e:=λb n z=>by
  subst z;rcases g with r|r
  ·exact i b n r
  ·rw[n]at r;cases r
 have hm:∀b u,H b=some u->¬HG (some u)->b≠x:=λb u q nm z=>by subst z;rw[q]at c;exact nm c
 refine{λb u q n _ _=>k b u (f b n) q,λb u q n _ _=>{u.slots,k b u (f b n) q},λb u q n _=>by rw[aP (i b n)];exact n,λb u q _=>?_,
  λb xs q=>by rw[aP (hm b _ q λz=>z)];exact q,λb u xs q=>by rw[aP (hm b _ q λz=>z)];exact q,λb ps q=>{#[],by rw[aP (hm b _ q λz=>z),q];simp},λb u xs q n=>k b u (λz=>by
   subst z;rcases g with r|r
   ·exact hm b _ n (λz=>z) r
   ·rw[n]at r;cases r) q}
 by_cases a:b=e
 ·subst a;exact d
 ·exact{u,k b u a q}
def Un.mono(u:Un fs ex H H1 h h1)(hs:∀b∈fs,b∈fs')(d:∀b∈ex,b∈ex'):Un fs' ex' H H1 h h1 :=
 {λb c q n e a=>u.keep b c q n (λz=>e (hs b z)) λz=>a (d b z),λ_ _ q n _ a=>u.any q n λz=>a (d _ z),λb c q n a=>u.free b c q n λz=>a (d b z),λb c q a=>u.there b c q λz=>a (d b z),u.dZ,u.fe,u.ff,u.eP}
end
def Np(h:Heap)(H:Hp):List Addr:=(List.range h.objs.size).filter λa=>(H a).isSome
def kv(h:Heap)(H:Hp):Heap:=PySem.W.hideAll h (Np h H)
def Oo(h:Heap)(H:Hp):(kv h H).objs.size=h.objs.size:=PySem.W.hideAll_size _ _
def Pd(e:h.get? b=some o)(n:H b=none):(kv h H).get? b=some o :=
 PySem.W.hideAll_get _ e λhm=>by
  have q:(H b).isSome=true:=(y8.mp hm).2;rw[n]at q;simp at q
def Rj(e:(kv h H).get? b=some o):h.get? b=some o/\H b=none:=by
 have a:h.get? b=some o:=PySem.W.of_hideAll (Np h H) e;refine{a,?_}
 cases q:H b with
 |none=>rfl
 |some x =>
  have hm:b∈Np h H:=List.mem_filter.mpr {List.mem_range.mpr (qC a),by simp[q]};have z:(kv h H).get? b=none:=PySem.W.hideAll_none (Np h H) hm;rw[z]at e;cases e
structure Mod(K:PySem.W.Frag)(mg:Str->Option Value)(base:Heap):Prop where
 Eo:K.In base
 glob:base.Ns mainGlobals mg
 blt:∃mb,base.Ns builtinsNs mb/\∀x:Str,x≠"__name__"->mb x=bootBuiltins x
 nolimit:base.NoLimit
structure Cx where
 prog:Program
 w:World
 K:PySem.W.Frag
 mg:Str->Option Value
 base:Heap
 A:Around
 N:List Str
 s₀:Shared
 H₀:Hp
 env:Env
 outer:List Env
 stack:List Env
 ex:List Addr
 fn:Str->Bool
 calm:Bool
 pn:List (Addr×Obj)
 xe:Value->Shared->Prop
def eU(l:List Env):List Addr:=l.filterMap (·.frame)
abbrev Cx.fs(X:Cx):List Addr:=eU X.outer
def NG(sc:Scope)(x:Str):Prop:=sc.names.lookup x=some .local\/sc.names.lookup x=some .cell\/sc.names.lookup x=some .free
def Loc(sc:Scope)(x:Str):Prop:=sc.names.lookup x=some .local\/sc.names.lookup x=some .cell
def Look(env:Env)(h:Heap)(m:Str->Option Value)(x:Str)(u:Value):Prop :=
 (env.kindOf x=some .local/\m x=some u)\/((env.kindOf x=some .cell\/env.kindOf x=some .free)/\∃c,env.cells.lookup x=some c/\h.IsCell c (some u))
structure Cx.Ok(X:Cx):Prop where
 mod:Mod X.K X.mg X.base
 kind:X.env.scope.kind=.function
 glob:X.env.globals=mainGlobals
 blt:X.env.builtins=builtinsNs
 above:X.s₀.heap.objs.size≤X.env.locals
 inj:∀x y c,X.env.cells.lookup x=some c->X.env.cells.lookup y=some c->x=y
 has:∀x,(X.env.kindOf x=some .cell\/X.env.kindOf x=some .free)->∃c,X.env.cells.lookup x=some c
 Em:∀x c,X.fn x=true->X.env.cells.lookup x=some c->X.s₀.heap.objs.size≤c
 hd:X.calm=true->X.A.handled=none
 frames:X.A.frames=some X.stack
 Mn:X.stack=X.outer\/(X.stack=X.env::X.outer/\X.env.frame=some X.env.locals)
 OF:∀b∈X.ex,b≠X.env.locals/\∀x c,X.env.cells.lookup x=some c->c≠b
 bs:∀b o,X.base.get? b=some o->X.s₀.heap.get? b=some o/\(X.H₀ b=none\/∃xs,X.H₀ b=some (.tup xs))
 wU:X.base.objs.size≤X.s₀.heap.objs.size
 oM:∀b o,X.base.get? b=some o->b∉X.ex
 tN:∀b∈X.ex,b∉X.fs
 iL:X.s₀.heap.FunFrames X.base X.outer
 C4:∀b∈X.fs,X.H₀ b=none
structure Inv(X:Cx)(pins:List (Addr×Obj))(σ:List (Option V))(H:Hp)(s:Shared):Prop where
 ok:X.Ok
 os:s.os=X.s₀.os
 bare:AllBare s.gens
 base:Un X.fs X.ex X.H₀ H X.s₀.heap s.heap
 loc:∃m,s.heap.Ns X.env.locals m/\∀(i:Nat) (x:Str) (v:V),X.N[i]?=some x->σ[i]?=some (some v)->NG X.env.scope x->∃u,RelV v u/\Look X.env s.heap m x u
 cell:∀x c,X.env.cells.lookup x=some c->∃v,s.heap.IsCell c v
 free:H X.env.locals=none
 eY:∀x c,X.env.cells.lookup x=some c->H c=none
 pin:∀p∈X.pn++pins,s.heap.get? p.1=some p.2/\H p.1=none/\p.1≠X.env.locals/\p.1∉X.fs/\∀v,p.2.data≠.cell v
 bP:eV X.prog X.w H s.heap
 len:σ.length=X.N.length
section
variable {X:Cx}{pins:List (Addr×Obj)}{σ:List (Option V)}{H H':Hp}{s:Shared}{h':Heap}
def Cx.Ok.NY(ok:X.Ok)(e:X.base.get? b=some o):b∉X.fs:=λa=>by
 have:=(ok.iL.mem a).1;rw[e]at this;cases this
theorem Inv.bs(I:Inv X pins σ H s):∀b o,X.base.get? b=some o->s.heap.get? b=some o/\(H b=none\/∃xs,H b=some (.tup xs)):=λb o e =>
 match I.ok.bs b o e with
 |⟨h1,.inl h2⟩=>{I.base.keep b o h1 h2 (I.ok.NY e) (I.ok.oM b o e),.inl (I.base.free b o h1 h2 (I.ok.oM b o e))}
 |⟨h1,.inr ⟨xs,h2⟩⟩=>{I.base.eP b o xs h1 h2,.inr {xs,I.base.dZ b xs h2}}
def Inv.bk(I:Inv X pins σ H s):∀b o,X.base.get? b=some o->s.heap.get? b=some o:=λb o e=>(I.bs b o e).1
theorem Inv.mod(I:Inv X pins σ H s):Mod X.K X.mg X.base:=I.ok.mod
def Inv.jM(I:Inv X pins σ H s):X.K.In s.heap:=I.ok.mod.Eo.keeps I.bk
theorem Inv.lt(I:Inv X pins σ H s):X.env.locals<↑s:=let⟨_,a,_⟩:=I.loc;a.lt
def Inv.sz(I:Inv X pins σ H s):X.s₀.heap.objs.size≤↑s:=qg I.ok.above (qj I.lt)
def Inv.Lj(I:Inv X pins σ H s){a:Addr}(h:↑s≤a):a∉X.fs:=λb=>by
 obtain⟨_,o,c,_⟩:=I.ok.iL.mem b;exact absurd (zo (qC c) (qg I.sz h)) (wn _)
def Inv.uq(I:Inv X pins σ H s):∀x c,X.env.cells.lookup x=some c->c≠X.env.locals:=λx c e z=>by
 obtain⟨v,o,d,f⟩:=I.cell x c e;obtain⟨m,⟨o',es,g,a,b,_⟩,_⟩:=I.loc;rw[z,a]at d;cases d;rw[b]at f;cases f
theorem Inv.iL(I:Inv X pins σ H s):s.heap.FunFrames X.base X.outer:=by
 have all:∀(l:List Env),(∀b∈eU l,b∈X.fs)->X.s₀.heap.FunFrames X.base l->s.heap.FunFrames X.base l:=by
  intro l
  induction l with
  |nil=>intro _ _;trivial
  |cons env r g =>
   intro hs hl;obtain⟨h,⟨L,o,a,i,j,k⟩,f⟩:=hl;have d:L∈X.fs:=hs L (by unfold eU;rw[vo,a];exact qo);obtain⟨m,e⟩:=I.base.slot L o j (I.ok.C4 L d) d λz=>I.ok.tN L z d;exact{h,{L,_,a,i,e,k},g (λb c=>hs b (by unfold eU;rw[vo,a];exact ql _ c)) f}
 exact all X.outer (λ_ c=>c) I.ok.iL
theorem Inv.stack(I:Inv X pins σ H s):s.heap.FunFrames X.base X.stack:=by
 rcases I.ok.Mn with e|⟨e,hf⟩
 ·rw[e];exact I.iL
 ·rw[e]
  obtain⟨m,a,_⟩:=I.loc;refine .cons (by rw[I.ok.kind];decide) hf a ?_ I.iL;exact Heap.get?_none_of_le (qg I.ok.wU I.ok.above)
def Inv.l3(I:Inv X pins σ H s):∀b∈eU X.stack,b∈X.env.locals::X.fs:=λb a=>by
 rcases I.ok.Mn with e|⟨e,hf⟩
 ·rw[e]at a;exact ql _ a
 ·rw[e]at a
  unfold eU at a;rw[vo,hf]at a;exact a
def Inv.gQ(I:Inv X pins σ H s):∀b∈eU X.stack,H b=none:=λb a=>by
 rcases qr.mp (I.l3 b a) with e|a
 ·rw[e];exact I.free
 ·obtain⟨_,o,c,_⟩:=I.ok.iL.mem a
  exact I.base.free b o c (I.ok.C4 b a) λz=>I.ok.tN b z a
def Inv.step{g':Array GenState}{t':Nat}{d':Drawn}{ch:List Addr}(I:Inv X pins σ H s)(f:∀b∈ch,(b∈X.ex\/X.s₀.heap.objs.size≤b)/\b≠X.env.locals/\(∀x c,X.env.cells.lookup x=some c->c≠b)/\∀p∈X.pn++pins,p.1≠b)(keep:∀b o,b≠X.env.locals->b∉X.fs->b∉ch->s.heap.get? b=some o->H b=none->h'.get? b=some o)(slot:∀b o,b≠X.env.locals->b∈X.fs->b∉ch->s.heap.get? b=some o->H b=none->∃E,h'.get? b=some { o with slots:=E })(free:∀b o,b∉ch->s.heap.get? b=some o->H b=none->H' b=none)(there:∀b o,b∉ch->s.heap.get? b=some o->∃o',h'.get? b=some o')(dZ:∀b xs,H b=some (.tup xs)->H' b=some (.tup xs))(fe:∀b o u,H b=some (.m_ o u)->H' b=some (.m_ o u))(ff:∀b ps,H b=some (.mF ps)->∃C,H' b=some (.mF (ps++C)))(eP:∀b o xs,s.heap.get? b=some o->H b=some (.tup xs)->h'.get? b=some o)(N:∀m,s.heap.Ns X.env.locals m->h'.Ns X.env.locals m)(J:eV X.prog X.w H' h')(Q:AllBare g') :
  Inv X pins σ H' { s with heap:=h',gens:=g',drawn:=d',toks:=t' }:=by
 have B:∀b o,X.s₀.heap.get? b=some o->b≠X.env.locals:=λb o e=>qp (zo (qC e) I.ok.above)
 have j:∀b o,X.s₀.heap.get? b=some o->b∉X.ex->b∉ch:=λb o e a y=>by
  rcases(f b y).1 with z|z
  ·exact a z
  ·exact absurd (zo (qC e) z) (wn _)
 have h:∀x c,X.env.cells.lookup x=some c->∀v,s.heap.IsCell c v->h'.IsCell c v:=λx c e v ⟨o,A,G⟩=>by
  have g:c∉ch:=λz=>(f c z).2.2.1 x c e rfl
  by_cases M:c∈X.fs
  ·obtain⟨E,q⟩:=slot c o (I.uq x c e) M g A (I.eY x c e)
   exact{_,q,G}
  ·exact{o,keep c o (I.uq x c e) M g A (I.eY x c e),G}
 refine{I.ok,I.os,Q,{λb o e n y a=>?_,λb o e n y a=>?_,λb o e n a=>?_,λb o e a=>?_,λb xs e=>dZ b xs (I.base.dZ b xs e),λb o xs e=>fe b o xs (I.base.fe b o xs e),λb ps e=>?_,λb o xs e n=>eP b o xs (I.base.eP b o xs e n) (I.base.dZ b xs n)},?_,λx c e=>?_,?_,λx c e=>?_,λp K=>?_,J,I.len}
 ·exact keep b o (B b o e) y (j b o e a) (I.base.keep b o e n y a) (I.base.free b o e n a)
 ·obtain⟨E,t⟩:=I.base.slot b o e n y a
  obtain⟨F,D⟩:=slot b _ (B b o e) y (j b o e a) t (I.base.free b o e n a);exact{F,D}
 ·obtain⟨o',t⟩:=I.base.there b o e a
  exact free b o' (j b o e a) t (I.base.free b o e n a)
 ·obtain⟨o',t⟩:=I.base.there b o e a
  exact there b o' (j b o e a) t
 ·obtain⟨R,t⟩:=I.base.ff b ps e
  obtain⟨S,D⟩:=ff b _ t;exact{R++S,by rw[D,gl]}
 ·obtain⟨m,P,hl⟩:=I.loc
  refine{m,N m P,λi x v t D O=>?_};obtain⟨u,r,l⟩:=hl i x v t D O;refine{u,r,?_};rcases l with l|⟨k,c,e,z⟩
  ·exact .inl l
  ·exact .inr ⟨k,c,e,h x c e _ z⟩
 ·obtain⟨v,z⟩:=I.cell x c e
  exact{v,h x c e v z}
 ·obtain⟨m,⟨o,_,_,A,_⟩,_⟩:=I.loc
  exact free _ o (λz=>(f _ z).2.1 rfl) A I.free
 ·obtain⟨v,o,A,G⟩:=I.cell x c e
  exact free c o (λz=>(f c z).2.2.1 x c e rfl) A (I.eY x c e)
 ·obtain⟨e,n,ne,L,d⟩:=I.pin p K
  have g:p.1∉ch:=λz=>(f p.1 z).2.2.2 p K rfl;exact{keep p.1 p.2 ne L g e n,free p.1 p.2 g e n,ne,L,d}
def Inv.un(I:Inv X pins σ H s)(u:Un X.fs [] H H' s.heap h')(f:eV X.prog X.w H' h'):Inv X pins σ H' { s with heap:=h',toks:=t' }:=by
 obtain⟨m,⟨o,es,p,h,r⟩,_⟩:=id I.loc;obtain⟨l,i⟩:=u.any h I.free (by simp)
 exact I.step (g':=s.gens) (d':=s.drawn) (ch:=[]) (λ_ z=>nomatch z) (λb o _ c _ e n=>u.keep b o e n c (by simp)) (λb o _ c _ e n=>u.slot b o e n c (by simp)) (λb o _ e n=>u.free b o e n (by simp)) (λb o _ e=>u.there b o e (by simp)) u.dZ u.fe u.ff u.eP (λk hm=>by
  obtain⟨o',d,g,a,j⟩:=hm;rw[h]at a;cases a
  exact{_,d,g,i,j}) f I.bare
def Inv.call(I:Inv X pins σ H s)(u:Un (eU X.stack) ch H H' s.heap h')(h:eV X.prog X.w H' h')(q:AllBare g')(d:∀b∈ch,(b∈X.ex\/X.s₀.heap.objs.size≤b)/\b≠X.env.locals/\(∀x c,X.env.cells.lookup x=some c->c≠b)/\∀p∈X.pn++pins,p.1≠b) :
  Inv X pins σ H' { s with heap:=h',gens:=g',drawn:=d',toks:=t' }:=by
 obtain⟨m,⟨o,es,A,k,r⟩,_⟩:=id I.loc;obtain⟨y,i⟩:=u.any k I.free λz=>(d _ z).2.1 rfl
 exact I.step (ch:=ch) d (λb o i l a e n=>u.keep b o e n (λz=>(qr.mp (I.l3 b z)).elim i l) a) (λb o _ _ a e n=>u.any e n a) (λb o a e n=>u.free b o e n a) (λb o a e=>u.there b o e a) u.dZ u.fe u.ff u.eP (λv hm=>by
  obtain⟨o',g,j,f,t⟩:=hm;rw[k]at f;cases f
  exact{_,g,j,i,t}) h q
def Inv.turned(I:Inv X pins σ H s)(k:∀b o,b≠it->s.heap.get? b=some o->h'.get? b=some o)(h:H it=none)(f:it≠X.env.locals)(h1:it∈X.ex\/X.s₀.heap.objs.size≤it)(h2:∀x c,X.env.cells.lookup x=some c->c≠it)(i:∀p∈X.pn++pins,p.1≠it):Inv X pins σ H { s with heap:=h',toks:=t' }:=by
 have d:∀b u,H b=some u->b≠it:=λb u e z=>by rw[z,h]at e;cases e
 refine I.step (g':=s.gens) (d':=s.drawn) (ch:=[it]) (λb g=>?_) (λb o _ _ a e _=>k b o (λz=>a (by simp[z])) e) (λb o _ _ a e _=>{o.slots,k b o (λz=>a (by simp[z])) e}) (λ_ _ _ _ n=>n)
  (λb o a e=>{o,k b o (λz=>a (by simp[z])) e}) (λ_ _ e=>e) (λ_ _ _ e=>e) (λb ps e=>{#[],by rw[e];simp}) (λb o xs e n=>k b o (d b _ n) e) (λm hm=>?_) (λb u e=>?_) I.bare
 ·have e:b=it:=by simpa using g
  subst e;exact{h1,f,h2,i}
 ·obtain⟨o,es,j,l,r⟩:=hm
  exact{o,es,j,k _ o (Ne.symm f) l,r}
 ·refine(I.bP b u e).iR (λc v a q=>k c v ?_ q) (λ_ q=>q) λ_ _ q=>q
  rcases a with z|z
  ·rw[z];exact d b u e
  ·exact d c _ z
def Inv.tok(I:Inv X pins σ H s)(t:Nat):Inv X pins σ H { s with toks:=t }:=I.un (h':=s.heap) (t':=t) Un.refl I.bP
theorem Inv.kept(I:Inv X pins σ H s)(k:∀b u,s.heap.get? b=some u->h'.get? b=some u):Inv X pins σ H { s with heap:=h',toks:=t' }:=I.un (Un.kept k) (I.bP.kept k)
theorem Inv.laid{a:Addr}{o:HO}{t':Nat}(I:Inv X pins σ H s)(k:∀b u,s.heap.get? b=some u->h'.get? b=some u)(c:↑s≤a)(new:ba X.prog X.w (upd H a o) h' a o) :
  Inv X pins σ (upd H a o) { s with heap:=h',toks:=t' }:=I.un (Un.laid k c (I.bP.fresh c)) (I.bP.laid k c new)
theorem Inv.write(I:Inv X pins σ H s)(d:HG (H x))(c:e=x\/H e=some (.own x))(k:∀b u,b≠e->s.heap.get? b=some u->h'.get? b=some u)(a:∃u,h'.get? e=some u)(new:ba X.prog X.w (upd H x o) h' x o):Inv X pins σ (upd H x o) { s with heap:=h',toks:=t' }:=I.un (Un.write d c k a) (I.bP.write d c k a new)
def Inv.weak(I:Inv X pins σ H s)(hl:σ'.length=σ.length)(w:∀(i:Nat) v,σ'[i]?=some (some v)->σ[i]?=some (some v)):Inv X pins σ' H s :=
 {I.ok,I.os,I.bare,I.base,let⟨m,d,a⟩:=I.loc;{m,d,λi x v e b c=>a i x v e (w i v b) c},I.cell,I.free,I.eY,I.pin,I.bP,hl.trans I.len}
def Inv.iZ(I:Inv X pins σ H s)(h:∀p∈pins',s.heap.get? p.1=some p.2/\H p.1=none/\p.1≠X.env.locals/\p.1∉X.fs/\∀v,p.2.data≠.cell v):Inv X pins' σ H s :=
 {I.ok,I.os,I.bare,I.base,I.loc,I.cell,I.free,I.eY,λp a=>(zf.mp a).elim (λz=>I.pin p (vp _ z)) (h p),I.bP,I.len}
def B'{N:List Str}(d:N.Nodup){i j:Nat}{x:Str}(a:N[i]?=some x)(b:N[j]?=some x):i=j:=by
 obtain⟨h1,e⟩:=zr.mp a;obtain⟨h2,c⟩:=zr.mp b;exact(List.getElem_inj d).mp (e.trans c.symm)
def Am(I:Inv X pins σ H s)(hN:X.N.Nodup)(hi:X.N[i]?=some x)(t:Loc X.env.scope x)(r:RelV v u)(h:∀s',Inv X pins (σ.set i (some v)) H s'->(∃a,Heap.SameBut a s.heap s'.heap/\(a=X.env.locals\/X.env.cells.lookup x=some a))->Q Unit.unit s')(hf:X.fn x=true\/X.env.scope.names.lookup x=some .local:=by first|exact .inl rfl|exact .inr rfl|assumption):wpAny M A (storeName X.env x u) Q E s:=by
 obtain⟨m,hn,hl⟩:=id I.loc
 have R:(X.env.scope.kind==.class||(X.env.scope.kind==.module&&X.env.locals != X.env.globals))=false:=by rw[I.ok.kind];rfl
 have F:i<σ.length:=by rw[I.len];exact(zr.mp hi).1
 have uq:=I.uq
 have g:∀{a:Addr} {h':Heap},(∃o,s.heap.get? a=some o/\H a=none)->Heap.SameBut a s.heap h'->eV X.prog X.w H h':=λ{a h'} ha hs b ob e=>by
  obtain⟨_,_,B⟩:=ha;refine(I.bP b ob e).iR (λc T l q=>(hs.2 c ?_).trans q) (λ_ q=>q) λ_ _ q=>q;rintro rfl;rcases l with rfl|l
  ·rw[B]at e;cases e
  ·rw[B]at l;cases l
 rcases t with hk|hk
 ·refine wpAny_storeName_local hk hn (λh' U hs=>?_) R
  obtain⟨oL,_,_,Z,_⟩:=id hn;refine h _ {I.ok,I.os,I.bare,{λb o e n G t=>?_,λb o e n G t=>?_,I.base.free,λb o e t=>?_,I.base.dZ,I.base.fe,I.base.ff,λb o xs e n=>(hs.2 b (Nat.ne_of_lt (Nat.lt_of_lt_of_le (qC e) I.ok.above))).trans (I.base.eP b o xs e n)},{_,U,λj y v' f D e3=>?_},λy c e=>?_,I.free,I.eY,λp Y=>?_,g {oL,Z,I.free} hs,by simpa using I.len} {_,hs,.inl rfl}
  ·exact(hs.2 b (qp (zo (qC e) I.ok.above))).trans (I.base.keep b o e n G t)
  ·obtain⟨W,f⟩:=I.base.slot b o e n G t
   exact{W,(hs.2 b (qp (zo (qC e) I.ok.above))).trans f}
  ·obtain⟨o',f⟩:=I.base.there b o e t
   exact{o',(hs.2 b (qp (zo (qC e) I.ok.above))).trans f}
  ·by_cases J:j=i
   ·subst J
    rw[hi]at f;cases f;rw[ja F]at D;cases D;exact{u,r,.inl {hk,by simp}}
   ·rw[yb (Ne.symm J)]at D
    obtain⟨u',r',q⟩:=hl j y v' f D e3;refine{u',r',?_};rcases q with⟨k,e⟩|⟨k,c,e,z⟩
    ·refine .inl ⟨k,?_⟩
     have:y≠x:=λe=>J (B' hN f (e▸hi))
     simp[this,e]
    ·exact .inr {k,c,e,z.sameBut hs (uq y c e)}
  ·obtain⟨T,z⟩:=I.cell y c e
   exact{T,z.sameBut hs (uq y c e)}
  ·obtain⟨e,n,ne,nf,d⟩:=I.pin p Y
   exact{(hs.2 p.1 ne).trans e,n,ne,nf,d}
 ·have C:X.fn x=true:=by
   rcases hf with z|z
   ·exact z
   ·rw[z]at hk;cases hk
  obtain⟨c,l⟩:=I.ok.has x (.inl hk);obtain⟨T,z⟩:=I.cell x c l;refine wpAny_storeName_cell I.ok.kind hk l z (λh' K hs=>?_);obtain⟨oc,O,L⟩:=id z;refine h { s with heap:=h' } {I.ok,I.os,I.bare,{λb o e n G t=>?_,λb o e n G t=>?_,I.base.free,λb o e t=>?_,I.base.dZ,I.base.fe,I.base.ff,λb o xs e n=>(hs.2 b (Nat.ne_of_lt (Nat.lt_of_lt_of_le (qC e) (I.ok.Em x c C l)))).trans (I.base.eP b o xs e n)},{m,hn.sameBut hs (Ne.symm (uq x c l)),λj y v' f D e3=>?_},λy S e=>?_,I.free,I.eY,λp Y=>?_,g {oc,O,I.eY x c l} hs,by simpa using I.len} {c,hs,.inr l}
  ·exact(hs.2 b (qp (zo (qC e) (I.ok.Em x c C l)))).trans (I.base.keep b o e n G t)
  ·obtain⟨W,f⟩:=I.base.slot b o e n G t
   exact{W,(hs.2 b (qp (zo (qC e) (I.ok.Em x c C l)))).trans f}
  ·obtain⟨o',f⟩:=I.base.there b o e t
   exact{o',(hs.2 b (qp (zo (qC e) (I.ok.Em x c C l)))).trans f}
  ·by_cases J:j=i
   ·subst J
    rw[hi]at f;cases f;rw[ja F]at D;cases D;exact{u,r,.inr {.inl hk,c,l,K}}
   ·rw[yb (Ne.symm J)]at D
    obtain⟨u',r',q⟩:=hl j y v' f D e3;refine{u',r',?_};rcases q with q|⟨k,S,e,z'⟩
    ·exact .inl q
    ·refine .inr ⟨k,S,e,z'.sameBut hs ?_⟩
     rintro rfl;exact J (B' hN f (I.ok.inj _ _ _ e l▸hi))
  ·by_cases P:S=c
   ·subst P;exact{_,K}
   ·obtain⟨w2,z2⟩:=I.cell y S e
    exact{w2,z2.sameBut hs P}
  ·obtain⟨e,n,ne,nf,d⟩:=I.pin p Y
   refine{(hs.2 p.1 ?_).trans e,n,ne,nf,d};intro q;rw[q,O]at e;have q':oc=p.2:=qD e;exact d T (by rw[←q'];exact L)
def DC(I:Inv X pins σ H s)(d:X.N.Nodup)(hi:X.N[i]?=some x)(c:Loc X.env.scope x)(r:RelV v u)(h:∀s',Inv X pins (σ.set i (some v)) H s'->Q Unit.unit s')(a:X.fn x=true\/X.env.scope.names.lookup x=some .local:=by first|exact .inl rfl|exact .inr rfl|assumption):wpAny M A (storeName X.env x u) Q E s :=
 Am I d hi c r (λs' b _=>h s' b) a
def Inv.lx(I:Inv X pins σ H s)(f:s'.os=s.os)(u:Un (eU X.stack) ch H H' s.heap s'.heap)(d:eV X.prog X.w H' s'.heap)(g:AllBare s'.gens)(a:∀b∈ch,(b∈X.ex\/X.s₀.heap.objs.size≤b)/\b≠X.env.locals/\(∀x c,X.env.cells.lookup x=some c->c≠b)/\∀p∈X.pn++pins,p.1≠b):Inv X pins σ H' s':=by
 obtain⟨h',g',d',t',o'⟩:=s';have e:o'=s.os:=f;subst e;exact I.call (g':=g') (t':=t') (d':=d') u d g a
end
abbrev XK:=Value->Option Addr->Hp->Prop
abbrev St:=List (Option V)
abbrev VK:=V->Hp->Prop
abbrev TE:=St->Hp->VK->Prop
abbrev TT:=St->Hp->(Bool->Hp->Prop)->Prop
abbrev TA:=St->Hp->(List V->Hp->Prop)->Prop
structure Ends where
 nx:St->Hp->Prop
 rt:VK
 bk:St->Hp->Prop:=λ_ _=>False
 ct:St->Hp->Prop:=λ_ _=>False
abbrev TS:=Ends->St->Hp->Prop
def EP(X:Cx)(pins:List (Addr×Obj))(σ:St)(Q:VK)(u:Value)(s':Shared):Prop:=∃v H',Inv X pins σ H' s'/\RelV v u/\Q v H'
def TP(X:Cx)(pins:List (Addr×Obj))(σ:St)(Q:Bool->Hp->Prop)(b:Bool)(s':Shared):Prop:=∃H',Inv X pins σ H' s'/\Q b H'
def AP(X:Cx)(pins:List (Addr×Obj))(σ:St)(Q:List V->Hp->Prop)(a:List Value)(s':Shared):Prop:=∃vs H',Inv X pins σ H' s'/\aF vs a/\Q vs H'
def SP(X:Cx)(pins:List (Addr×Obj))(D:Ends)(f:Flow)(s':Shared):Prop :=
 match f with
 |.next=>∃σ' H',Inv X pins σ' H' s'/\D.nx σ' H'
 |.brk=>∃σ' H',Inv X pins σ' H' s'/\D.bk σ' H'
 |.cont=>∃σ' H',Inv X pins σ' H' s'/\D.ct σ' H'
 |.ret u=>∃v σ' H',Inv X pins σ' H' s'/\RelV v u/\D.rt v H'
def SO(X:Cx)(e:Expr)(t:TE):Prop :=
 ∀(pins:List (Addr×Obj)) (s:Shared) (σ:St) (H:Hp) (Q:VK),Inv X pins σ H s->t σ H Q->wpAny (model X.prog X.w) X.A (eval e X.env) (EP X pins σ Q) X.xe s
structure PE(X:Cx)(e:Expr)(t:TE):Prop where run:SO X e t
instance TN{X:Cx}{e:Expr}{t:TE}:CoeFun (PE X e t) λ_=>SO X e t:={PE.run}
def SG(X:Cx)(e:Expr)(t:TT):Prop :=
 ∀(pins:List (Addr×Obj)) (s:Shared) (σ:St) (H:Hp) (Q:Bool->Hp->Prop),Inv X pins σ H s->t σ H Q->wpAny (model X.prog X.w) X.A (isTrue e X.env (eval e X.env)) (TP X pins σ Q) X.xe s
structure PT(X:Cx)(e:Expr)(t:TT):Prop where run:SG X e t
instance T1{X:Cx}{e:Expr}{t:TT}:CoeFun (PT X e t) λ_=>SG X e t:={PT.run}
def S0(X:Cx)(e:Expr)(t:TT):Prop :=
 ∀(a:Sem Value) (pins:List (Addr×Obj)) (s:Shared) (σ:St) (H:Hp) (Q:Bool->Hp->Prop),Inv X pins σ H s->t σ H Q->wpAny (model X.prog X.w) X.A (isTrue e X.env a) (TP X pins σ Q) X.xe s
structure PW(X:Cx)(e:Expr)(t:TT):Prop where run:S0 X e t
instance TY{X:Cx}{e:Expr}{t:TT}:CoeFun (PW X e t) λ_=>S0 X e t:={PW.run}
def PW.pt{t:TT}(h:PW X e t):PT X e t:={h _}
def SK(X:Cx)(es:List Expr)(t:TA):Prop :=
 ∀(pos:Pos) (pins:List (Addr×Obj)) (s:Shared) (σ:St) (H:Hp) (Q:List V->Hp->Prop),Inv X pins σ H s->t σ H Q->wpAny (model X.prog X.w) X.A (spliced (backTo pos (starEach es X.env))) (AP X pins σ Q) X.xe s
structure PA(X:Cx)(es:List Expr)(t:TA):Prop where run:SK X es t
instance Tb{X:Cx}{es:List Expr}{t:TA}:CoeFun (PA X es t) λ_=>SK X es t:={PA.run}
def SN(X:Cx)(st:Stmt)(t:TS):Prop :=
 ∀(pins:List (Addr×Obj)) (s:Shared) (σ:St) (H:Hp) (D:Ends),Inv X pins σ H s->t D σ H->wpAny (model X.prog X.w) X.A (exec st X.env) (SP X pins D) X.xe s
structure PS(X:Cx)(st:Stmt)(t:TS):Prop where run:SN X st t
instance TR{X:Cx}{st:Stmt}{t:TS}:CoeFun (PS X st t) λ_=>SN X st t:={PS.run}
def Jj(X:Cx)(st:List Stmt)(t:TS):Prop :=
 ∀(pins:List (Addr×Obj)) (s:Shared) (σ:St) (H:Hp) (D:Ends),Inv X pins σ H s->t D σ H->wpAny (model X.prog X.w) X.A (execs st X.env) (SP X pins D) X.xe s
structure kx(X:Cx)(st:List Stmt)(t:TS):Prop where run:Jj X st t
instance SW{X:Cx}{st:List Stmt}{t:TS}:CoeFun (kx X st t) λ_=>Jj X st t:={kx.run}
def bq{c:Type}{t:Sem c}{Q b:c->Shared->Prop}{M:Model}{A:Around}{E:Value->Shared->Prop}{s:Shared}(h:wpAny M A t Q E s)(d:∀a s,Q a s->b a s):wpAny M A t b E s:=qG h d λ_ _ x=>x
section
variable {X:Cx}
inductive uj(i:Nat)(σ:St)(H:Hp)(Q:VK):Prop
 |mk(v:_)(_:σ[i]?=some (some v))(_:Q v H)
def tC(v:V):TE:=λ_ H Q=>Q v H
def GJ(n:X.N[i]?=some x)(o:NG X.env.scope x)(g:(x==("__debug__":Str))=false:=by decide)(f:(x==("__classdict__":Str))=false:=by decide):PE X (.Name x pos) (uj i):=by
 refine{?_};intro pins s σ H Q I h;obtain⟨v,e,h⟩:=h;obtain⟨m,k,hl⟩:=I.loc;obtain⟨u,r,l⟩:=hl i x v n e o;have d:EP X pins σ Q u s:={v,H,I,r,h};rcases l with⟨b,hm⟩|⟨b,c,j,a⟩
 ·exact wpAny_Name (wpAny_loadName_local I.ok.kind b k hm d) g
 ·rcases b with b|b
  ·exact wpAny_Name (wpAny_loadName_cell I.ok.kind b j a d) g
  ·exact wpAny_Name (wpAny_loadName_free I.ok.kind b j a d f) g
def ai{i j pos}:PE X (.Constant (.int i) j pos) (tC (.int i)):={λ_ _ _ H _ I h=>wpAny_Constant_int {.int i,H,I.tok _,{_,Y},h}}
def cB{b j pos}:PE X (.Constant (.bool b) j pos) (tC (.bl b)):={λ_ _ _ H _ I h=>Constant_bool {.bl b,H,I,Y,h}}
def gK{j pos}:PE X (.Constant .none j pos) (tC .a'):={λ_ _ _ H _ I h=>Constant_none {.a',H,I,Y,h}}
def ah{x j pos}:PE X (.Constant (.str x) j pos) (tC (.str x)):={λ_ _ _ H _ I h=>Calls.Constant_str {.str x,H,I.tok _,{_,Y},h}}
def Gl(X:Cx)(x:Str):Prop:=X.env.kindOf x=some .globalImplicit
def pW{E:Value->Shared->Prop}{pins:List (Addr×Obj)}{s:Shared}{σ:St}{H:Hp}{x:Str}{u:Value}{pos:Pos}{Q:Value->Shared->Prop}(I:Inv X pins σ H s)(b:Gl X x)(hm:X.mg x=some u)(h:Q u s)(a:(x==("__debug__":Str))=false:=by decide):wpAny (model X.prog X.w) X.A (eval (.Name x pos) X.env) Q E s :=
 Calls.Name_function_global I.ok.kind b (Calls.loadGlobal_global (by rw[I.ok.glob];exact I.mod.glob.keeps I.bk) hm h) a
def pN{E:Value->Shared->Prop}{pins:List (Addr×Obj)}{s:Shared}{σ:St}{H:Hp}{x:Str}{u:Value}{pos:Pos}{Q:Value->Shared->Prop}(I:Inv X pins σ H s)(a:Gl X x)(hm:X.mg x=none)(c:bootBuiltins x=some u)(h:Q u s)(b:x≠"__name__":=by decide)(d:(x==("__debug__":Str))=false:=by decide):wpAny (model X.prog X.w) X.A (eval (.Name x pos) X.env) Q E s:=by
 obtain⟨e,h1,h2⟩:=I.mod.blt;exact Calls.Name_function_global I.ok.kind a (Calls.loadGlobal_builtin (by rw[I.ok.glob];exact I.mod.glob.keeps I.bk) hm (by rw[I.ok.blt];exact h1.keeps I.bk) ((h2 x b).trans c) h) d
def fi(b:Gl X x)(hm:X.mg x=some u)(r:RelV v u)(a:(x==("__debug__":Str))=false:=by decide):PE X (.Name x pos) (tC v):={λ_ _ _ H _ I h=>pW I b hm {v,H,I,r,h} a}
def gC(d:Gl X x)(hm:X.mg x=none)(c:bootBuiltins x=some u)(r:RelV v u)(a:x≠"__name__":=by decide)(b:(x==("__debug__":Str))=false:=by decide):PE X (.Name x pos) (tC v):={λ_ _ _ H _ I h=>pN I d hm c {v,H,I,r,h} a b}
variable {a b:Expr}{ta tb:TE}{pos:Pos}
inductive TL(Q:Bool->Hp->Prop)(x:V)(H1:Hp):Prop
 |mk(c:_)(_:x=.bl c)(_:Q c H1)
def tB(t:TE):TT:=λσ H Q=>t σ H λx H1=>TL Q x H1
def cI{t:TE}(h:PE X e t)(f:∀a,isTrue e X.env a=(do let v ←a;standAt e.pos;holding [v] (truthy v)):=by intro _;rfl):PT X e (tB t):=by
 refine{?_};intro pins s σ H Q I hw;refine isTrue_plain (bq (h pins s σ H _ I hw) λv i ⟨x,H1,c,b,g⟩=>?_) (f _);obtain⟨d,rfl,q⟩:=g;cases b;exact wpAny_truthy_bool {H1,c,q}
variable {tA tB':TT}{rest:List Expr}
def QX(t u:TT):TT:=λσ H Q=>t σ H λc H1=>if c=true then u σ H1 Q else Q false H1
def TB(t u:TT):TT:=λσ H Q=>t σ H λc H1=>if c=true then Q true H1 else u σ H1 Q
def O4(t:TT):TT:=λσ H Q=>t σ H λc H1=>Q (!c) H1
def wR(b:PT X a tA):PW X (.BoolOp .And [a] pos) tA:=by
 refine{?_};intro f pins s σ H Q I h;refine isTrue_and (bq (b pins s σ H Q I h) λc d e=>?_)
 cases c with
 |true=>exact isTrue_and_nil e
 |false=>exact e
def iw(b:PT X a tA):PW X (.BoolOp .Or [a] pos) tA:=by
 refine{?_};intro f pins s σ H Q I h;refine isTrue_or (bq (b pins s σ H Q I h) λc d e=>?_)
 cases c with
 |false=>exact isTrue_or_nil e
 |true=>exact e
def wV(j:PT X a tA)(f:PW X (.BoolOp .And (b::rest) pos) tB'):PW X (.BoolOp .And (a::b::rest) pos) (QX tA tB'):=by
 refine{?_};intro i pins s σ H Q I h;refine isTrue_and (bq (j pins s σ H _ I h) λc g ⟨H1,d,e⟩=>?_)
 cases c with
 |true=>exact f i pins g σ H1 Q d e
 |false=>exact{H1,d,e}
def eD(j:PT X a tA)(f:PW X (.BoolOp .Or (b::rest) pos) tB'):PW X (.BoolOp .Or (a::b::rest) pos) (TB tA tB'):=by
 refine{?_};intro i pins s σ H Q I h;refine isTrue_or (bq (j pins s σ H _ I h) λc g ⟨H1,d,e⟩=>?_)
 cases c with
 |true=>exact{H1,d,e}
 |false=>exact f i pins g σ H1 Q d e
def cY(b:PT X a tA):PT X (.UnaryOp .Not a pos) (O4 tA):=by
 refine{?_};intro pins s σ H Q I h;exact isTrue_not (b pins s σ H (λc H1=>Q (!c) H1) I h)
inductive Fp(tb:TE)(σ:St)(Q:VK)(x:V)(H1:Hp):Prop
 |mk(c:_)(_:x=.bl c)(_:if c=true then tb σ H1 Q else Q (.bl false) H1)
def Ij(ta tb:TE):TE:=λσ H Q=>ta σ H λx H1=>Fp tb σ Q x H1
inductive Lg(tb:TE)(σ:St)(Q:VK)(x:V)(H1:Hp):Prop
 |mk(c:_)(_:x=.bl c)(_:if c=true then Q (.bl true) H1 else tb σ H1 Q)
def Rr(ta tb:TE):TE:=λσ H Q=>ta σ H λx H1=>Lg tb σ Q x H1
def dS{op}{t:TE}(h:PE X a t):PE X (.BoolOp op [a] pos) t:={λpins s σ H Q I hw=>BoolOp_one (h pins s σ H Q I hw)}
def eO(j:PE X a ta)(g:PE X (.BoolOp .And (b::rest) pos) tb):PE X (.BoolOp .And (a::b::rest) pos) (Ij ta tb):=by
 refine{?_};intro pins s σ H Q I h;refine BoolOp_and (bq (j pins s σ H _ I h) λv i ⟨x,H1,e,f,d⟩=>?_);obtain⟨c,rfl,d⟩:=d;cases f;refine wpAny_truthy_bool ?_
 cases c with
 |true=>exact g pins i σ H1 Q e d
 |false=>exact{.bl false,H1,e,Y,d}
def fO(j:PE X a ta)(g:PE X (.BoolOp .Or (b::rest) pos) tb):PE X (.BoolOp .Or (a::b::rest) pos) (Rr ta tb):=by
 refine{?_};intro pins s σ H Q I h;refine BoolOp_or (bq (j pins s σ H _ I h) λv i ⟨x,H1,e,f,d⟩=>?_);obtain⟨c,rfl,d⟩:=d;cases f;refine wpAny_truthy_bool ?_
 cases c with
 |false=>exact g pins i σ H1 Q e d
 |true=>exact{.bl true,H1,e,Y,d}
def TJ(t:TT)(ta tb:TE):TE:=λσ H Q=>t σ H λc H1=>if c=true then ta σ H1 Q else tb σ H1 Q
def nu(i:PT X c tA)(k:PE X a ta)(j:PE X b tb):PE X (.IfExp c a b pos) (TJ tA ta tb):=by
 refine{?_};intro pins s σ H Q I h;refine wpAny_IfExp (bq (i pins s σ H _ I h) λd f ⟨H1,e,g⟩=>?_)
 cases d with
 |true=>exact k pins f σ H1 Q e g
 |false=>exact j pins f σ H1 Q e g
end
def au(H:Hp)(a:Addr)(xs:List V):Prop :=
 Rd H a (.lst xs)
def aI(H:Hp)(a:Addr)(xs:List V):Prop :=
 Rd H a (.tup xs)
def fZ:Value->Option V
 |.none=>some .a'
 |.bool b=>some (.bl b)
 |.int i _=>some (.int i)
 |.str x _=>some (.str x)
 |.bytes b _=>some (.rX b)
 |.float b _=>some (.GV b)
 |.ref a=>some (.ref a)
 |.type n=>some (.ty n)
 |_=>none
def RelV.abs(r:RelV x u):fZ u=some x:=by
 cases x with
 |a'=>cases r;rfl
 |bl _=>cases r;rfl
 |int _=>obtain⟨t,rfl⟩:=r;rfl
 |str _=>obtain⟨t,rfl⟩:=r;rfl
 |rX _=>obtain⟨t,rfl⟩:=r;rfl
 |GV _=>obtain⟨t,rfl⟩:=r;rfl
 |ref _=>cases r;rfl
 |ty _=>cases r;rfl
theorem RelV.inj(r:RelV x u)(q:RelV y u):x=y:=qD (r.abs.symm.trans q.abs)
theorem aF.inj:∀{xs ys:List V} {a:List Value},aF xs a->aF ys a->xs=ys
 |_,_,_,.nil,.nil=>rfl
 |_,_,_,.cons r t,.cons r' t'=>by rw[r.inj r',aF.inj t t']
section
variable {X:Cx}{pins:List (Addr×Obj)}{σ:St}{H:Hp}{s:Shared}{a:Addr}{xs ys:List V}
def au.of(h:H a=some (.lst xs)):au H a xs:=.inl h
def aI.of(h:H a=some (.tup xs)):aI H a xs:=.inl h
def Inv.list(I:Inv X pins σ H s)(h:au H a xs):∃b:List Value,aF xs b/\PlainL s.heap a b.toArray/\xs.length≤sizeLine:=by
 obtain⟨z,b,n,r,e⟩:=Rd.ok h I.bP;exact{b,r,{_,n,e,Y,Y,Y},z}
def Inv.tuple(I:Inv X pins σ H s)(h:aI H a xs):∃b:List Value,aF xs b/\IsTup s.heap a b.toArray/\xs.length≤sizeLine:=by
 obtain⟨z,b,r,p⟩:=Rd.ok h I.bP;exact{b,r,p,z}
def Inv.jS(I:Inv X pins σ H s)(h:au H a xs)(h':au H a ys):xs=ys:=by
 obtain⟨b,r,⟨o,n,e,_,_,d⟩,_⟩:=I.list h;obtain⟨its',f,⟨o',g,c,_,_,d'⟩,_⟩:=I.list h';rw[e]at c;cases c;rw[d]at d';injection d' with d1 _
 have:b=its':=by simpa using congrArg Array.toList d1
 subst this;exact r.inj f
def Inv.k_(I:Inv X pins σ H s)(h:aI H a xs)(h':aI H a ys):xs=ys:=by
 obtain⟨b,r,⟨o,e,_,n,d⟩,_⟩:=I.tuple h;obtain⟨its',f,⟨o',c,_,g,d'⟩,_⟩:=I.tuple h';rw[e]at c;cases c;rw[d]at d';injection d' with d1 _
 have:b=its':=by simpa using congrArg Array.toList d1
 subst this;exact r.inj f
end
abbrev Cx.gO(X:Cx)(E:Value->Shared->Prop):Cx:={ X with xe:=E }
abbrev Cx.Bw(X:Cx):Cx:=X.gO λ_ _=>False
theorem Cx.Ok.gO{X:Cx}(ok:X.Ok)(E:Value->Shared->Prop):(X.gO E).Ok :=
 {ok.mod,ok.kind,ok.glob,ok.blt,ok.above,ok.inj,ok.has,ok.Em,ok.hd,ok.frames,ok.Mn,ok.OF,ok.bs,ok.wU,ok.oM,ok.tN,ok.iL,ok.C4}
def Cx.Ok.eh{X:Cx}{E:Value->Shared->Prop}(ok:(X.gO E).Ok):X.Ok :=
 {ok.mod,ok.kind,ok.glob,ok.blt,ok.above,ok.inj,ok.has,ok.Em,ok.hd,ok.frames,ok.Mn,ok.OF,ok.bs,ok.wU,ok.oM,ok.tN,ok.iL,ok.C4}
section
variable {X:Cx}{pins:List (Addr×Obj)}{σ:St}{H:Hp}{s:Shared}{E:Value->Shared->Prop}
theorem Inv.gO(I:Inv X pins σ H s)(E:Value->Shared->Prop):Inv (X.gO E) pins σ H s:={I.ok.gO E,I.os,I.bare,I.base,I.loc,I.cell,I.free,I.eY,I.pin,I.bP,I.len}
theorem Inv.eh(I:Inv (X.gO E) pins σ H s):Inv X pins σ H s:={I.ok.eh,I.os,I.bare,I.base,I.loc,I.cell,I.free,I.eY,I.pin,I.bP,I.len}
theorem SP.eh(h:SP (X.gO E) pins D f s'):SP X pins D f s':=by
 cases f with
 |next=>obtain⟨σ',H',I,q⟩:=h;exact{σ',H',I.eh,q}
 |brk=>obtain⟨σ',H',I,q⟩:=h;exact{σ',H',I.eh,q}
 |cont=>obtain⟨σ',H',I,q⟩:=h;exact{σ',H',I.eh,q}
 |ret u=>obtain⟨v,σ',H',I,r,q⟩:=h;exact{v,σ',H',I.eh,r,q}
theorem kx.Bw{st:List Stmt}{t:TS}(h:kx X.Bw st t):kx X st t:={λpins s σ H D I hw =>
 qG (h pins s σ H D (I.gO _) hw) (λ_ _ q=>q.eh) λ_ _ z=>False.elim z}
end
section
variable {X:Cx}{st:Stmt}{rest:List Stmt}{t u:TS}{e:Expr}{te:TE}{pos:Pos}
def Ih:TS:=λD σ H=>D.nx σ H
def Ou(t u:TS):TS:=λD σ H=>t { D with nx:=u D } σ H
def aO:kx X [] Ih:={λ_ _ σ H _ I h=>wpAny_execs_nil {σ,H,I,h}}
def ak(h1:PS X st t)(h2:kx X rest u):kx X (st::rest) (Ou t u):=by
 refine{?_};intro pins s σ H D I h;refine wpAny_execs_cons (bq (h1 pins s σ H { D with nx:=u D } I h) λf a q=>?_)
 cases f with
 |next =>
  obtain⟨σ',H',b,q⟩:=q;exact h2 pins a σ' H' D b q
 |ret v=>exact q
 |brk=>exact q
 |cont=>exact q
def ao(h1:PS X st t):kx X [st] t:=by
 refine{?_};intro pins s σ H D I h;refine wpAny_execs_cons (bq (h1 pins s σ H D I h) λf a q=>?_)
 cases f with
 |next=>exact wpAny_execs_nil q
 |ret v=>exact q
 |brk=>exact q
 |cont=>exact q
def Inv.quiet{pins:List (Addr×Obj)}{σ:St}{H:Hp}{s:Shared}(I:Inv X pins σ H s):interactive X.env=false:=by simp[interactive,I.ok.kind]
def xV(te:TE):TS:=λD σ H=>te σ H λ_ H1=>D.nx σ H1
def R'(b:PE X e te)(hs:swapsWith e none pos.line X.env=pure false:=by rfl):PS X (.Expr e pos) (xV te):=by
 refine{?_};intro pins s σ H D I h;exact wpAny_Expr_any (bq (b pins s σ H _ I h) λv f ⟨x,H1,a,d,c⟩=>{σ,H1,a,c}) I.quiet hs
def IB(te:TE):TS:=λD σ H=>te σ H D.rt
def av(c:PE X e te):PS X (.Return (some e) pos) (IB te):=by
 refine{?_};intro pins s σ H D I h;exact wpAny_Return_some (bq (c pins s σ H _ I h) λv f ⟨x,H1,a,b,d⟩=>{x,σ,H1,a,b,d})
def PY(c:TT)(t u:TS):TS:=λD σ H=>c σ H λb H1=>if b=true then t D σ H1 else u D σ H1
def ax(i:PT X c tc)(k:kx X a t)(j:kx X b u):PS X (.If c a b pos) (PY tc t u):=by
 refine{?_};intro pins s σ H D I h;refine wpAny_If (bq (i pins s σ H _ I h) λd f ⟨H1,e,g⟩=>?_)
 cases d with
 |true=>exact k pins f σ H1 D e g
 |false=>exact j pins f σ H1 D e g
end
abbrev TG:=V->St->Hp->(St->Hp->Prop)->Prop
abbrev xI:=List V->St->Hp->(St->Hp->Prop)->Prop
def Sy(X:Cx)(a:Expr)(t:TG):Prop :=
 ∀(pins:List (Addr×Obj)) (s:Shared) (σ:St) (H:Hp) (v:V) (u:Value) (Q:St->Hp->Prop),Inv X pins σ H s->RelV v u->t v σ H Q →
  wpAny (model X.prog X.w) X.A (assign a X.env u) (λ_ s'=>∃σ' H',Inv X pins σ' H' s'/\Q σ' H') X.xe s
structure PG(X:Cx)(target:Expr)(t:TG):Prop where run:Sy X target t
instance T3{X:Cx}{a:Expr}{t:TG}:CoeFun (PG X a t) λ_=>Sy X a t:={PG.run}
def Jz(X:Cx)(ts:List Expr)(t:xI):Prop :=
 ∀(pins:List (Addr×Obj)) (s:Shared) (σ:St) (H:Hp) (vs:List V) (a:List Value) (Q:St->Hp->Prop),Inv X pins σ H s->aF vs a->t vs σ H Q →
  wpAny (model X.prog X.w) X.A (assignInOrder ((assignEach ts X.env).map (·.2)) a) (λ_ s'=>∃σ' H',Inv X pins σ' H' s'/\Q σ' H') X.xe s
structure yJ(X:Cx)(ts:List Expr)(t:xI):Prop where run:Jz X ts t
instance S6{X:Cx}{ts:List Expr}{t:xI}:CoeFun (yJ X ts t) λ_=>Jz X ts t:={yJ.run}
abbrev EN:=V->V->V->Hp->(Hp->Prop)->Prop
def G'(X:Cx)(t:EN):Prop :=
 ∀(pins:List (Addr×Obj)) (s:Shared) (σ:St) (H:Hp) (o i v:V) (b a u:Value) (Q:Hp->Prop),Inv X pins σ H s->RelV o b->RelV i a->RelV v u->t o i v H Q →
  wpAny (model X.prog X.w) X.A (setItem b a u) (λ_ s'=>∃H',Inv X pins σ H' s'/\Q H') X.xe s
section
variable {X:Cx}{pos:Pos}
def cX(i:Nat):TG:=λv σ H Q=>Q (σ.set i (some v)) H
def i_(d:X.N.Nodup)(hi:X.N[i]?=some x)(c:Loc X.env.scope x)(a:X.fn x=true\/X.env.scope.names.lookup x=some .local:=by first|exact .inl rfl|exact .inr rfl|assumption):PG X (.Name x pos) (cX i):=by
 refine{?_};intro pins s σ H v u Q I r h;exact wpAny_assign_Name (DC I d hi c r (λs' b=>{_,H,b,h}) a)
def LB:xI:=λvs σ H Q=>vs=[]/\Q σ H
inductive tL(t:TG)(u:xI)(vs:List V)(σ:St)(H:Hp)(Q:St->Hp->Prop):Prop
 |mk(v r:_)(_:vs=v::r)(_:t v σ H λσ' H'=>u r σ' H' Q)
def nF:yJ X [] LB:=by
 refine{?_};intro pins s σ H vs a Q I r h;obtain⟨e,h⟩:=h;subst e;cases r;exact assignInOrder_nil {σ,H,I,h}
def fc{t:TG}(h1:PG X e t)(h2:yJ X es u)(hs:(assignEach (e::es) X.env).map (·.2)=assign e X.env::(assignEach es X.env).map (·.2):=by rfl):yJ X (e::es) (tL t u):=by
 refine{?_};intro pins s σ H vs j Q I r h;obtain⟨v,i,g,h⟩:=h;subst g
 cases r with
 |cons r d =>
  rw[hs];refine assignInOrder_cons (bq (h1 pins s σ H _ _ _ I r h) λ_ c ⟨a,H1,b,f⟩=>?_);exact h2 pins c a H1 _ _ Q b d f
inductive Fj(n:Nat)(t:xI)(v:V)(σ:St)(H:Hp)(Q:St->Hp->Prop):Prop
 |mk(a xs:_)(_:v=.ref a)(_:aI H a xs)(_:xs.length=n)(_:t xs σ H Q)
def AN{t:xI}(j:X.calm=true)(h:yJ X es t)(m:(assignEach es X.env).length=n:=by rfl)(c:(assignEach es X.env).findIdx? (·.1)=none:=by rfl):PG X (.Tuple es k pos) (Fj n t):=by
 refine{?_};intro pins s σ H v u Q I r hw;obtain⟨a,xs,q,l,hl,hw⟩:=hw;subst q;cases r;obtain⟨g,d,i,w⟩:=I.tuple l;refine assign_Tuple_tuple (I.ok.hd j) i (by simp[m,←hl,d.length]) c λh' p=>?_;have f:Inv X pins σ H { s with heap:=h' }:=I.kept (t':=s.toks) λb o e=>p b o (qp (qC e)) e;exact h pins _ σ H xs _ Q f (by simpa using d) hw
def NR(to a:TE)(t:EN):TG:=λv σ H Q=>to σ H λo H1=>a σ H1 λi H2=>t o i v H2 λb=>Q σ b
def Fl{to c:TE}{t:EN}(z:PE X o to)(hi:PE X i c)(hs:G' X t)(w:∀v,assign (.Subscript o i pos) X.env v=(do
   let a ←holding [v] (eval o X.env)
   let b ←holding [v,a] (eval i X.env)
   standAt pos
   holding [v,a,b] (setItem a b v)
   release [v,a,b] []):=by intro _;rfl):PG X (.Subscript o i pos) (NR to c t):=by
 refine{?_};intro pins s σ H v u Q I r h;rw[w];refine qc (qH (bq (z pins s σ H _ I h) λa k ⟨x,H1,f,d,q⟩=>?_));refine qc (qH (bq (hi pins k σ H1 _ f q) λb l ⟨y,H2,m,n,g⟩=>?_));refine qc (wpAny_standAt (qc (qH (bq (hs pins l σ H2 x y v a b u _ m d n r g) λ_ A ⟨p,j,e⟩=>?_))));exact wpAny_release {σ,p,j,e}
def pa(te:TE)(g:TG):TS:=λD σ H=>te σ H λx H1=>g x σ H1 D.nx
def o8(f:PE X e te)(d:PG X tg g)(hs:swapsWithSole [tg] e pos.line X.env=pure false:=by rfl)(hw:swappedStores [tg] e X.env=pure none:=by rfl)(h1:(assignEach [tg] X.env).map (·.2)=[assign tg X.env]:=by rfl):PS X (.Assign [tg] e pos) (pa te g):=by
 refine{?_};intro pins s σ H D I h;refine wpAny_Assign_stores (bq (f pins s σ H _ I h) λv c ⟨x,H1,b,a,i⟩=>?_) hs hw;rw[h1];exact bq (d pins c σ H1 x v _ b a i) λ_ j q=>q
def KR(g:X.N.Nodup)(hi:X.N[i]?=some x)(f:Loc X.env.scope x)(d:PE X e te)(hs:swapsWith e (some (.Name x pos')) pos.line X.env=pure false:=by rfl)(b:X.fn x=true\/X.env.scope.names.lookup x=some .local:=by first|exact .inl rfl|exact .inr rfl|assumption) :
  PS X (.Assign [.Name x pos'] e pos) (pa te (cX i)):=by
 refine{?_};intro pins s σ H D I h;refine wpAny_Assign_Name (bq (d pins s σ H _ I h) λv l ⟨y,H1,c,a,j⟩=>?_) hs;exact DC c g hi f a (λm k=>{_,H1,k,j}) b
end
structure It where
 go:Nat->Hp->Prop
 Dc:Nat->Hp->V->Hp->Prop
 stop:Nat->Hp->Prop
def gW(X:Cx)(pins:List (Addr×Obj))(H:Hp)(b:Addr):Prop :=
 H b=none/\b≠X.env.locals/\b∉X.fs/\(b∈X.ex\/X.s₀.heap.objs.size≤b)/\(∀x c,X.env.cells.lookup x=some c->c≠b)/\∀p∈X.pn++pins,p.1≠b
def Inv.o5{X:Cx}{pins:List (Addr×Obj)}{σ:St}{H H':Hp}{s:Shared}{b:Addr}(I:Inv X pins σ H s)(a:↑s≤b)(d:H' b=none):gW X pins H' b:=by
 refine{d,wb (zo I.lt a),I.Lj a,.inr (qg I.sz a),λx c e z=>?_,λp f z=>?_}
 ·obtain⟨v,q⟩:=I.cell x c e
  exact absurd (zo q.lt (by rw[z];exact a)) (wn _)
 ·exact absurd (zo (qC (I.pin p f).1) (by rw[z];exact a)) (wn _)
structure Turn(P:Program)(w:World)(K:PySem.W.Frag)(tg:Expr)(J:It)(fp:List Addr)(it:Addr)(tn:Nat->Heap->Prop):Prop where
 mem:it∈fp
 obj:∀i h,tn i h->∀b∈fp,∃o,h.get? b=some o/\∀v,o.data≠.cell v
 keep:∀i h h',tn i h->(∀b∈fp,∀o,h.get? b=some o->h'.get? b=some o)->tn i h'
 item:∀(X:Cx),X.prog=P->X.w=w->X.K=K->X.calm=true->∀(i:Nat) (pins:List (Addr×Obj)) (s:Shared) (σ:St) (H:Hp) (E:Value->Shared->Prop),Inv X pins σ H s->(∀b∈fp,gW X pins H b)->tn i s.heap->J.go i H →
  wpAny (model P w) X.A (pyNext (.ref it)) (λr s1=>∃u,r=some u ∧
   wpAny (model P w) X.A (letOwnedTupleGo tg (.ref it) u) (λ_ s2=>∃x H',Inv X pins σ H' s2/\RelV x u/\J.Dc i H x H'/\tn (i+1) s2.heap/\∀b∈fp,H' b=none) E s1) E s
 done:∀(X:Cx),X.prog=P->X.w=w->X.K=K->X.calm=true->∀(i:Nat) (pins:List (Addr×Obj)) (s:Shared) (σ:St) (H:Hp) (E:Value->Shared->Prop),Inv X pins σ H s->(∀b∈fp,gW X pins H b)->tn i s.heap->J.stop i H →
  wpAny (model P w) X.A (pyNext (.ref it)) (λr s1=>r=none/\Inv X pins σ H s1) E s
 self:∀(A:Around) (i:Nat) (s:Shared) (Q:Value->Shared->Prop) (E:Value->Shared->Prop),tn i s.heap->Q (.ref it) s->wpAny (model P w) A (pyIter (.ref it)) Q E s
abbrev TI:=St->Hp->(It->Hp->Prop)->Prop
def S5(X:Cx)(pins:List (Addr×Obj))(σ:St)(tg:Expr)(R:It->Hp->Prop)(a:Value)(d:Shared):Prop :=
 ∃(it:Addr) (c:List Addr) (e:Nat->Heap->Prop) (J:It) (H':Hp),a=.ref it/\Inv X pins σ H' d/\Turn X.prog X.w X.K tg J c it e/\e 0 d.heap/\(∀b∈c,gW X pins H' b)/\R J H'
def SS(X:Cx)(tg iter:Expr)(wi:TI):Prop :=
 ∀(pins:List (Addr×Obj)) (s:Shared) (σ:St) (H:Hp) (R:It->Hp->Prop),Inv X pins σ H s->wi σ H R →
  wpAny (model X.prog X.w) X.A (eval iter X.env) (λv a=>wpAny (model X.prog X.w) X.A (pyIter v) (S5 X pins σ tg R) X.xe a) X.xe s
structure PI(X:Cx)(tg iter:Expr)(wi:TI):Prop where run:SS X tg iter wi
instance TQ{X:Cx}{tg iter:Expr}{wi:TI}:CoeFun (PI X tg iter wi) λ_=>SS X tg iter wi:={PI.run}
def mQ(d:s.heap.get? it=some o)(b:o.cls=.type n)(e:o.data=.fields vs)(c:["enumerate","zip","dict_itemiterator","dict_reverseitemiterator","odict_iterator","itertools.zip_longest","itertools.pairwise"].contains n=false)(a:Q Unit.unit s):wpAny M A (letOwnedTupleGo tg (.ref it) u) Q E s:=by
 unfold letOwnedTupleGo
 cases tg <;> first
  |exact qA a
  | (cases u <;> first
    |exact qA a
    | (refine qc (wpAny_load d ?_)
       rw[b,e];show wpAny M A (if(["enumerate","zip","dict_itemiterator","dict_reverseitemiterator","odict_iterator","itertools.zip_longest","itertools.pairwise"].contains n&&vs[0]?==some (rawInt _))=true then _ else _) Q E s;rw[qq (by intro h;rw[c,wz]at h;cases h)]
       exact qA a))
def Dv(a:Addr):It :=
 {λi H=>∃xs x,au H a xs/\xs[i]?=some x,λi H x H'=>H'=H/\∀xs,au H a xs->xs[i]?=some x,λi H=>∃xs,au H a xs/\xs.length≤i}
def Nr(a:Addr):It :=
 {λi H=>∃xs x,aI H a xs/\xs[i]?=some x,λi H x H'=>H'=H/\∀xs,aI H a xs->xs[i]?=some x,λi H=>∃xs,aI H a xs/\xs.length≤i}
def FT(lo:Int)(n:Nat):It:={λi _=>i<n,λi H x H'=>H'=H/\x=.int (lo+i),λi _=>n≤i}
def Qp{P:Program}{w:World}{K:PySem.W.Frag}{tg:Expr}(a it:Addr):Turn P w K tg (Dv a) [it] it (λi h=>h.IsListIter it a i) where
 mem:=by simp
 obj:=λi h st b f=>by
  have e:b=it:=by simpa using f
  subst e;obtain⟨o,e,c,d⟩:=st;exact{o,e,λv z=>by rw[d]at z;cases z}
 keep:=λi h h' st k=>st.at λo e=>k it (by simp) o e
 item:=by
  intro X q hw C F i pins s σ H E I j st y;subst q hw C;obtain⟨xs,x,l,D⟩:=y;obtain⟨n,t,p,J⟩:=I.list l;obtain⟨u,L,G⟩:=t.get D;obtain⟨B,f1,f2,A,r,m⟩:=j it (by simp);refine wpAny_pyNext_list_item st p.isList (x:=u) (by simpa using L) λh' g Q=>?_;have O:Inv X pins σ H { s with heap:=h' }:=I.turned (t':=s.toks) (λb o f e=>(Q.2 b f).trans e) B f1 A r m;obtain⟨o,e,c,d⟩:=id g;exact{u,Y,mQ (s:={ s with heap:=h' }) e c d ⋯ {x,H,O,G,{Y,λys N=>by rw[I.jS N l];exact D},g,λb f=>(j b f).1}}
 done:=by
  intro X q hw C F i pins s σ H E I j st y;subst q hw C;obtain⟨xs,l,D⟩:=y;obtain⟨n,t,p,J⟩:=I.list l;obtain⟨B,f1,f2,A,r,m⟩:=j it (by simp);have hl:=t.length;exact wpAny_pyNext_list_end (I.ok.hd F) st p.isList (by simp;omega) λh' M=>{Y,I.turned (t':=s.toks) (λb o f e=>M b o f e) B f1 A r m}
 self:=λ_ _ _ _ _ st h=>wpAny_pyIter_listiter st h
def NM{P:Program}{w:World}{K:PySem.W.Frag}{tg:Expr}(a it:Addr):Turn P w K tg (Nr a) [it] it (λi h=>h.IsTupleIter it a i) where
 mem:=by simp
 obj:=λi h st b g=>by
  have e:b=it:=by simpa using g
  subst e;obtain⟨o,e,c,d⟩:=st;exact{o,e,λv z=>by rw[d]at z;cases z}
 keep:=λi h h' st k=>st.at λo e=>k it (by simp) o e
 item:=by
  intro X q hw C F i pins s σ H E I l st y;subst q hw C;obtain⟨xs,x,m,D⟩:=y;obtain⟨f,t,p,J⟩:=I.tuple m;obtain⟨u,L,G⟩:=t.get D;obtain⟨B,f1,f2,A,r,n⟩:=l it (by simp);refine wpAny_pyNext_tuple_item st (show s.heap.IsTuple a f.toArray from p) (x:=u) (by simpa using L) λh' j Q=>?_;have O:Inv X pins σ H { s with heap:=h' }:=I.turned (t':=s.toks) (λb o g e=>(Q.2 b g).trans e) B f1 A r n;obtain⟨o,e,c,d⟩:=id j;exact{u,Y,mQ (s:={ s with heap:=h' }) e c d ⋯ {x,H,O,G,{Y,λys N=>by rw[I.k_ N m];exact D},j,λb g=>(l b g).1}}
 done:=by
  intro X q hw C F i pins s σ H E I l st y;subst q hw C;obtain⟨xs,m,D⟩:=y;obtain⟨f,t,p,J⟩:=I.tuple m;obtain⟨B,f1,f2,A,r,n⟩:=l it (by simp);have hl:=t.length;exact wpAny_pyNext_tuple_end (I.ok.hd F) st (show s.heap.IsTuple a f.toArray from p) (by simp;omega) λh' M=>{Y,I.turned (t':=s.toks) (λb o g e=>M b o g e) B f1 A r n}
 self:=λ_ _ _ _ _ st h=>wpAny_pyIter_tupleiter st h
def Pq{P:Program}{w:World}{K:PySem.W.Frag}{tg:Expr}(it:Addr)(lo:Int)(n:Nat):Turn P w K tg (FT lo n) [it] it (λi h=>IsRangeIter h it (lo+(i:Nat) * 1) ((n:Int) - (i:Nat)) 1) where
 mem:=by simp
 obj:=λi h st b a=>by
  have e:b=it:=by simpa using a
  subst e
  exact{_,st,λv z=>by
   have A:Data.fields _=Data.cell v:=z
   cases A}
 keep:=λi h h' st k=>k it (by simp) _ st
 item:=by
  intro X p hw r j i pins s σ H E I d st q;subst p hw r;obtain⟨l,f1,f2,g,m,f⟩:=d it (by simp);have W:=Walks.range (prog:=X.prog) (w:=X.w) (I.ok.hd j) it lo 1 n;refine W.item i s _ _ q st λv h' tk y c kk=>?_;obtain⟨t,rfl⟩:=y;have u:Inv X pins σ H { s with heap:=h',toks:=tk }:=I.turned (λb o a e=>kk b o (by simpa using a) e) l f1 g m f;refine{_,Y,mQ (s:={ s with heap:=h',toks:=tk }) (n:="range_iterator") c rfl rfl ⋯ {.int (lo+i),H,u,{t,?_},{Y,Y},c,λb a=>(d b a).1}};rw[Int.mul_one]
 done:=by
  intro X p hw r j i pins s σ H E I d st q;subst p hw r;obtain⟨l,f1,f2,g,m,f⟩:=d it (by simp);exact wpAny_pyNext_range_end (I.ok.hd j) st (by have:n≤i:=q;omega) λh' x=>{Y,I.turned (t':=s.toks) (λb o a e=>x b o a e) l f1 g m f}
 self:=λ_ _ _ _ _ st h=>wpAny_pyIter_rangeiter st h
section
variable {X:Cx}{tg:Expr}
inductive Fn(R:It->Hp->Prop)(x:V)(H1:Hp):Prop
 |mk(a:_)(_:x=.ref a)(_:(∃xs,au H1 a xs))(_:R (Dv a) H1)
def x8(tl:TE):TI:=λσ H R=>tl σ H λx H1=>Fn R x H1
inductive Mj(R:It->Hp->Prop)(x:V)(H1:Hp):Prop
 |mk(a:_)(_:x=.ref a)(_:(∃xs,aI H1 a xs))(_:R (Nr a) H1)
def ID(tl:TE):TI:=λσ H R=>tl σ H λx H1=>Mj R x H1
def QV{tl:TE}(hl:PE X l tl):PI X tg l (x8 tl):=by
 refine{?_};intro pins s σ H R I h;refine bq (hl pins s σ H _ I h) λv d ⟨x,H1,c,f,k⟩=>?_;obtain⟨a,e,⟨xs,j⟩,q⟩:=k;subst e;cases f;obtain⟨g,m,p,n⟩:=c.list j;refine wpAny_pyIter_list p.isList ?_;refine{↑d,[↑d],_,_,H1,Y,c.kept (t':=d.toks) λb o e=>qE _ e,Qp a _,{_,qF _ rfl,Y,Y},λb i=>?_,q}
 have e:b=↑d:=by simpa using i
 subst e;exact c.o5 (qi _) (c.bP.fresh (qi _))
def FG{tl:TE}(hl:PE X l tl):PI X tg l (ID tl):=by
 refine{?_};intro pins s σ H R I h;refine bq (hl pins s σ H _ I h) λv c ⟨x,H1,d,g,k⟩=>?_;obtain⟨a,e,⟨xs,j⟩,q⟩:=k;subst e;cases g;obtain⟨f,m,p,n⟩:=d.tuple j;refine wpAny_pyIter_tuple (show c.heap.IsTuple a f.toArray from p) ?_;refine{↑c,[↑c],_,_,H1,Y,d.kept (t':=c.toks) λb o e=>qE _ e,NM a _,{_,qF _ rfl,Y,Y},λb i=>?_,q}
 have e:b=↑c:=by simpa using i
 subst e;exact d.o5 (qi _) (d.bP.fresh (qi _))
def Pz{pins:List (Addr×Obj)}{σ:St}{H:Hp}{s:Shared}{R:It->Hp->Prop}{E:Value->Shared->Prop}{lo hi:Int}{t u v:Tok}{tk:Nat}(I:Inv X pins σ H s)(h1:-(2 ^ 62)≤lo)(h2:lo<2 ^ 62)(f:-(2 ^ 62)≤hi)(g:hi<2 ^ 62)(q:R (FT lo (hi - lo).toNat) H):wpAny (model X.prog X.w) X.A (pyIter (.ref ↑s)) (S5 X pins σ tg R) E { s with heap:=s.heap.push { cls:=.type "range",data:=.fields #[.int lo t,.int hi u,.int 1 v] },toks:=tk }:=by
 refine wpAny_pyIter_range (IsRange.new ..) (small_one h1 h2 f g) ?_;have a:Inv X pins σ H { s with heap:=s.heap.push { cls:=.type "range",data:=.fields #[.int lo t,.int hi u,.int 1 v] },toks:=tk }:=I.kept λb o e=>qE _ e
 refine{(s.heap.push { cls:=.type "range",data:=.fields #[.int lo t,.int hi u,.int 1 v] }).objs.size,[(s.heap.push { cls:=.type "range",data:=.fields #[.int lo t,.int hi u,.int 1 v] }).objs.size],_,_,H,Y,
  a.kept (t':=tk) λb o e=>qE _ e,Pq _ lo (hi - lo).toNat,?_,λb d=>?_,q}
 ·have h:lo+((0:Nat):Int) * 1=lo:=by simp
  have c:(((hi - lo).toNat:Nat):Int) - ((0:Nat):Int)=Builtin.Range.rangeSize lo hi 1:=by rw[rangeSize_one];split <;> omega
  show IsRangeIter _ _ (lo+((0:Nat):Int) * 1) ((((hi - lo).toNat:Nat):Int) - ((0:Nat):Int)) 1;rw[h,c];exact qF _ rfl
 ·have e:b=(s.heap.push { cls:=.type "range",data:=.fields #[.int lo t,.int hi u,.int 1 v] }).objs.size:=by simpa using d
  subst e;exact a.o5 (qi _) (a.bP.fresh (qi _))
inductive ES(R:It->Hp->Prop)(vs:List V)(H1:Hp):Prop
 |mk(j:Int)(_:vs=[.int j])(_:-(2 ^ 62)≤j)(_:j<2 ^ 62)(_:R (FT 0 j.toNat) H1)
def KO(ta:TA):TI:=λσ H R=>ta σ H λvs H1=>ES R vs H1
def pF(i:Gl X "range")(hm:X.mg "range"=none)(k:PA X [a] ta)(hs:starEach [a] X.env=[(false,eval a X.env)]:=by rfl):PI X tg (.Call (.Name "range" p) [a] [] pos) (KO ta):=by
 refine{?_};intro pins s σ H R I h;refine Call_ (pN I i hm boot_range (PyProof.Rows.callWith_type1 (bq (k pos pins s σ H _ I h) λm l ⟨vs,H1,d,c,b⟩=>?_) hs rfl));obtain⟨j,e,b,f,q⟩:=b;subst e
 cases c with
 |cons r g =>
  cases g;obtain⟨t,rfl⟩:=r;exact call_range_1 (Pz d () () b f (by simpa using q))
def Ho(wi:TI)(g:TG)(tb:TS):TS:=λD σ H=>wi σ H λJ H1=>∃W:Nat->Nat->St->Hp->Prop,(∃m,W 0 m σ H1)/\∀i m σ H,W i m σ H →
 (J.stop i H/\D.nx σ H)\/(J.go i H/\∃N:St->Hp->Prop,(∀σ' H',N σ' H'->∃b,b<m/\W (i+1) b σ' H')/\∀x H',J.Dc i H x H'->g x σ H' λa H2=>tb { D with nx:=N,ct:=N,bk:=D.nx } a H2)
def fL(a:List Addr)(h:Heap):List (Addr×Obj):=a.filterMap λb=>(h.get? b).map λo=>(b,o)
def Bj(c:b∈a)(e:h.get? b=some o):(b,o)∈fL a h:=jb.mpr {b,c,by rw[e];rfl}
def HY(c:p∈fL a h):p.1∈a/\h.get? p.1=some p.2:=by
 obtain⟨b,f,e⟩:=jb.mp c
 cases q:h.get? b with
 |none=>rw[q]at e;cases e
 |some o =>
  rw[q]at e;have d:(b,o)=p:=qD e;subst d;exact{f,q}
def Inv.pinned{pins:List (Addr×Obj)}{σ:St}{H:Hp}{s:Shared}{a:List Addr}(I:Inv X pins σ H s)(g:∀b∈a,gW X pins H b)(j:∀b∈a,∃o,s.heap.get? b=some o/\∀v,o.data≠.cell v):Inv X (pins++fL a s.heap) σ H s :=
 I.iZ λp i=>(zf.mp i).elim (λz=>I.pin p (we _ z)) λz=>by
  obtain⟨c,e⟩:=HY z;obtain⟨h,f1,f2,_⟩:=g p.1 c;obtain⟨o,f,d⟩:=j p.1 c;rw[e]at f;cases f;exact{e,h,f1,f2,d}
def Inv.gS{pins a:List (Addr×Obj)}{σ:St}{H:Hp}{s:Shared}(I:Inv X (pins++a) σ H s):Inv X pins σ H s:=I.iZ λp b=>I.pin p (we _ (vp _ b))
def EV{t:List Stmt}(C:PassesOwn (model X.prog X.w) X.A X.env X.xe)(hc:X.calm=true)(hi:PI X tg iter wi)(hg:PG X tg g)(k:kx X t tb)(hs:∀x,foldedSetIterable iter X.env x=pure x:=by intro _;rfl):PS X (.For tg iter t [] pos) (Ho wi g tb):=by
 refine{?_};intro pins s σ H D I h;refine wpAny_For (bq (hi pins s σ H _ I h) λv s1 h1=>bq h1 λitv s2 h2=>?_) hs;obtain⟨it,B,Z,J,H2,e,I2,T,S,f2,W,⟨m0,w0⟩,E⟩:=h2;subst e;have j:∀{H':Hp},(∀b∈B,H' b=none)->∀b∈B,gW X pins H' b:=λhn b k=>{hn b k,(f2 b k).2};refine codeAny_forLoop_any (λn s'=>∃i σ' H',Inv X pins σ' H' s'/\Z i s'.heap/\(∀b∈B,H' b=none)/\W i n σ' H') ?_ m0 {0,σ,H2,I2,S,λb k=>(f2 b k).1,w0};rintro n s3 ⟨i,q,M,V,G,L,w3⟩;rcases E i n q M w3 with⟨K,qn⟩|⟨go,N,hN,step⟩
 ·refine wpAny_passesOwn C (bq (T.done X rfl rfl rfl hc i pins s3 q M X.xe V (j L) G K) λr s4 ⟨P,I4⟩=>?_)
  subst P;exact wpAny_execs_nil {q,M,I4,qn}
 ·refine wpAny_passesOwn C (bq (T.item X rfl rfl rfl hc i pins s3 q M X.xe V (j L) G go) λr s4 ⟨u,P,h4⟩=>?_)
  subst P;refine wpAny_passesOwn C (bq h4 λ_ Y ⟨x,H5,I5,r5,y5,z,R⟩=>?_);have Q:=I5.pinned (j R) (T.obj _ _ z);refine wpAny_passesOwn C (bq (hg _ Y q H5 x u _ Q r5 (step x H5 y5)) λ_ s6 ⟨O,H6,I6,q6⟩=>?_);refine wpAny_passesOwn C (bq (k _ s6 O H6 _ I6 q6) λf U y=>?_)
  have l:∀{a:St} {p:Hp},Inv X (pins++fL B Y.heap) a p U->N a p->∃m,m<n/\∃i σ' H',Inv X pins σ' H' U/\Z i U.heap/\(∀b∈B,H' b=none)/\W i m σ' H':=λ{a p} c F=>by
   obtain⟨m',hm,w7⟩:=hN a p F;refine{m',hm,i+1,a,p,c.gS,T.keep _ _ _ z λb k o e=>(c.pin (b,o) (we _ (we _ (Bj k e)))).1,λb k=>?_,w7};obtain⟨o,e,d⟩:=T.obj _ _ z b k;exact(c.pin (b,o) (we _ (we _ (Bj k e)))).2.1
  cases f with
  |next=>obtain⟨a,p,c,F⟩:=y;exact l c F
  |cont=>obtain⟨a,p,c,F⟩:=y;exact l c F
  |brk=>obtain⟨a,p,c,y⟩:=y;exact{a,p,c.gS,y}
  |ret v=>obtain⟨x7,a,p,c,r7,y⟩:=y;exact{x7,a,p,c.gS,r7,y}
end
def oY{a:Addr}{xs:List V}{g:TG}{tb:TS}{D:Ends}{σ:St}{H:Hp}(b:Nat->St->Hp->Prop)(k:b 0 σ H)(hl:∀i σ H,i≤xs.length->b i σ H->au H a xs)(hs:∀i x σ H,xs[i]?=some x->b i σ H->g x σ H λc H2=>tb { D with nx:=b (i+1),ct:=b (i+1),bk:=D.nx } c H2)(h:∀σ H,b xs.length σ H->D.nx σ H) :
  ∃W:Nat->Nat->St->Hp->Prop,(∃m,W 0 m σ H)/\∀i m σ H,W i m σ H →
   ((Dv a).stop i H/\D.nx σ H)\/((Dv a).go i H/\∃N:St->Hp->Prop,(∀σ' H',N σ' H'->∃f,f<m/\W (i+1) f σ' H')/\∀x H',(Dv a).Dc i H x H'->g x σ H' λc H2=>tb { D with nx:=N,ct:=N,bk:=D.nx } c H2):=by
 refine{λi m σ H=>m=xs.length - i/\i≤xs.length/\b i σ H,{xs.length,by simp,Nat.zero_le _,k},?_};rintro i m σ H ⟨rfl,hi,p⟩;have q:=hl i σ H hi p
 by_cases d:i<xs.length
 ·refine .inr {{xs,xs[i],q,by simp[d]},b (i+1),λσ' H' j=>{xs.length - (i+1),(),Y,d,j},λx H' y=>?_}
  obtain⟨e,y⟩:=y;subst e;exact hs i x σ _ (y xs q) p
 ·have e:i=xs.length:=()
  subst e;exact .inl {{xs,q,qi _},h σ H p}
def vD{lo:Int}{n:Nat}{g:TG}{tb:TS}{D:Ends}{σ:St}{H:Hp}(c:Nat->St->Hp->Prop)(j:c 0 σ H)(hs:∀i σ H,i<n->c i σ H->g (.int (lo+i)) σ H λa H2=>tb { D with nx:=c (i+1),ct:=c (i+1),bk:=D.nx } a H2)(f:∀σ H,c n σ H->D.nx σ H) :
  ∃W:Nat->Nat->St->Hp->Prop,(∃m,W 0 m σ H)/\∀i m σ H,W i m σ H →
   ((FT lo n).stop i H/\D.nx σ H)\/((FT lo n).go i H/\∃N:St->Hp->Prop,(∀σ' H',N σ' H'->∃d,d<m/\W (i+1) d σ' H')/\∀x H',(FT lo n).Dc i H x H'->g x σ H' λa H2=>tb { D with nx:=N,ct:=N,bk:=D.nx } a H2):=by
 refine{λi m σ H=>m=n - i/\i≤n/\c i σ H,{n,by simp,Nat.zero_le _,j},?_};rintro i m σ H ⟨rfl,hi,p⟩
 by_cases b:i<n
 ·refine .inr {b,c (i+1),λσ' H' h=>{n - (i+1),(),Y,b,h},λx H' y=>?_}
  obtain⟨e,y⟩:=y;subst e y;exact hs i σ _ b p
 ·have e:i=n:=()
  subst e;exact .inl {qi _,f σ H p}
abbrev R2:=V->V->Hp->VK->Prop
def df(X:Cx)(f:Value->Value->Sem Value)(r:R2):Prop :=
 ∀(pins:List (Addr×Obj)) (s:Shared) (σ:St) (H:Hp) (x y:V) (v u:Value) (Q:VK),Inv X pins σ H s->RelV x v->RelV y u->r x y H Q →
  wpAny (model X.prog X.w) X.A (f v u) (EP X pins σ Q) X.xe s
def R6(X:Cx)(f:Value->Sem Value)(r:V->Hp->VK->Prop):Prop :=
 ∀(pins:List (Addr×Obj)) (s:Shared) (σ:St) (H:Hp) (x:V) (v:Value) (Q:VK),Inv X pins σ H s->RelV x v->r x H Q →
  wpAny (model X.prog X.w) X.A (f v) (EP X pins σ Q) X.xe s
def cu(X:Cx)(f:Value)(r:List V->Hp->VK->Prop):Prop :=
 ∀(pins:List (Addr×Obj)) (s:Shared) (σ:St) (H:Hp) (xs:List V) (a:List Value) (Q:VK),Inv X pins σ H s->aF xs a->r xs H Q →
  wpAny (model X.prog X.w) X.A (call f a) (EP X pins σ Q) X.xe s
def ow(r:R2)(ta tb:TE):TE:=λσ H Q=>ta σ H λx H1=>tb σ H1 λy H2=>r x y H2 Q
def S_(r:V->Hp->VK->Prop)(ta:TE):TE:=λσ H Q=>ta σ H λx H1=>r x H1 Q
inductive rI(C:Int->Int->Prop)(g:Int->Int->V)(x y:V)(H:Hp)(Q:VK):Prop
 |mk(i j:_)(_:x=.int i)(_:y=.int j)(_:C i j)(_:Q (g i j) H)
inductive AG(g:Int->Int->V)(x y:V)(H:Hp)(Q:VK):Prop
 |mk(i j:_)(_:x=.int i)(_:y=.int j)(_:Q (g i j) H)
inductive rU(g:Int->V)(x:V)(H:Hp)(Q:VK):Prop
 |mk(i:_)(_:x=.int i)(_:Q (g i) H)
section
variable {X:Cx}{a b c:Expr}{ta tb tc:TE}{pos:Pos}
def Du(p:PE X a ta)(k:PE X b tb){pins:List (Addr×Obj)}{s:Shared}{σ:St}{H:Hp}{R:V->V->Hp->Prop}(I:Inv X pins σ H s)(h:ta σ H λx H1=>tb σ H1 λy H2=>R x y H2){Q:Value->Shared->Prop}{f:Value->Value->Sem Value}(i:∀v u e x y H2,Inv X pins σ H2 e->RelV x v->RelV y u->R x y H2->wpAny (model X.prog X.w) X.A (f v u) Q X.xe e) :
  wpAny (model X.prog X.w) X.A (eval a X.env) (λv d=>wpAny (model X.prog X.w) X.A (eval b X.env) (λu c=>wpAny (model X.prog X.w) X.A (f v u) Q X.xe c) X.xe d) X.xe s:=by
 refine bq (p pins s σ H _ I h) λv m ⟨x,H1,j,g,o⟩=>?_;refine bq (k pins m σ H1 _ j o) λu e ⟨y,H2,q,n,l⟩=>?_;exact i v u e x y H2 q g n l
def ae{c:Operator}{r:R2}(g:df X (binaryOp c) r)(i:PE X a ta)(d:PE X b tb):PE X (.BinOp a c b pos) (ow r ta tb):=by
 refine{?_};intro pins s σ H Q I h;exact wpAny_BinOp (Du i d I h λv u f x y H2 j k e q=>g pins f σ H2 x y v u Q j k e q)
def mK{b:UnaryOp}{r:V->Hp->VK->Prop}(g:R6 X (unaryOp b) r)(i:PE X a ta):PE X (.UnaryOp b a pos) (S_ r ta):=by
 refine{?_};intro pins s σ H Q I h;exact UnaryOp_ (bq (i pins s σ H _ I h) λv e ⟨x,H1,c,d,f⟩=>g pins e σ H1 x v Q c d f)
def Mf{f:Value->Value->Sem Value}{C:Int->Int->Prop}{g:Int->Int->Int}(a:∀(i j:Int) (t u:Tok) (s:Shared) (Q:Value->Shared->Prop) (E:Value->Shared->Prop),C i j->Q (.int (g i j) s.toks) { s with toks:=s.toks+1 }->wpAny (model X.prog X.w) X.A (f (.int i t) (.int j u)) Q E s) :
  df X f (rI C λi j=>.int (g i j)):=by
 intro pins s σ H x y v u Q I d b h;obtain⟨i,j,rfl,rfl,c,q⟩:=h;obtain⟨t,rfl⟩:=d;obtain⟨t',rfl⟩:=b;exact a i j t t' s _ _ c {.int (g i j),H,I.tok _,{_,Y},q}
def Le{f:Value->Value->Sem Value}{g:Int->Int->Int}(a:∀(i j:Int) (t u:Tok) (s:Shared) (Q:Value->Shared->Prop) (E:Value->Shared->Prop),Q (.int (g i j) s.toks) { s with toks:=s.toks+1 }->wpAny (model X.prog X.w) X.A (f (.int i t) (.int j u)) Q E s) :
  df X f (AG λi j=>.int (g i j)):=by
 intro pins s σ H x y v u Q I c b h;obtain⟨i,j,rfl,rfl,q⟩:=h;obtain⟨t,rfl⟩:=c;obtain⟨t',rfl⟩:=b;exact a i j t t' s _ _ {.int (g i j),H,I.tok _,{_,Y},q}
def Cu{f:Value->Value->Sem Value}{g:Int->Int->Bool}(a:∀(i j:Int) (t u:Tok) (s:Shared) (Q:Value->Shared->Prop) (E:Value->Shared->Prop),Q (.bool (g i j)) s->wpAny (model X.prog X.w) X.A (f (.int i t) (.int j u)) Q E s) :
  df X f (AG λi j=>.bl (g i j)):=by
 intro pins s σ H x y v u Q I c b h;obtain⟨i,j,rfl,rfl,q⟩:=h;obtain⟨t,rfl⟩:=c;obtain⟨t',rfl⟩:=b;exact a i j t t' s _ _ {.bl (g i j),H,I,Y,q}
def P_(i j:Int):Prop:=0<j/\j<1073741824
def Si(i j:Int):Prop:=0≤j/\j≤1000000/\i.natAbs<2 ^ 64
def Fy(i j:Int):Prop:=(-(2 ^ 64)<i/\i<2 ^ 64)\/(-(2 ^ 64)<j/\j<2 ^ 64)
def Fy.ok(h:Fy i j):IntMulOk i j:=by
 rcases h with⟨h1,h2⟩|⟨h1,h2⟩
 ·exact .of_left (intBits_le_64 h1 h2)
 ·exact .of_right (intBits_le_64 h1 h2)
def er:df X (binaryOp .Add) (AG λi j=>.int (i+j)):=Le λ_ _ _ _ _ _ _ q=>add_int q
def ny:df X (binaryOp .Sub) (AG λi j=>.int (i - j)):=Le λ_ _ _ _ _ _ _ q=>sub_int q
def kM:df X (binaryOp .Mult) (rI Fy λi j=>.int (i * j)):=Mf λ_ _ _ _ _ _ _ a q=>mul_int q a.ok
def dX:df X (binaryOp .FloorDiv) (rI P_ λi j=>.int (i / j)):=Mf λi j _ _ _ _ _ a q=>by
 have h1:(0:Int)<j:=a.1;have h2:j<1073741824:=a.2;exact floordiv_int () (by rw[Int.fdiv_eq_ediv_of_nonneg i ()];exact q) (.inl (PyProof.noPylong_small ()))
def b':df X (binaryOp .Mod) (rI (λ_ j=>0<j) λi j=>.int (i % j)):=Mf λi j _ _ _ _ _ a q=>by
 have h1:(0:Int)<j:=a;exact mod_int' () (by rw[Int.fmod_eq_emod_of_nonneg i ()];exact q)
def oK:df X (binaryOp .Pow) (rI Si λi j=>.int (i ^ j.toNat)):=Mf λ_ _ _ _ _ _ _ a q=>pow_int_small a.1 a.2.1 a.2.2 q
def Ts{f:Value->Sem Value}{g:Int->Int}(a:∀(i:Int) (t:Tok) (s:Shared) (Q:Value->Shared->Prop) (E:Value->Shared->Prop),Q (.int (g i) s.toks) { s with toks:=s.toks+1 }->wpAny (model X.prog X.w) X.A (f (.int i t)) Q E s) :
  R6 X f (rU λi=>.int (g i)):=by
 intro pins s σ H x v Q I b h;obtain⟨i,rfl,q⟩:=h;obtain⟨t,rfl⟩:=b;exact a i t s _ _ {.int (g i),H,I.tok _,{_,Y},q}
def rG:R6 X (unaryOp .USub) (rU λi=>.int (-i)):=Ts λ_ _ _ _ _ q=>neg_int q
end
def G8:V->V->Bool
 |.a',.a'=>true|.a',.int _=>true|.int _,.a'=>true|.a',.bl _=>true|.bl _,.a'=>true|.a',.str _=>true|.str _,.a'=>true
 |.int _,.int _=>true|.bl _,.bl _=>true|.str _,.str _=>true|.rX _,.rX _=>true
 |.int _,.str _=>true|.str _,.int _=>true|.bl _,.str _=>true|.str _,.bl _=>true
 |_,_=>false
def TC:R2:=λx y H Q=>G8 x y=true/\Q (.bl (decide (x=y))) H
def TK:R2:=λx y H Q=>G8 x y=true/\Q (.bl (!decide (x=y))) H
def uP:decide (V.int i=V.int j)=(i==j):=by
 rw[yg]
 simp
def G3:decide (V.bl i=V.bl j)=(i==j):=by
 rw[yg]
 simp
def K5:decide (V.str i=V.str j)=(i==j):=by
 rw[yg]
 simp
def LX:decide (V.rX i=V.rX j)=(i.toList==j.toList):=by
 rw[yg];cases i;cases j
 simp
section
variable {X:Cx}{a b c:Expr}{ta tb tc:TE}{pos:Pos}
def cD{pins:List (Addr×Obj)}{σ:St}{H:Hp}{s:Shared}{Q:VK}{k a:Bool}(I:Inv X pins σ H s)(q:Q (.bl k) H)(e:k=a):EP X pins σ Q (.bool a) s:=by
 subst e;exact{.bl k,H,I,Y,q}
def aR:df X (compareOp .Eq) TC:=by
 intro pins s σ H x y v u Q I b a h;obtain⟨hs,q⟩:=h
 cases x with
 |a' =>
  cases b
  cases y with
  |a'=>cases a;exact PySem.EqNone.eq_none_none (cD I q (by simp))
  |bl j=>cases a;exact PySem.EqNone.eq_none_bool (cD I q (by simp))
  |int j=>obtain⟨t',rfl⟩:=a;exact PySem.EqNone.eq_none_int (cD I q (by simp))
  |str j=>obtain⟨t',rfl⟩:=a;exact PySem.EqNone.eq_none_str (cD I q (by simp))
  |_=>exact absurd (show false=true from hs) zg
 |bl i =>
  cases b
  cases y with
  |a'=>cases a;exact PySem.EqNone.eq_bool_none (cD I q (by simp))
  |bl j=>cases a;exact eq_bool (cD I q G3)
  |str j=>obtain⟨t',rfl⟩:=a;exact PySem.EqMixed.eq_bool_str (cD I q (by simp))
  |_=>exact absurd (show false=true from hs) zg
 |int i =>
  obtain⟨t,rfl⟩:=b
  cases y with
  |a'=>cases a;exact PySem.EqNone.eq_int_none (cD I q (by simp))
  |int j=>obtain⟨t',rfl⟩:=a;exact eq_int (cD I q uP)
  |str j=>obtain⟨t',rfl⟩:=a;exact PySem.EqMixed.eq_int_str (cD I q (by simp))
  |_=>exact absurd (show false=true from hs) zg
 |str i =>
  obtain⟨t,rfl⟩:=b
  cases y with
  |a'=>cases a;exact PySem.EqNone.eq_str_none (cD I q (by simp))
  |bl j=>cases a;exact PySem.EqMixed.eq_str_bool (cD I q (by simp))
  |int j=>obtain⟨t',rfl⟩:=a;exact PySem.EqMixed.eq_str_int (cD I q (by simp))
  |str j=>obtain⟨t',rfl⟩:=a;exact eq_str (cD I q K5)
  |_=>exact absurd (show false=true from hs) zg
 |rX i =>
  obtain⟨t,rfl⟩:=b
  cases y with
  |rX j=>obtain⟨t',rfl⟩:=a;exact PySem.W.eq_bytes (cD I q LX)
  |_=>exact absurd (show false=true from hs) zg
 |_=>cases y <;> exact absurd (show false=true from hs) zg
def jZ:df X (compareOp .NotEq) TK:=by
 intro pins s σ H x y v u Q I b a h;obtain⟨hs,q⟩:=h
 cases x with
 |a' =>
  cases b
  cases y with
  |a'=>cases a;exact PySem.EqNone.ne_none_none (cD I q (by simp))
  |bl j=>cases a;exact PySem.EqNone.ne_none_bool (cD I q (by simp))
  |int j=>obtain⟨t',rfl⟩:=a;exact PySem.EqNone.ne_none_int (cD I q (by simp))
  |str j=>obtain⟨t',rfl⟩:=a;exact PySem.EqNone.ne_none_str (cD I q (by simp))
  |_=>exact absurd (show false=true from hs) zg
 |bl i =>
  cases b
  cases y with
  |a'=>cases a;exact PySem.EqNone.ne_bool_none (cD I q (by simp))
  |bl j=>cases a;exact ne_bool (cD I q (congrArg not G3))
  |str j=>obtain⟨t',rfl⟩:=a;exact PySem.EqMixed.ne_bool_str (cD I q (by simp))
  |_=>exact absurd (show false=true from hs) zg
 |int i =>
  obtain⟨t,rfl⟩:=b
  cases y with
  |a'=>cases a;exact PySem.EqNone.ne_int_none (cD I q (by simp))
  |int j=>obtain⟨t',rfl⟩:=a;exact ne_int (cD I q (congrArg not uP))
  |str j=>obtain⟨t',rfl⟩:=a;exact PySem.EqMixed.ne_int_str (cD I q (by simp))
  |_=>exact absurd (show false=true from hs) zg
 |str i =>
  obtain⟨t,rfl⟩:=b
  cases y with
  |a'=>cases a;exact PySem.EqNone.ne_str_none (cD I q (by simp))
  |bl j=>cases a;exact PySem.EqMixed.ne_str_bool (cD I q (by simp))
  |int j=>obtain⟨t',rfl⟩:=a;exact PySem.EqMixed.ne_str_int (cD I q (by simp))
  |str j=>obtain⟨t',rfl⟩:=a;exact ne_str (cD I q (congrArg not K5))
  |_=>exact absurd (show false=true from hs) zg
 |rX i =>
  obtain⟨t,rfl⟩:=b
  cases y with
  |rX j=>obtain⟨t',rfl⟩:=a;exact PySem.W.ne_bytes (cD I q (congrArg not LX))
  |_=>exact absurd (show false=true from hs) zg
 |_=>cases y <;> exact absurd (show false=true from hs) zg
def lA:df X (compareOp .Lt) (AG λi j=>.bl (decide (i<j))):=Cu λ_ _ _ _ _ _ _ q=>lt_int q
def gH:df X (compareOp .LtE) (AG λi j=>.bl (decide (i≤j))):=Cu λ_ _ _ _ _ _ _ q=>le_int q
def iz:df X (compareOp .Gt) (AG λi j=>.bl (decide (j<i))):=Cu λ_ _ _ _ _ _ _ q=>gt_int q
inductive nU(x y:V)(H:Hp)(Q:VK):Prop
 |mk(i j:_)(_:x=.str i)(_:y=.str j)(_:Q (.bl (!(Builtin.Str.occurrences j i 0 j.length 1).isEmpty)) H)
def So:df X (compareOp .In) nU:=by
 intro pins s σ H x y v u Q I b a h;obtain⟨i,j,rfl,rfl,q⟩:=h;obtain⟨t,rfl⟩:=b;obtain⟨t',rfl⟩:=a;exact in_str (cD I q rfl)
def pK:df X (compareOp .Is) (λx y H Q=>y=.a'/\Q (.bl (decide (x=.a'))) H):=by
 intro pins s σ H x y v u Q I a b h;obtain⟨rfl,q⟩:=h;cases b;refine is_none_gen (cD I q ?_)
 cases x <;> first
  |(cases a;rfl)
  |(obtain⟨t,rfl⟩:=a;rfl)
def Rk{c:CmpOp}{r:R2}(g:df X (compareOp c) r)(i:PE X a ta)(d:PE X b tb)(hm:behindInMarks c b=false):PE X (.Compare a [c] [b] pos) (ow r ta tb):=by
 refine{?_};intro pins s σ H Q I h;exact wpAny_Compare1 (Du i d I h λv u f x y H2 j k e q=>g pins f σ H2 x y v u Q j k e q) hm
inductive z_(Q:Bool->Hp->Prop)(x:V)(H':Hp):Prop
 |mk(k:_)(_:x=.bl k)(_:Q k H')
def rV(t:TE):TT:=λσ H Q=>t σ H λx H'=>z_ Q x H'
def O2(C:df X (compareOp d) r)(B:PE X a ta)(j:PE X b tb)(hm:behindInMarks d b=false):PT X (.Compare a [d] [b] pos) (rV (ow r ta tb)):=by
 refine{?_};intro pins s σ H Q I h
 refine wpAny_isTrue_Compare1 (bq (B pins s σ H _ I h) λv n ⟨x,H1,i,f,w⟩=>bq (j pins n σ H1 _ i w) λu o ⟨y,H2,p,q,l⟩ =>
  bq (C pins o σ H2 x y v u _ p f q l) λc D ⟨z,t,m,A,k,e,g⟩=>?_) hm
 subst e;cases A;exact wpAny_truthy_bool {t,m,g}
inductive vO(r':R2)(tc:TE)(σ:St)(Q:VK)(y z:V)(H3:Hp):Prop
 |mk(k:_)(_:z=.bl k)(_:(if k=true then tc σ H3 λw' H4=>r' y w' H4 Q else Q (.bl false) H3))
def tq(r a:R2)(ta tb tc:TE):TE:=λσ H Q=>ta σ H λx H1=>tb σ H1 λy H2=>r x y H2 λz b=>vO a tc σ Q y z b
def BY(w:df X (compareOp i) r)(g:df X (compareOp f) m)(R:PE X a ta)(D:PE X b tb)(N:PE X c tc)(hm:lastMarks [i,f] [b,c]=false:=by with_unfolding_all rfl):PE X (.Compare a [i,f] [b,c] pos) (tq r m ta tb tc):=by
 refine{?_};intro pins s σ H Q I h
 refine Compare_chain (bq (R pins s σ H _ I h) λv K ⟨x,H1,L,C,G⟩=>chain_link (bq (D pins K σ H1 _ L G) λu O ⟨y,H2,S,l,E⟩ =>
  bq (w pins O σ H2 x y v u _ S C l E) λd J ⟨z,n,j,A,k,e,o⟩=>?_)) hm
 subst e;cases A;refine wpAny_truthy_bool ?_
 cases k with
 |false=>exact ite_ff {.bl false,n,j,Y,o}
 |true=>exact ite_tt (chain_last (bq (N pins J σ n _ j o) λt p ⟨B,q,M,F,P⟩=>g pins p σ q y B u t Q M l F P))
def uU(A:df X (compareOp i) r)(g:df X (compareOp f) m)(Y:PE X a ta)(E:PE X b tb)(U:PE X c tc)(hm:lastMarks [i,f] [b,c]=false:=by with_unfolding_all rfl):PT X (.Compare a [i,f] [b,c] pos) (rV (tq r m ta tb tc)):=by
 refine{?_};intro pins s σ H Q I h
 refine isTrue_chain (bq (Y pins s σ H _ I h) λv M ⟨x,H1,R,D,K⟩=>test_link (bq (E pins M σ H1 _ R K) λu V ⟨y,H2,Z,l,F⟩ =>
  bq (A pins V σ H2 x y v u _ Z D l F) λd L ⟨z,n,j,B,k,e,o⟩=>?_)) hm
 subst e;cases B;refine wpAny_truthy_bool ?_
 cases k with
 |false =>
  obtain⟨k',P,q'⟩:=o;cases P;exact ite_ff {n,j,q'}
 |true =>
  refine ite_tt (test_last (bq (U pins L σ n _ j o) λw p ⟨C,t,T,J,W⟩=>bq (g pins p σ t y C u w _ T l J W) λd' s5 ⟨z2,N,O,q,k2,S,G⟩=>?_));subst S;cases q;exact wpAny_truthy_bool {N,O,G}
def pB:(sizeLine:Nat)<2 ^ 63:=by rw[sizeLine_eq];decide
inductive l_(x y:V)(H:Hp)(Q:VK):Prop
 |mk(i j:_)(_:x=.str i)(_:y=.str j)(_:i.length+j.length≤sizeLine)(_:Q (.str (i++j)) H)
def aL:df X (binaryOp .Add) l_:=by
 intro pins s σ H x y v u Q I c a h;obtain⟨i,j,rfl,rfl,b,q⟩:=h;obtain⟨t,rfl⟩:=c;obtain⟨t',rfl⟩:=a;exact add_str (λt' tk=>{.str (i++j),H,I.tok _,{_,Y},q}) b
def vals1{x:V}{a:List Value}(r:aF [x] a):∃u,a=[u]/\RelV x u:=by
 cases r with
 |cons b c=>cases c;exact{_,Y,b}
def vals2{x y:V}{b:List Value}(r:aF [x,y] b):∃u a,b=[u,a]/\RelV x u/\RelV y a:=by
 cases r with
 |cons c e =>
  cases e with
  |cons f d=>cases d;exact{_,_,Y,c,f}
inductive nk(xs:List V)(H:Hp)(Q:VK):Prop
 |mk(i j:_)(_:xs=[.int i,.int j])(_:Q (.int (if j>i then j else i)) H)
def B6(b:X.calm=true):cu X (.builtin "max") nk:=by
 intro pins s σ H xs d Q I r h;obtain⟨i,j,rfl,q⟩:=h;obtain⟨u,c,rfl,⟨t,rfl⟩,⟨t',rfl⟩⟩:=vals2 r;refine max_two_ints (I.ok.hd b) λh' tk k=>{_,H,I.kept k,?_,q}
 by_cases a:j>i
 ·rw[q0 a,q0 a];exact{_,Y}
 ·rw[qq a,qq a];exact{_,Y}
def mR:cu X (.type "int") (λxs H Q=>(∃i,xs=[.int i]/\Q (.int i) H)\/∃k,xs=[.bl k]/\Q (.int (if k then 1 else 0)) H):=by
 intro pins s σ H xs b Q I r h;rcases h with⟨i,rfl,q⟩|⟨k,rfl,q⟩
 ·obtain⟨u,rfl,t,rfl⟩:=vals1 r
  exact call_int_int {.int i,H,I,{_,Y},q}
 ·obtain⟨u,rfl,a⟩:=vals1 r
  cases a;exact call_int_bool {.int (if k then 1 else 0),H,I.tok _,{_,Y},q}
end
structure A4(h:Heap)(x dx C:Addr)(mA:Str->Option Value):Prop where
 obj:h.get? x=some (PySem.W.instObj C dx)
 ns:h.Ns1 dx mA
 ne:dx≠x
def Rt{h:Heap}{dx:Addr}{c:Str->Option Value}(n:h.Ns1 dx c):∃d,h.get? dx=some d/\∀name,PySem.W.lookIn name d=some (c name):=by
 obtain⟨o,es,l,i,j,f,_,hm⟩:=n;refine{o,i,λname=>?_};have e:=hm name;unfold nsFind findBy at e;rw[←Array.find?_toList]at e;unfold PySem.W.lookIn;rw[j];dsimp only
 split
 ·rename_i y q
  rw[q]at e;exact congrArg some e
 ·rename_i q
  rw[q]at e
  have a:es.toList.any (·.refKey)=false:=by
   rw[List.any_eq_false];intro y g;obtain⟨z,t,b⟩:=f y (Array.mem_toList_iff.mp g)
   simp[DictEntry.refKey,b]
  have k:¬es.toList.any (·.refKey)=true:=by rw[a];exact zg
  rw[qq k];exact congrArg some e
def A4.look(I:A4 h x dx C b):∃a,PySem.W.InstAt h x (PySem.W.instObj C dx) C (some a)/\∀name,PySem.W.lookIn name a=some (b name) :=
 let⟨a,c,hl⟩:=Rt I.ns
 {a,{I.obj,Y,Y,c},hl}
def jV.some_of(r:jV (some v) o):∃u,o=some u/\RelV v u:=by
 cases o with
 |none=>exact(show False from r).elim
 |some u=>exact{u,Y,r}
section
variable {P:Program}{w:World}{H H':Hp}{h h':Heap}{a C dx:Addr}{fs fs':List (Str×V)}
def QI(c:eV P w H h)(e:H a=some (.ins C dx fs)):∃b,A4 h a dx C b/\(∀f,jV (fs.lookup f) (b f))/\PySem.Within b (fs.map (·.1))/\fs.length≤1000/\H dx=some (.own a):=by
 obtain⟨d,z,ne,g,b,n,r,q⟩:=(show ba P w H h a (.ins C dx fs) from c a _ e);exact{b,{g,n,ne},r,q,z,d}
end
structure Sq(K:PySem.W.Frag)(C:Addr):Prop where
 pg:PySem.W.plainGet K C Str.empty=true
 hd:PySem.W.hasDictIn K C=true
 po:PySem.W.plainOver K C=true
 sa:PySem.W.findIn K (.ref C) "__setattr__"=some (some (.builtin "object.__setattr__"))
def Sq.get{K:PySem.W.Frag}{C:Addr}(c:Sq K C)(f:Str):PySem.W.plainGet K C f=true:=c.pg
section
variable {X:Cx}{pins:List (Addr×Obj)}{σ:St}{H:Hp}{s:Shared}{A:Around}{E:Value->Shared->Prop}{Q:Value->Shared->Prop}{c:Value}{b:Bool}
inductive gX(K:PySem.W.Frag)(H:Hp):V->Value->Prop where
 |a':gX K H .a' (.type "NoneType")
 |bl (x:Bool):gX K H (.bl x) (.type "bool")
 |int (i:Int):gX K H (.int i) (.type "int")
 |str (x:Str):gX K H (.str x) (.type "str")
 |GV (x:UInt64):gX K H (.GV x) (.type "float")
 |lst {a:Addr} {xs:List V} (e:H a=some (.lst xs)):gX K H (.ref a) (.type "list")
 |m_ {a:Addr} {o:Obj} {xs:List V} (e:H a=some (.m_ o (.lst xs))):gX K H (.ref a) (.type "list")
 |tup {a:Addr} {xs:List V} (e:H a=some (.tup xs)):gX K H (.ref a) (.type "tuple")
 |dK {a:Addr} {kvs:List (Key×V)} (e:H a=some (.dK kvs)):gX K H (.ref a) (.type "dict")
 |dT {a:Addr} {kvs:List (List Key×V)} (e:H a=some (.dT kvs)):gX K H (.ref a) (.type "dict")
 |dG {a:Addr} {kvs:List (KD×V×V)} (e:H a=some (.dG kvs)):gX K H (.ref a) (.type "dict")
 |ins {a C dx:Addr} {fs:List (Str×V)} (e:H a=some (.ins C dx fs)) (cl:Sq K C) (ha:PySem.W.findIn K (.ref C) "__class__"=some (some (.builtin "object.__class__")))
   (hn:PySem.W.specialIn K (.builtin "object.__class__") "__get__"=some (some (.builtin "getset_descriptor.__get__"))) (htk:PySem.W.takesIn K (.builtin "object.__class__")=some true)
   (hm:PySem.W.mroIn K C (.type "object")=some true):gX K H (.ref a) (.ref C)
def Pl{u t:Value}(I:Inv X pins σ H s)(f:RelV x u)(ty:gX X.K H x t)(e:PySem.W.kitOne X.K t c=some b)(h:∀tk,Q (.bool b) { s with toks:=tk }) :
  wpAny (model X.prog X.w) A (call (.builtin "isinstance") [u,c]) Q E s:=by
 cases ty with
 |a'=>cases(show u=Value.none from f);exact PySem.W.kia_one PySem.W.kitx_none I.jM True.intro e (λz=>nomatch z) h
 |bl y=>cases(show u=Value.bool y from f);exact PySem.W.kia_one PySem.W.kitx_bool I.jM True.intro e (λz=>nomatch z) h
 |int i=>obtain⟨t,q⟩:=(show ∃t,u=Value.int i t from f);cases q;exact PySem.W.kia_one PySem.W.kitx_int I.jM True.intro e (λz=>nomatch z) h
 |str y=>obtain⟨t,q⟩:=(show ∃t,u=Value.str y t from f);cases q;exact PySem.W.kia_one PySem.W.kitx_str I.jM True.intro e (λz=>nomatch z) h
 |GV y=>obtain⟨t,q⟩:=(show ∃t,u=Value.float y t from f);cases q;exact PySem.W.kia_one PySem.W.kitx_float I.jM True.intro e (λz=>nomatch z) h
 |@lst a xs d =>
  cases(show u=Value.ref a from f);obtain⟨_,_,n,_,h1⟩:=(show ba X.prog X.w H s.heap a (.lst xs) from I.bP a _ d);exact PySem.W.kia_one PySem.W.kitx_list I.jM {_,h1,Y} e (λz=>nomatch z) h
 |@m_ a k xs d =>
  cases(show u=Value.ref a from f);obtain⟨_,_,_,n,_,h1⟩:=(show ba X.prog X.w H s.heap a (.m_ k (.lst xs)) from I.bP a _ d);exact PySem.W.kia_one PySem.W.kitx_list I.jM {_,h1,Y} e (λz=>nomatch z) h
 |@tup a xs d =>
  cases(show u=Value.ref a from f);obtain⟨_,_,_,p⟩:=(show ba X.prog X.w H s.heap a (.tup xs) from I.bP a _ d);obtain⟨o,h1,h2,_⟩:=p;exact PySem.W.kia_one PySem.W.kitx_tuple I.jM {o,h1,h2} e (λz=>nomatch z) h
 |@dK a kvs d =>
  cases(show u=Value.ref a from f);obtain⟨_,_,vs,_,p⟩:=(show ba X.prog X.w H s.heap a (.dK kvs) from I.bP a _ d);obtain⟨o,es,j,h1,h2,_⟩:=p;exact PySem.W.kia_one PySem.W.kitx_dict I.jM {o,h1,h2.1} e (λz=>nomatch z) h
 |@dT a kvs d =>
  cases(show u=Value.ref a from f);obtain⟨_,_,xs,_,o,es,j,h1,h2,_⟩:=(show ba X.prog X.w H s.heap a (.dT kvs) from I.bP a _ d);exact PySem.W.kia_one PySem.W.kitx_dict I.jM {o,h1,h2.1} e (λz=>nomatch z) h
 |@dG a kvs d =>
  cases(show u=Value.ref a from f);obtain⟨_,_,xs,_,o,es,j,h1,h2,_⟩:=(show ba X.prog X.w H s.heap a (.dG kvs) from I.bP a _ d);exact PySem.W.kia_one PySem.W.kitx_dict I.jM {o,h1,h2.1} e (λz=>nomatch z) h
 |@ins a C dx fs d cl m l g hm =>
  cases(show u=Value.ref a from f);obtain⟨r,O,_⟩:=QI I.bP d;obtain⟨v,J,_⟩:=O.look;exact PySem.W.kia_one (PySem.W.kitx_own (cl.get _) cl.hd m l g hm) I.jM J e (λz=>nomatch z) h
end
structure cg(k:Nat)(A:Around):Prop where
 hd:A.handled=none
 dp:A.depth+3 * k+5<recursionLimit
 un:A.units+16 * k+200<cLine
 gd:A.guards=some []
def cg.mono(r:cg k A)(h:j≤k):cg j A:={r.hd,by have:=r.dp;omega,by have:=r.un;omega,r.gd}
theorem cg.deeper(r:cg (k+1) A)(env:Env):cg k (A.deeper env) :=
 {r.hd,by have:=r.dp;show A.depth+1+3 * k+5<_;omega,by have:=r.un;show A.units+3+16 * k+200<_;omega,r.gd}
theorem cg.depth(r:cg k A):A.depth<recursionLimit:=by have:=r.dp;omega
theorem cg.units(r:cg k A):A.units+64<cLine:=by have:=r.un;omega
def ni:TA:=λ_ H Q=>Q [] H
def eE(ta:TE)(a:TA):TA:=λσ H Q=>ta σ H λx H1=>a σ H1 λxs H2=>Q (x::xs) H2
section
variable {X:Cx}{e:Expr}{es:List Expr}{te:TE}{t:TA}{pos:Pos}
def kQ:PA X [] ni:={λ_ _ _ _ H Q I h=>Calls.spliced_nil {[],H,I,.nil,h}}
def F_(j:PE X e te)(d:PA X es t)(hs:starEach (e::es) X.env=(false,eval e X.env)::starEach es X.env:=by rfl):PA X (e::es) (eE te t):=by
 refine{?_};intro pos pins s σ H Q I h;rw[hs];show wpAny _ _ (spliced ((false,eval e X.env)::backTo pos (starEach es X.env))) _ _ s;refine Calls.spliced_cons (bq (j pins s σ H _ I h) λu f ⟨x,H1,b,a,i⟩=>?_);exact bq (d pos pins f σ H1 _ b i) λm l ⟨xs,H2,k,g,c⟩=>{x::xs,H2,k,.cons a g,c}
end
abbrev Sp:=List V->Hp->VK->XK->Prop
abbrev sL:=List Env->Hp->Shared->XK->Value->Shared->Prop
structure vK(P:Program)(w:World)(K:PySem.W.Frag)(mg:Str->Option Value)(base:Heap)(A:Around)(outer:List Env)(s:Shared)(H:Hp):Prop where
 frames:A.frames=some outer
 mod:Mod K mg base
 bs:∀b o,base.get? b=some o->s.heap.get? b=some o/\(H b=none\/∃xs,H b=some (.tup xs))
 wU:base.objs.size≤↑s
 iL:s.heap.FunFrames base outer
 C4:∀b∈eU outer,H b=none
 bP:eV P w H s.heap
 bare:AllBare s.gens
def CE(outer:List Env)(P:Program)(w:World)(H:Hp)(s:Shared)(Q:VK)(u:Value)(s':Shared):Prop :=
 ∃v H',s'.os=s.os/\AllBare s'.gens/\Un (eU outer) [] H H' s.heap s'.heap/\eV P w H' s'.heap/\RelV v u/\Q v H'
def CR(CX:sL)(outer:List Env)(P:Program)(w:World)(H:Hp)(s:Shared)(Q:VK)(E:XK)(r:Result)(s':Shared):Prop :=
 match r with
 |.ok (.ret u)=>CE outer P w H s Q u s'
 |.ok _=>False
 |.error e=>CX outer H s E e s'
structure fw(P:Program)(w:World)(K:PySem.W.Frag)(mg:Str->Option Value)(base:Heap)(CX:sL)(k:Nat)(f:Addr)(fd:FuncData)(ps:List Str)(sp:Sp):Prop where
 len:∀vs H Q E,sp vs H Q E->vs.length=ps.length
 run:∀(A:Around) (outer:List Env) (s:Shared) (H:Hp) (args:Args) (us:List Value) (vs:List V) (Q:VK) (E:XK),cg k A->vK P w K mg base A outer s H->BindsTo s fd args (ps.zip us)->aF vs us->sp vs H Q E →
  codeAny (model P w) A (.call (.ref f) args) (CR CX outer P w H s Q E) s
section
variable {X:Cx}{pins:List (Addr×Obj)}{σ:St}{H:Hp}{s s':Shared}
def Inv.Lw(I:Inv X pins σ H s):vK X.prog X.w X.K X.mg X.base X.A X.stack s H :=
 {I.ok.frames,I.ok.mod,I.bs,qg I.ok.wU I.sz,I.stack,I.gQ,I.bP,I.bare}
def Inv.after(I:Inv X pins σ H s)(h:CE X.stack X.prog X.w H s Q u s'):EP X pins σ Q u s':=by
 obtain⟨v,H',i,a,un,e,r,q⟩:=h;obtain⟨f,g,d,t,c⟩:=s';obtain rfl:c=s.os:=i;exact{v,H',I.call (h':=f) (g':=g) (d':=d) (t':=t) (ch:=[]) un e a (λb z=>absurd z (by simp)),r,q}
end
def m7(sp:Sp)(dvs:List V)(E:XK)(t:TA):TE:=λσ H Q=>t σ H λvs H1=>sp (vs++dvs) H1 Q E
def Binds(K:PySem.W.Frag)(fd:FuncData)(ps:List Str)(ds:List Value):Prop :=
 ∀(s:Shared) (a:List Value),K.In s.heap->(a++ds).length=ps.length->BindsTo s fd {a,[]} (ps.zip (a++ds))
def Binds.all{K:PySem.W.Frag}{fd:FuncData}{ps:List Str}(h:∀a:List Value,a.length=ps.length->bindArgs fd {a,[]}=pure (ps.zip a)):Binds K fd ps []:=λs a _ hl=>by
 rw[yh]at hl ⊢;exact .of_eq (h a hl)
def ek(CX:sL)(X:Cx)(E:XK):Prop:=∀(pins:List (Addr×Obj)) (σ:St) (H:Hp) (s:Shared) (e:Value) (s':Shared),Inv X pins σ H s->CX X.stack H s E e s'->X.xe e s'
section
variable {X:Cx}{CX:sL}{k:Nat}{f C:Addr}{fd:FuncData}{ps:List Str}{sp:Sp}{dvs:List V}{ds:List Value}{E:XK}{x m:Str}{p pos apos:Pos}{e o:Expr}{es:List Expr}{ta:TE}{t:TA}
def DQ{pins:List (Addr×Obj)}{σ:St}{H:Hp}{s:Shared}{Q:VK}{a:List Value}{vs:List V}(F:fw X.prog X.w X.K X.mg X.base CX k f fd ps sp)(g:cg k X.A)(d:Binds X.K fd ps ds)(j:aF dvs ds)(i:ek CX X E)(I:Inv X pins σ H s)(r:aF vs a)(h:sp (vs++dvs) H Q E):wpAny (model X.prog X.w) X.A (call (.ref f) a) (EP X pins σ Q) X.xe s:=by
 have c:aF (vs++dvs) (a++ds):=r.append j
 have hl:(a++ds).length=ps.length:=by rw[←c.length];exact F.len _ _ _ _ h
 refine wpAny_call (codeAny_mono (F.run X.A X.stack s H {a,[]} (a++ds) (vs++dvs) Q E g I.Lw (d s a I.jM hl) c h) λr s' b=>?_)
 cases r with
 |error e=>exact i pins σ H s e s' I b
 |ok fl =>
  cases fl with
  |ret u=>exact I.after b
  |next=>exact False.elim b
  |brk=>exact False.elim b
  |cont=>exact False.elim b
def Jw(F:fw X.prog X.w X.K X.mg X.base CX k f fd ps sp)(g:cg k X.A)(j:Gl X x)(hm:X.mg x=some (.ref f))(l:PySem.W.keepIn X.K (.ref f)=true)(d:Binds X.K fd ps ds)(i:aF dvs ds)(n:ek CX X E)(o:PA X (e::es) t)(b:(x==("__debug__":Str))=false:=by decide)(m:starEach (e::es) X.env=(false,eval e X.env)::starEach es X.env:=by rfl)(a:(backTo pos (starEach es X.env)).any (·.1)=false:=by rfl) :
  PE X (.Call (.Name x p) (e::es) [] pos) (m7 sp dvs E t):=by
 refine{?_};intro pins s σ H Q I h;refine wpAny_Call_Name_kw (pW I j hm ?_ b);refine PySem.W.callWith_K (h₀:=X.base) I.ok.mod.Eo l (bq (o pos pins s σ H _ I h) λv u ⟨vs,H1,c,r,q⟩=>{c.jM,?_}) m a;exact DQ F g d i n c r q
end
structure aj(N P:List Str)(sc:Scope):Prop where
 kind:sc.kind=.function
 co:sc.isCoroutine=false
 gen:sc.isGenerator=false
 nd:N.Nodup
 pre:N.take P.length=P
 par:∀x∈P,sc.names.lookup x=some .local\/sc.names.lookup x=some .cell
 AJ:∀y∈sc.names,y.2≠.free
theorem Ma:∀{binds:List (Str×Value)} {m:Str->Option Value},(∀v,(x,v)∉binds)->bindL a binds m x=m x
 |[],_,_=>rfl
 |(n,v)::r,m,h=>by
  unfold bindL;rw[Ma λw hw=>h w (ql _ hw)]
  split
  ·have:x≠n:=by rintro rfl;exact h v qo
   simp[this]
  ·rfl
theorem HX:∀{binds:List (Str×Value)} {m:Str->Option Value},(∀v,(x,v)∉binds)->bindC a binds m x=m x
 |[],_,_=>rfl
 |(n,v)::r,m,h=>by
  unfold bindC;rw[HX λw hw=>h w (ql _ hw)]
  split
  ·rfl
  ·have:x≠n:=by rintro rfl;exact h v qo
   simp[this]
theorem Mx:∀{P:List Str} {vs:List Value} {i:Nat} {m:Str->Option Value},P.Nodup->P[i]?=some x->vs[i]?=some v->a x=some .local →
  bindL a (P.zip vs) m x=some v
 |[],_,_,_,_,h,_,_=>by simp at h
 |_::_,[],_,_,_,_,h,_=>by simp at h
 |p::P,w::vs,0,m,nd,h1,h2,hk=>by
  simp at h1 h2;subst h1;subst h2
  show bindL a ((p,w)::P.zip vs) m p=_;unfold bindL;rw[Ma λv b=>(wf.mp nd).1 (ju b).1,q0 hk]
  simp
 |p::P,w::vs,i+1,m,nd,h1,h2,hk=>by
  show bindL a ((p,w)::P.zip vs) m x=_;unfold bindL;exact Mx (i:=i) (List.nodup_cons.mp nd).2 (by simpa using h1) (by simpa using h2) hk
theorem Jm:∀{P:List Str} {vs:List Value} {i:Nat} {m:Str->Option Value},P.Nodup->P[i]?=some x->vs[i]?=some v->a x≠some .local →
  bindC a (P.zip vs) m x=some v
 |[],_,_,_,_,h,_,_=>by simp at h
 |_::_,[],_,_,_,_,h,_=>by simp at h
 |p::P,w::vs,0,m,nd,h1,h2,hk=>by
  simp at h1 h2;subst h1;subst h2
  show bindC a ((p,w)::P.zip vs) m p=_;unfold bindC;rw[HX λv b=>(wf.mp nd).1 (ju b).1,qq hk]
  simp
 |p::P,w::vs,i+1,m,nd,h1,h2,hk=>by
  show bindC a ((p,w)::P.zip vs) m x=_;unfold bindC;exact Jm (i:=i) (List.nodup_cons.mp nd).2 (by simpa using h1) (by simpa using h2) hk
def start(N:List Str)(vs:List V):St:=vs.map some++List.replicate (N.length - vs.length) none
def kI(CX:sL)(P:Program)(w:World)(K:PySem.W.Frag)(mg:Str->Option Value)(base:Heap)(N:List Str)(qual:Str)(scope:Scope)(f:Addr)(cd:Value)(A:Around)(outer:List Env)(s:Shared)(H:Hp)(E:XK):Cx where
 prog:=P
 w:=w
 K:=K
 mg:=mg
 base:=base
 A:=A.deeper (envOfC qual scope ↑s f cd)
 N:=N
 s₀:=s
 H₀:=H
 env:=envOfC qual scope ↑s f cd
 outer:=outer
 stack:=envOfC qual scope ↑s f cd::outer
 ex:=[]
 calm:=true
 fn:=λ_=>true
 pn:=[]
 xe:=λe s'=>wpAny (model P w) (A.deeper (envOfC qual scope ↑s f cd)) (leaving (envOfC qual scope ↑s f cd) e) (λ_ a=>CX outer H s E e a) (λb a=>CX outer H s E b a) s'
def um{sc:Scope}{n:Nat}{x:Str}(h:sc.names.lookup x=some .cell):∃c,(cellsFrom n sc.names []).lookup x=some c:=by
 have q:=PySem.W.cellsFrom_some sc.names n [] (.inl h);exact jv.mp q
def QE{CX:sL}{P:Program}{w:World}{K:PySem.W.Frag}{mg:Str->Option Value}{base:Heap}{N ps:List Str}{qual:Str}{scope:Scope}{f:Addr}{cd:Value}{A:Around}{outer:List Env}{s t:Shared}{H:Hp}{E:XK}{o:List Value}{vs:List V}(S:aj N ps scope)(G:A.handled=none)(d:vK P w K mg base A outer s H)(hl:vs.length=ps.length)(r:aF vs o)(x:InCallC s ↑s (bindL (envOfC qual scope ↑s f cd).kindOf (ps.zip o) λ_=>none) (cellsFrom (↑s+1) scope.names []) (bindC (envOfC qual scope ↑s f cd).kindOf (ps.zip o) λ_=>none) t) :
  Inv (kI CX P w K mg base N qual scope f cd A outer s H E) [] (start N vs) H t:=by
 have D:ps.length≤N.length:=by have:=congrArg List.length S.pre;rw[wx]at this;omega
 obtain⟨h1,tk,rfl,C⟩:=x.done
 have g:∀b:Addr,b∉(kI CX P w K mg base N qual scope f cd A outer s H E).ex:=λb z=>absurd (show b∈([]:List Addr) from z) (by simp)
 refine{{d.mod,S.kind,Y,Y,qi _,λy z c h1 h2=>?_,λy j=>?_,λy c _ h=>?_,λ_=>G,Around.frames_deeper d.frames,.inr {Y,Y},λb z=>absurd z (g b),d.bs,d.wU,λb _ _=>g b,λb z=>absurd z (g b),d.iL,d.C4},
  rfl,d.bare,Un.kept C,{_,x.toInCall.ns,λi y v h1 h2 J=>?_},λy c h=>{_,x.cell y c h},d.bP.fresh (Nat.le_refl _),λy c h=>?_,λp m=>absurd (show p∈([]:List (Addr×Obj)) from m) (by simp),d.bP.kept C,?_}
 ·exact name_of_addr x.apart (PySem.mem_of_lookup h1) (PySem.mem_of_lookup h2)
 ·have j:scope.names.lookup y=some .cell\/scope.names.lookup y=some .free:=j
  rcases j with j|j
  ·exact um j
  ·exact absurd rfl (S.AJ _ (PySem.mem_of_lookup j))
 ·exact qj (x.above y c (PySem.mem_of_lookup h))
 ·have hi:i<vs.length:=by
   unfold start at h2
   by_cases hi:i<vs.length
   ·exact hi
   ·rw[List.getElem?_append_right (by simpa using hi)]at h2
    rw[yq]at h2
    split at h2 <;> cases h2
  have I:vs[i]?=some v:=by
   unfold start at h2;rw[List.getElem?_append_left (by simpa using hi),List.getElem?_map]at h2
   cases e:vs[i]? with
   |none=>rw[e]at h2;cases h2
   |some a=>rw[e]at h2;cases h2;rfl
  obtain⟨u,B,F⟩:=r.get I
  have m:ps[i]?=some y:=by
   rw[←S.pre,List.getElem?_take_of_lt ()];exact h1
  have l:ps.Nodup:=by rw[←S.pre];exact S.nd.sublist (List.take_sublist _ _)
  refine{u,F,?_};rcases S.par y (qx m) with k|k
  ·exact .inl ⟨k,Mx l m B k⟩
  ·obtain⟨c,e⟩:=um (n:=↑s+1) k
   refine .inr {.inl k,c,e,?_};have q:=x.cell y c e;rw[Jm l m B (by show scope.names.lookup y≠_;rw[k];decide)]at q;exact q
 ·exact d.bP.fresh (qj (x.above y c (PySem.mem_of_lookup h)))
 ·unfold start
  show _=N.length;rw[qu,qf,yt];omega
def xh{CX:sL}{P:Program}{w:World}{K:PySem.W.Frag}{mg:Str->Option Value}{base:Heap}{k:Nat}{f:Addr}{name qual:Str}{c:Arguments}{d:List Stmt}{scope:Scope}{L kV m O a G oc:Value}{F X:Option Addr}{B:Array (Option Value)}{N ps:List Str}{sp:Sp}(U:K.lookup f=some {oc,X,.func (PySem.W.fnOf name qual c d scope L kV m O F a G),B})(z:PySem.W.codeIn K a qual=true)(S:aj N ps scope)(len:∀vs H Q E,sp vs H Q E->vs.length=ps.length)(h:∀(A:Around) (outer:List Env) (s:Shared) (H:Hp) (vs:List V) (Q:VK) (E:XK),cg k (A.deeper (envOfC qual scope ↑s f a))->sp vs H Q E →
   ∃t,kx (kI CX P w K mg base N qual scope f a A outer s H E) d t/\t { nx:=λ_ H'=>Q .a' H',rt:=Q } (start N vs) H) :
  fw P w K mg base CX (k+1) f (PySem.W.fnOf name qual c d scope L kV m O F a G) ps sp:=by
 refine{len,λA outer s H R us vs Q E p l Z r j=>?_};have hl:=len _ _ _ _ j;have T:K.In s.heap:=l.mod.Eo.keeps λb o e=>(l.bs b o e).1;have D:s.heap.NoLimit:=l.mod.nolimit.keeps λb o e=>(l.bs b o e).1
 have g:∀y∈ps.zip us,scope.names.lookup y.1=some .local\/(scope.names.lookup y.1=some .cell/\((cellsFrom (↑s+1) scope.names []).lookup y.1).isSome=true):=λ⟨n,v⟩ hy=>by
  rcases S.par n (ju hy).1 with q|q
  ·exact .inl q
  ·exact .inr ⟨q,PySem.W.cellsFrom_some _ _ _ (.inl q)⟩
 refine codeAny_call_function p.depth (T _ _ U) rfl S.co S.gen rfl (PySem.W.codeRec_of T z) (Z _ _ _ _ ?_);refine wpAny_newFunctionEnv_cells S.kind g λenv he M x=>?_;subst he;refine{D.keeps x.toInCall.keep,codeAny_func ?_};obtain⟨t,Y,hq⟩:=h A outer s H vs Q E (p.deeper _) j;have I:Inv (kI CX P w K mg base N qual scope f a A outer s H E) [] (start N vs) H M:=QE S p.hd l hl r x;refine qG (Y [] M (start N vs) H _ I hq) (λfl s' hs=>?_) λe s' hs=>hs
 have i:∀{σ':St} {H':Hp} {v:V} {u:Value},Inv (kI CX P w K mg base N qual scope f a A outer s H E) [] σ' H' s'->RelV v u->Q v H'->CE outer P w H s Q u s' :=
  λ{σ' H' v u} J C q=>{v,H',J.os,J.bare,J.base,J.bP,C,q}
 cases fl with
 |ret u =>
  obtain⟨v,σ',H',J,C,q⟩:=hs;exact i J C q
 |next =>
  obtain⟨σ',H',J,q⟩:=hs;exact i (v:=V.a') (u:=Value.none) J rfl q
 |brk =>
  obtain⟨_,_,_,q⟩:=hs;exact False.elim q
 |cont =>
  obtain⟨_,_,_,q⟩:=hs;exact False.elim q
section
variable {X:Cx}{x:Str}{p pos:Pos}{e:Expr}{es:List Expr}{t:TA}{id T:String}{r:List V->Hp->VK->Prop}
def Mt(r:List V->Hp->VK->Prop)(t:TA):TE:=λσ H Q=>t σ H λvs H1=>r vs H1 Q
def OR(f:cu X (.builtin id) r)(i:Gl X x)(hm:X.mg x=none)(n:bootBuiltins x=some (.builtin id))(o:PA X (e::es) t)(k:x≠"__name__":=by decide)(b:(x==("__debug__":Str))=false:=by decide)(j:starEach (e::es) X.env=(false,eval e X.env)::starEach es X.env:=by rfl)(a:(backTo pos (starEach es X.env)).any (·.1)=false:=by rfl):PE X (.Call (.Name x p) (e::es) [] pos) (Mt r t):=by
 refine{?_};intro pins s σ H Q I h;refine wpAny_Call_Name_kw (pN I i hm n ?_ k b);exact PyProof.Rows.callWith_builtin1 (bq (o pos pins s σ H _ I h) λl g ⟨vs,H1,d,c,m⟩=>f pins g σ H1 vs l Q d c m) j a
def QA(f:cu X (.type T) r)(i:Gl X x)(hm:X.mg x=none)(n:bootBuiltins x=some (.type T))(o:PA X (e::es) t)(k:x≠"__name__":=by decide)(b:(x==("__debug__":Str))=false:=by decide)(j:starEach (e::es) X.env=(false,eval e X.env)::starEach es X.env:=by rfl)(a:(backTo pos (starEach es X.env)).any (·.1)=false:=by rfl):PE X (.Call (.Name x p) (e::es) [] pos) (Mt r t):=by
 refine{?_};intro pins s σ H Q I h;refine wpAny_Call_Name_kw (pN I i hm n ?_ k b);exact PyProof.Rows.callWith_type1 (bq (o pos pins s σ H _ I h) λl g ⟨vs,H1,d,c,m⟩=>f pins g σ H1 vs l Q d c m) j a
end
end L2
namespace HT
open PySem PyProof.Rows
section
variable {prog:Program}{w:World}{A:Around}{E:Value->Shared->Prop}{s:Shared}
def vR{t b:Addr}(p:IsTup s.heap t vs.toArray)(q:IsTup s.heap b ws.toArray)(m:vs≠[])(h1:ws=[]->Q (.ref t) s)(h2:ws≠[]->Q (.ref ↑s) { s with heap:=s.heap.push { cls:=.type "tuple",data:=.seq (vs++ws).toArray } })(hsz:vs.length+ws.length≤sizeLine):wpAny (model prog w) A (binaryOp .Add (.ref t) (.ref b)) Q E s:=by
 obtain⟨⟨cls,dd,data,l⟩,h,k,n,o⟩:=id p;obtain⟨⟨j,g,i,c⟩,a,d,n2,f⟩:=id q
 simp only at k o d f
 subst k o d f
 have e:vs.toArray++ws.toArray=(vs++ws).toArray:=by simp
 by_cases hw:ws=[]
 ·exact concat_meets {_,h,Y} {_,a,Y} noFill_tuple_add seq_tuple_add PySem.F.slot_tuple_add PySem.F.entry_tuple_add (PySem.F.args_tuple_add_2 _ _)
   (tuple_addW1 t b vs.toArray ws.toArray n n2 dd g l c (by simpa using m) (by simp[hw])) {h,a,h1 hw}
 ·refine concat_meets {_,h,Y} {_,a,Y} noFill_tuple_add seq_tuple_add PySem.F.slot_tuple_add PySem.F.entry_tuple_add (PySem.F.args_tuple_add_2 _ _)
   (tuple_addW2 t b vs.toArray ws.toArray n n2 dd g l c (by simpa using m) (by simpa using hw) (by rw[List.size_toArray,List.size_toArray];exact hsz)) {h,a,?_}
  rw[e];exact h2 hw
def bV(n d:Nat):Option Int->Nat
 |none=>d
 |some v=>if v<0 then(v+(n:Int)).toNat else min v.toNat n
def cG(n d:Nat):bV n d none=d:=rfl
def cL(n d k:Nat):bV n d (some (k:Int))=min k n:=by
 show(if(k:Int)<0 then((k:Int)+(n:Int)).toNat else min (k:Int).toNat n)=min k n;rw[qq (),Int.toNat_natCast]
def Ck(n d:Nat)(b:d≤n)(o:Option Int):bV n d o≤n:=by
 cases o with
 |none=>exact b
 |some v =>
  show(if v<0 then(v+(n:Int)).toNat else min v.toNat n)≤n
  by_cases a:v<0
  ·rw[q0 a];omega
  ·rw[qq a];exact Nat.min_le_right _ _
def HJ(v:Int)(n d:Nat):(if v<0 then max (v+(n:Int)) 0 else min v (n:Int))=((bV n d (some v):Nat):Int):=by
 show(if v<0 then max (v+(n:Int)) 0 else min v (n:Int))=(((if v<0 then(v+(n:Int)).toNat else min v.toNat n):Nat):Int)
 by_cases a:v<0
 ·simp only[if_pos a];omega
 ·simp only[if_neg a];omega
def Q_(lo hi:Option Int)(n:Nat):Builtin.Slice.sliceAdjust lo hi 1 (n:Int)=(((bV n 0 lo:Nat):Int),((bV n n hi:Nat):Int)):=by
 have h1:¬((1:Int)<0):=()
 unfold Builtin.Slice.sliceAdjust
 simp only[h1,if_false]
 refine Prod.ext ?_ ?_
 ·cases lo with
  |none=>rfl
  |some v=>exact HJ v n 0
 ·cases hi with
  |none=>rfl
  |some v=>exact HJ v n n
def Rp(i j:Nat):Builtin.Slice.slicePlaces (i:Int) (j:Int) 1=j - i:=by
 unfold Builtin.Slice.slicePlaces
 have h1:(1:Int)>0:=()
 simp only[h1,if_true,Int.ediv_one]
 split <;> omega
def LS(p:IsPart v o)(h:Q o s):wpAny (model prog w) A (Builtin.Slice.slicePartIndex v) Q E s:=by
 cases p with
 |none=>exact slicePart_none h
 |int i t=>exact slicePart_int h
def Ot{e:Addr}{d c:Value}{lo hi:Option Int}{n:Nat}{Q:Int×Int×Nat->Shared->Prop}(hs:s.heap.IsSliceOf e d c .none)(g:IsPart d lo)(f:IsPart c hi)(h:Q (((bV n 0 lo:Nat):Int),1,bV n n hi - bV n 0 lo) s):wpAny (model prog w) A (Builtin.Slice.sliceApplied (.ref e) (pure (n:Int))) Q E s:=by
 obtain⟨j,a,i,b⟩:=id hs;unfold Builtin.Slice.sliceApplied Builtin.Slice.sliceFields;refine qc (qc (wpAny_field a b (x:=d) rfl (qc (wpAny_field a b (x:=c) rfl (qc (wpAny_field a b (x:=.none) rfl (qA ?_)))))));refine qc (slicePart_none ?_);show wpAny _ _ (if((1:Int)==0)=true then _ else _) _ _ s;rw[qq ⋯];refine qc (LS g (qc (LS f (qc (qA ?_)))));show wpAny _ _ (match Builtin.Slice.sliceAdjust lo hi 1 (n:Int) with|(lo,hi)=>pure (lo,(1:Int),Builtin.Slice.slicePlaces lo hi 1)) _ _ s;rw[Q_ lo hi n];show wpAny _ _ (pure (((bV n 0 lo:Nat):Int),(1:Int),Builtin.Slice.slicePlaces ((bV n 0 lo:Nat):Int) ((bV n n hi:Nat):Int) 1)) _ _ s;rw[Rp];exact qA h
def OC(xs:Array Value)(i k:Nat):((List.range k).filterMap λ(m:Nat)=>xs[((i:Int)+(m:Int) * 1).toNat]?).toArray=((xs.toList.drop i).take k).toArray:=by
 have e:(λ(m:Nat)=>xs[((i:Int)+(m:Int) * 1).toNat]?)=λm=>xs[i+m]?:=by
  funext m
  have:((i:Int)+(m:Int) * 1).toNat=i+m:=()
  rw[this]
 rw[e];have:=pick_run xs i k;rw[jc]at this;have a:((λx=>xs[x]?)∘λx=>i+x)=λm=>xs[i+m]?:=rfl;rw[a]at this;rw[this]
def ia{t d:Addr}{items:Array Value}{j i:Value}{lo hi:Option Int}{Q:Value->Shared->Prop}(b:IsTup s.heap t items)(hs:s.heap.IsSliceOf d j i .none)(l:IsPart j lo)(k:IsPart i hi)(hw:¬(bV items.size 0 lo=0/\bV items.size items.size hi=items.size))(h:Q (.ref ↑s) { s with heap:=s.heap.push { cls:=.type "tuple",data:=.seq ((items.toList.drop (bV items.size 0 lo)).take (bV items.size items.size hi - bV items.size 0 lo)).toArray } })(hsz:items.size≤sizeLine):wpAny (model prog w) A (getItem (.ref t) (.ref d)) Q E s:=by
 have a:sizeOk (.seq ((items.toList.drop (bV items.size 0 lo)).take (bV items.size items.size hi - bV items.size 0 lo)).toArray):=by
  show((items.toList.drop (bV items.size 0 lo)).take (bV items.size items.size hi - bV items.size 0 lo)).toArray.size≤sizeLine;rw[zx,wx,vg,zt];omega
 have r:bV items.size items.size hi≤items.size:=Ck _ _ (qi _) hi;obtain⟨o,c,e,n⟩:=id hs;have f:s.TypeIs (.ref d) "slice":={o,c,e};unfold getItem
 try with_reducible refine qH ?_
 first|refine qc (qA ?_)|skip
 refine qc (wpAny_sequenceKey b.typeIs ⋯ ?_)
 refine qc (wpAny_callSpecial?_slot (name:=Str.ofString "__getitem__") b.typeIs PyProof.Rows.slot_tuple_getitem
  (qI PyProof.Rows.slot_tuple_getitem b.typeIs entry_tuple_getitem ?_ (args_tuple_getitem _ _)))
 show wpAny _ _ (Builtin.Tuple.tupleItemsOf (.ref t) >>= _) _ _ s;refine qc (tupleItemsOf_ b ?_);refine qc (wpAny_typeOf f ?_);rw[q0 ⋯];refine qc (Ot hs l k ?_)
 have g:¬((((bV items.size 0 lo:Nat):Int)==0&&(1:Int)==1&&(bV items.size items.size hi - bV items.size 0 lo)==items.size)=true):=by
  intro q;rw[qv,qv]at q;have u:((bV items.size 0 lo:Nat):Int)=0:=eq_of_beq q.1.1;have p:bV items.size items.size hi - bV items.size 0 lo=items.size:=eq_of_beq q.2;exact hw {(),()}
 show wpAny _ _ (if(((bV items.size 0 lo:Nat):Int)==0&&(1:Int)==1&&(bV items.size items.size hi - bV items.size 0 lo)==items.size)=true then _ else _) _ _ s;rw[qq g,OC]
 first
  |exact qc (m:=Builtin.Tuple.tupleExact _) (wpAny_newObj_type (qA ⟨_,Y,qA h⟩) a)
  |exact qc (m:=Builtin.Tuple.tupleExact _) (wpAny_newObj_type (qc (qA (qA ⟨_,Y,qA h⟩))) a)
  |exact qc (qc (m:=Builtin.Tuple.tupleExact _) (wpAny_newObj_type (qA (qA ⟨_,Y,qA h⟩)) a))
  |exact qc (qc (m:=Builtin.Tuple.tupleExact _) (wpAny_newObj_type (qA ⟨_,Y,qA h⟩) a))
end
end HT
namespace L2
open PySem PySem.Spec PyProof.Rows
abbrev TO:=St->Hp->(Option Int->Hp->Prop)->Prop
def S7(X:Cx)(e:Option Expr)(t:TO):Prop :=
 ∀(pins:List (Addr×Obj)) (s:Shared) (σ:St) (H:Hp) (Q:Option Int->Hp->Prop),Inv X pins σ H s->t σ H Q →
  wpAny (model X.prog X.w) X.A (evalPart e X.env) (λu s'=>∃o H',Inv X pins σ H' s'/\IsPart u o/\Q o H') X.xe s
structure PO(X:Cx)(e:Option Expr)(t:TO):Prop where run:S7 X e t
instance Tf{X:Cx}{e:Option Expr}{t:TO}:CoeFun (PO X e t) λ_=>S7 X e t:={PO.run}
def vZ:TO:=λ_ H Q=>Q none H
inductive Dw(Q:Option Int->Hp->Prop)(x:V)(H1:Hp):Prop
 |mk(i:_)(_:x=.int i)(_:Q (some i) H1)
def Hw(t:TE):TO:=λσ H Q=>t σ H λx H1=>Dw Q x H1
section
variable {X:Cx}{e:Expr}{te:TE}{lo hi:Option Expr}{tl th:TO}{pos p2:Pos}
def aZ:PO X none vZ:=by
 refine{?_};intro pins s σ H Q I h;rw[evalPart_none];exact qA {none,H,I,.none,h}
def aV(h:PE X e te):PO X (some e) (Hw te):=by
 refine{?_};intro pins s σ H Q I hw;rw[evalPart_some];refine bq (h pins s σ H _ I hw) λu d ⟨x,H1,b,a,c⟩=>?_;obtain⟨i,rfl,q⟩:=c;obtain⟨t,rfl⟩:=a;exact{some i,H1,b,.int i t,q}
def xX(X:Cx)(r:V->Option Int->Option Int->Hp->VK->Prop):Prop :=
 ∀(pins:List (Addr×Obj)) (s:Shared) (σ:St) (H:Hp) (x:V) (v b c:Value) (lo hi:Option Int) (a:Addr) (Q:VK),Inv X pins σ H s->RelV x v->s.heap.IsSliceOf a b c .none->IsPart b lo->IsPart c hi->r x lo hi H Q →
  ∃T id,typeLookup (.type T) "__getitem__"=pure (some (.builtin id))/\s.TypeIs v T/\wpAny (model X.prog X.w) X.A (getItem v (.ref a)) (EP X pins σ Q) X.xe s
def TH(r:V->Option Int->Option Int->Hp->VK->Prop)(te:TE)(tl th:TO):TE:=λσ H Q=>te σ H λx H1=>tl σ H1 λl H2=>th σ H2 λu a=>r x l u a Q
def aX(g:xX X r)(t:PE X e te)(hl:PO X lo tl)(p:PO X hi th):PE X (.Subscript e (.Slice lo hi none p2) pos) (TH r te tl th):=by
 refine{?_};intro pins s σ H Q I h;refine Subscript_ (bq (t pins s σ H _ I h) λv z ⟨x,H1,C,k,y⟩=>?_);refine wpAny_Slice (bq (hl pins z σ H1 _ C y) λc F ⟨l,H2,J,i,n⟩=>bq (p pins F σ H2 _ J n) λd a ⟨u,f,j,o,D⟩=>?_);rw[evalPart_none];refine qA ?_;have E:Inv X pins σ f { a with heap:=a.heap.push { cls:=.type "slice",data:=.fields #[c,d,.none] } }:=j.kept (t':=a.toks) λb K q=>qE _ q;obtain⟨T,id,G,m,B⟩:=g pins { a with heap:=a.heap.push { cls:=.type "slice",data:=.fields #[c,d,.none] } } σ f x v c d l u ↑a Q E k (Heap.IsSliceOf.new ..) i o D;show wpAny (model X.prog X.w) X.A (subscriptTail e (.Slice lo hi none p2) v (.ref ↑a)) (EP X pins σ Q) X.xe { a with heap:=a.heap.push { cls:=.type "slice",data:=.fields #[c,d,.none] } };exact tail_any (ops:=[.ref ↑a,v]) m G B (by with_unfolding_all rfl)
def bR(xs:List V)(lo hi:Option Int):List V:=(xs.drop (HT.bV xs.length 0 lo)).take (HT.bV xs.length xs.length hi - HT.bV xs.length 0 lo)
def FC(xs:List V)(lo hi:Option Int):(bR xs lo hi).length≤xs.length:=by
 unfold bR;rw[wx,vg];omega
inductive O7(x:V)(lo:Option Int)(hi:Option Int)(H:Hp)(Q:VK):Prop
 |mk(a xs:_)(_:x=.ref a)(_:aI H a xs)(_:¬(HT.bV xs.length 0 lo=0/\HT.bV xs.length xs.length hi=xs.length))(_:∀p,H p=none->Q (.ref p) (upd H p (.tup (bR xs lo hi))))
def pM:xX X (O7):=by
 intro pins s σ H x v p n lo hi l Q I k hs i g h;obtain⟨a,xs,rfl,j,hw,q⟩:=h;cases k;obtain⟨d,r,e,f⟩:=I.tuple j
 have c:d.toArray.size=xs.length:=by rw[zx];exact r.length.symm
 refine{"tuple",_,PyProof.Rows.slot_tuple_getitem.lookup,e.typeIs,?_};refine HT.ia e hs i g (by rw[c];exact hw) ?_ (by rw[c];exact f);rw[c];refine{.ref ↑s,_,I.laid (t':=s.toks) (o:=.tup (bR xs lo hi)) (λb m q=>qE _ q) (qi _) ?_,Y,q _ (I.bP.fresh (qi _))};exact{qg (FC xs lo hi) f,_,(r.drop (HT.bV xs.length 0 lo)).take (HT.bV xs.length xs.length hi - HT.bV xs.length 0 lo),IsTup.new _ _}
inductive JH(x y:V)(H:Hp)(Q:VK):Prop
 |mk(a b xs ys:_)(_:x=.ref a)(_:y=.ref b)(_:aI H a xs)(_:aI H b ys)(_:xs≠[])(_:xs.length+ys.length≤sizeLine)(_:(ys=[]->Q (.ref a) H))(_:(ys≠[]->∀p,H p=none->Q (.ref p) (upd H p (.tup (xs++ys)))))
def aF.i4(r:aF xs a):a=[]↔xs=[]:=by
 cases r with
 |nil=>simp
 |cons _ _=>simp
def Jq:df X (binaryOp .Add) (JH):=by
 intro pins s σ H x y v u Q I p j h;obtain⟨a,b,xs,ys,rfl,rfl,n,i,l,f,m,k⟩:=h;cases p;cases j;obtain⟨g,d,p1,_⟩:=I.tuple n;obtain⟨e,c,p2,_⟩:=I.tuple i;refine HT.vR p1 p2 (λz=>l (d.i4.mp z)) (λz=>{.ref a,H,I,Y,m (c.i4.mp z)}) (λz=>?_) (by rw[←d.length,←c.length];exact f);refine{.ref ↑s,_,I.laid (t':=s.toks) (o:=.tup (xs++ys)) (λb r q=>qE _ q) (qi _) ?_,Y,k (λw=>z (c.i4.mpr w)) _ (I.bP.fresh (qi _))};exact{by rw[qu];exact f,_,d.append c,IsTup.new _ _}
end
def tG(n:Nat)(i:Int):Option Nat:=if 0≤i then(if i<n then some i.toNat else none) else if -(n:Int)≤i then some (i+n).toNat else none
def kR{a:Type}(xs:List a)(i:Int):Option a:=(tG xs.length i).bind λj=>xs[j]?
def Mi(h:tG n i=some j):seqIndex? i n=some j/\j<n/\-(n:Int)≤i/\i<n:=by
 unfold tG at h
 by_cases a:0≤i
 ·rw[q0 a]at h
  by_cases h1:i<n
  ·rw[q0 h1]at h
   have e:i.toNat=j:=qD h;exact{by rw[seqIndex_of a h1,e],(),(),h1}
  ·rw[qq h1]at h;cases h
 ·rw[qq a]at h
  by_cases h1:-(n:Int)≤i
  ·rw[q0 h1]at h
   have e:(i+n).toNat=j:=qD h;exact{by rw[seqIndex_neg () h1,e],(),h1,()}
  ·rw[qq h1]at h;cases h
def GL{a:Type}{xs:List a}{i:Int}{v:a}(h:kR xs i=some v):∃j,seqIndex? i xs.length=some j/\xs[j]?=some v/\j<xs.length/\-(xs.length:Int)≤i/\i<xs.length:=by
 unfold kR at h
 cases e:tG xs.length i with
 |none=>rw[e]at h;cases h
 |some j =>
  rw[e]at h;obtain⟨h1,h2,c,b⟩:=Mi e;exact{j,h1,h,h2,c,b}
def bj{a:Type}{xs:List a}{j:Nat}{v:a}(h:xs[j]?=some v):kR xs (j:Int)=some v:=by
 have b:j<xs.length:=(zr.mp h).1
 have e:tG xs.length (j:Int)=some j:=by
  unfold tG;rw[q0 (),q0 ()];simp
 unfold kR;rw[e];exact h
def iY(b:Expr):Prop:=∀o i,subscripted b false o i=operate [o,i] (getItem o i)
def ME(X:Cx)(r:R2):Prop :=
 ∀(value a:Expr) (pins:List (Addr×Obj)) (s:Shared) (σ:St) (H:Hp) (x y:V) (v u:Value) (Q:VK),Inv X pins σ H s->RelV x v->RelV y u->r x y H Q →
  subscripted a false v u=operate [v,u] (getItem v u)->wpAny (model X.prog X.w) X.A (subscriptTail value a v u) (EP X pins σ Q) X.xe s
def w_(X:Cx)(id:String)(r:V->List V->Hp->VK->Prop):Prop :=
 ∀(pins:List (Addr×Obj)) (s:Shared) (σ:St) (H:Hp) (x:V) (xs:List V) (v:Value) (a:List Value) (Q:VK),Inv X pins σ H s->RelV x v->aF xs a->r x xs H Q →
  wpAny (model X.prog X.w) X.A (call (.builtin id) (v::a)) (EP X pins σ Q) X.xe s
section
variable {X:Cx}{a b:Expr}{ta tb:TE}{pos:Pos}
def iF(e:ME X r)(g:PE X a ta)(c:PE X b tb)(hs:iY b):PE X (.Subscript a b pos) (ow r ta tb):=by
 refine{?_};intro pins s σ H Q I h;exact Subscript_ (Du g c I h λv u f x y H2 i j d q=>e a b pins f σ H2 x y v u Q i j d q (hs _ _))
inductive Cy(x y:V)(H:Hp)(Q:VK):Prop
 |mk(p xs i v:_)(_:x=.ref p)(_:y=.int i)(_:au H p xs)(_:kR xs i=some v)(_:Q v H)
inductive B0(x y:V)(H:Hp)(Q:VK):Prop
 |mk(p xs i v:_)(_:x=.ref p)(_:y=.int i)(_:aI H p xs)(_:kR xs i=some v)(_:Q v H)
inductive N1(x y:V)(H:Hp)(Q:VK):Prop
 |mk(z i c:_)(_:x=.str z)(_:y=.int i)(_:z.length≤sizeLine)(_:kR z.cps.toList i=some c)(_:Q (.str ⟨#[c]⟩) H)
def DI:ME X (Cy):=by
 intro value d pins s σ H x y v u Q I B l h hs;obtain⟨p,xs,i,z,rfl,rfl,m,o,q⟩:=h;cases B;obtain⟨t,rfl⟩:=l;obtain⟨b,r,c,C⟩:=I.list m;obtain⟨j,h1,h2,E,A,n⟩:=GL o;obtain⟨w,g,f⟩:=r.get h2;have hl:=r.length;have D:=pB;have a:EP X pins σ Q w s:={z,H,I,f,q}
 by_cases k:0≤i
 ·have e:i.toNat=j:=by
   rw[seqIndex_of k n]at h1;exact qD h1
  exact item_listR c.isList k () (by rw[e];simpa using g) a hs
 ·have e:(i+(b.toArray.size:Int)).toNat=j:=by
   rw[seqIndex_neg () A]at h1;rw[zx,←hl];exact qD h1
  exact subscriptTail_builtinR (x:=w) c.isList.typeIs slot_list_getitem.lookup
   (wpAny_getItem_list_neg (Q:=λr s'=>r=w/\EP X pins σ Q r s') c.isList () (by rw[List.size_toArray] <;> omega) () (by rw[e];simpa using g) {Y,a}) hs
def LP:ME X (B0):=by
 intro value b pins s σ H x y v u Q I m f h hs;obtain⟨p,xs,i,z,rfl,rfl,k,l,q⟩:=h;cases m;obtain⟨t,rfl⟩:=f;obtain⟨e,r,d,o⟩:=I.tuple k;obtain⟨j,h1,h2,B,C,n⟩:=GL l;obtain⟨w,g,c⟩:=r.get h2;have hl:=r.length;have A:=pB;have a:EP X pins σ Q w s:={z,H,I,c,q}
 exact subscriptTail_builtinR (x:=w) d.typeIs slot_tuple_getitem.lookup
  (getItem_tuple (j:=j) (Q:=λr s'=>r=w/\EP X pins σ Q r s') d () () (by rw[List.size_toArray,←hl];exact h1) (by simpa using g) {Y,a}) hs
def Dx:ME X N1:=by
 intro value a pins s σ H x y v u Q I l d h hs;obtain⟨z,i,c,rfl,rfl,n,f,q⟩:=h;obtain⟨t,rfl⟩:=l;obtain⟨t',rfl⟩:=d;obtain⟨j,h1,h2,o,g,e⟩:=GL f
 have hl:z.cps.toList.length=z.length:=by simp[Str.length]
 rw[hl]at h1 g e;have m:=pB
 exact tail_any (typeIs_str s z t) slot_str_getitem.lookup (getItem_str (c:=c) (by
  have k:decide (i < -(2 ^ 63:Int))=false:=decide_eq_false ();have b:decide (i≥2 ^ 63)=false:=decide_eq_false ()
  rw[k,b,Bool.or_false]) (by rw[h1];simpa using h2) {.str {#[c]},H,I.tok _,{_,Y},q}) hs
def R3(a:List Value)(n j:Nat)(u:Value):Obj.mapSeq (·.setIfInBounds j u) { cls:=.type "list",data:=.seq a.toArray n }={ cls:=.type "list",data:=.seq (a.set j u).toArray n }:=by
 simp[Obj.mapSeq]
theorem Inv.lst{pins:List (Addr×Obj)}{σ:St}{H:Hp}{s:Shared}{p:Addr}{xs:List V}(I:Inv X pins σ H s)(h:H p=some (.lst xs)) :
  ∃(a:List Value) (n:Nat),aF xs a/\s.heap.get? p=some { cls:=.type "list",data:=.seq a.toArray n }/\xs.length≤sizeLine:=by
 obtain⟨z,a,n,r,e⟩:=I.bP p _ h;exact{a,n,r,e,z}
def Inv.CB{pins:List (Addr×Obj)}{σ:St}{H:Hp}{s:Shared}{p:Addr}{xs ys:List V}{a its':List Value}{n c:Nat}{f:Obj->Obj}(I:Inv X pins σ H s)(h:H p=some (.lst xs))(j:s.heap.get? p=some { cls:=.type "list",data:=.seq a.toArray n })(d:f { cls:=.type "list",data:=.seq a.toArray n }={ cls:=.type "list",data:=.seq its'.toArray c })(r:aF ys its')(i:ys.length≤sizeLine)(t:Nat) :
  Inv X pins σ (upd H p (.lst ys)) { s with heap:=s.heap.update p f,toks:=t }:=by
 have e:(s.heap.update p f).get? p=some { cls:=.type "list",data:=.seq its'.toArray c }:=by
  rw[Heap.get?_update_self f j (by rw[d] <;> rfl),d]
 refine I.write (x:=p) (e:=p) (by rw[h];trivial) (.inl rfl) (λb u g q=>(Heap.get?_update_other _ _ (Ne.symm g)).trans q) {_,e} ?_;exact{i,its',c,r,e}
inductive K3(o i v:V)(H:Hp)(Q:(Hp->Prop)):Prop
 |mk(p xs k j:_)(_:o=.ref p)(_:i=.int k)(_:H p=some (.lst xs))(_:tG xs.length k=some j)(_:Q (upd H p (.lst (xs.set j v))))
def E5:G' X K3:=by
 intro pins s σ H o i v C A u Q I m x w h;obtain⟨p,xs,k,j,rfl,rfl,e,z,q⟩:=h;cases m;obtain⟨t,rfl⟩:=x;obtain⟨a,n,r,c,y⟩:=I.lst e;obtain⟨h1,h2,f,g⟩:=Mi z;have hl:=r.length;have B:=pB
 have d:Inv X pins σ (upd H p (.lst (xs.set j v))) { s with heap:=s.heap.update p (Obj.mapSeq (·.setIfInBounds j u)) } :=
  I.CB e c (R3 a n j u) (r.set w j) (by rw[vq];exact y) s.toks
 by_cases l:0≤k
 ·have b:k.toNat=j:=by
   rw[seqIndex_of l g]at h1;exact qD h1
  exact PySem.W.ki_setAt c l () (by rw[zx,←hl];exact g) (by rw[b];exact{_,d,q})
 ·have b:(k+(a.toArray.size:Int)).toNat=j:=by
   rw[seqIndex_neg () f]at h1;rw[zx,←hl];exact qD h1
  exact PySem.W.ki_setBack c () (by rw[zx,←hl];exact f) () (by rw[b];exact{_,d,q})
def PJ(lo hi:Option Int)(n:Nat):(sliceBounds lo hi none n).1=((HT.bV n 0 lo:Nat):Int)/\(sliceBounds lo hi none n).2.1=((HT.bV n n hi:Nat):Int)/\(sliceBounds lo hi none n).2.2=1:=by
 refine{?_,?_,Y}
 ·cases lo with
  |none=>simp[sliceBounds,HT.bV]
  |some i =>
   simp only[sliceBounds,HT.bV,Option.getD_none,show(1:Int)>0 from ⋯,if_true]
   by_cases h:i<0
   ·simp only[h,if_true] <;> omega
   ·simp only[h,if_false] <;> omega
 ·cases hi with
  |none=>simp[sliceBounds,HT.bV]
  |some i =>
   simp only[sliceBounds,HT.bV,Option.getD_none,show(1:Int)>0 from ⋯,if_true]
   by_cases h:i<0
   ·simp only[h,if_true] <;> omega
   ·simp only[h,if_false] <;> omega
def Qd(a:List Value)(lo hi:Option Int):slicePick a.toArray lo hi none=((a.drop (HT.bV a.length 0 lo)).take (HT.bV a.length a.length hi - HT.bV a.length 0 lo)).toArray:=by
 obtain⟨h1,h2,b⟩:=PJ lo hi a.toArray.size;unfold slicePick;rw[h1,h2,b]
 simp only[sliceRange_one,pick_run,List.size_toArray] <;> rfl
inductive Sk(x:V)(lo:Option Int)(hi:Option Int)(H:Hp)(Q:VK):Prop
 |mk(a xs:_)(_:x=.ref a)(_:au H a xs)(_:∀p,H p=none->Q (.ref p) (upd H p (.lst (bR xs lo hi))))
def RG:xX X (Sk):=by
 intro pins s σ H x v p n lo hi l Q I k hs g f h;obtain⟨a,xs,rfl,j,q⟩:=h;cases k;obtain⟨e,r,d,i⟩:=I.list j;have c:=r.length;refine{"list",_,slot_list_getitem.lookup,d.isList.typeIs,?_};refine wpAny_getItem_list_slice d.isList hs g f .none (by simp) ?_ (by rw[List.size_toArray] <;> omega);rw[Qd,←c];refine{.ref ↑s,_,I.laid (t':=s.toks) (o:=.lst (bR xs lo hi)) (λb m q=>qE _ q) (qi _) ?_,Y,q _ (I.bP.fresh (qi _))};exact{qg (FC xs lo hi) i,_,0,(r.drop (HT.bV xs.length 0 lo)).take (HT.bV xs.length xs.length hi - HT.bV xs.length 0 lo),qF _ rfl}
def hV:V->Bool
 |.a'=>true
 |.bl _=>true
 |.int _=>true
 |.str _=>true
 |_=>false
def xm:V->V->Bool
 |.a',.a'=>true
 |.bl a,.bl b=>a==b
 |.bl a,.int b=>(if a then 1 else 0)==b
 |.int a,.bl b=>a==(if b then 1 else 0)
 |.int a,.int b=>a==b
 |.str a,.str b=>a==b
 |_,_=>false
def Ei(d:RelV y u)(c:RelV x v)(f:hV y=true)(e:hV x=true):SeqAt.EqAt A s u v (xm y x):=by
 cases y with
 |a' =>
  cases d
  cases x with
  |a'=>cases c;exact SeqAt.EqAt.same _
  |bl b=>cases c;exact SeqAt.EqAt.none_bool b
  |int b=>obtain⟨t,rfl⟩:=c;exact SeqAt.EqAt.none_int b t
  |str b=>obtain⟨t,rfl⟩:=c;exact SeqAt.EqAt.none_str b t
  |_=>exact absurd (show false=true from e) zg
 |bl a =>
  cases d
  cases x with
  |a'=>cases c;exact SeqAt.EqAt.bool_none a
  |bl b=>cases c;exact SeqAt.EqAt.bool_bool a b
  |int b=>obtain⟨t,rfl⟩:=c;exact SeqAt.EqAt.bool_int a b t
  |str b=>obtain⟨t,rfl⟩:=c;exact SeqAt.EqAt.bool_str a b t
  |_=>exact absurd (show false=true from e) zg
 |int a =>
  obtain⟨t',rfl⟩:=d
  cases x with
  |a'=>cases c;exact SeqAt.EqAt.int_none a t'
  |bl b=>cases c;exact SeqAt.EqAt.int_bool a t' b
  |int b=>obtain⟨t,rfl⟩:=c;exact SeqAt.EqAt.int_int a t' b t
  |str b=>obtain⟨t,rfl⟩:=c;exact SeqAt.EqAt.int_str a t' b t
  |_=>exact absurd (show false=true from e) zg
 |str a =>
  obtain⟨t',rfl⟩:=d
  cases x with
  |a'=>cases c;exact SeqAt.EqAt.str_none a t'
  |bl b=>cases c;exact SeqAt.EqAt.str_bool a t' b
  |int b=>obtain⟨t,rfl⟩:=c;exact SeqAt.EqAt.str_int a t' b t
  |str b=>obtain⟨t,rfl⟩:=c;exact SeqAt.EqAt.str_str a t' b t
  |_=>exact absurd (show false=true from e) zg
 |_=>exact absurd (show false=true from f) zg
def nK(x:V)(u:Value):Bool:=match u with
 |.none=>xm .a' x
 |.bool b=>xm (.bl b) x
 |.int i _=>xm (.int i) x
 |.str z _=>xm (.str z) x
 |_=>false
def Iq(r:RelV y u)(f:hV y=true):nK x u=xm y x:=by
 cases y with
 |a'=>cases r;rfl
 |bl b=>cases r;rfl
 |int i=>obtain⟨t,rfl⟩:=r;rfl
 |str z=>obtain⟨t,rfl⟩:=r;rfl
 |_=>exact absurd (show false=true from f) zg
theorem uz:∀{xs:List V} {a:List Value},aF xs a->xs.all hV=true->a.any (nK x)=xs.any λy=>xm y x
 |_,_,.nil,_=>rfl
 |y::xs,u::a,.cons r t,f=>by
  rw[List.all_cons,qv]at f;rw[yi,yi,Iq r f.1,uz t f.2]
theorem uF(d:RelV x v)(c:hV x=true):∀{xs:List V} {b:List Value},aF xs b->xs.all hV=true->∀u∈b,SeqAt.EqAt A s u v (nK x u)
 |_,_,.nil,_=>λu a=>by cases a
 |y::xs,u::b,.cons r t,f=>λe a=>by
  rw[List.all_cons,qv]at f;rcases qr.mp a with rfl|a
  ·rw[Iq r f.1];exact Ei r d f.1 c
  ·exact uF d c t f.2 e a
def pY(x:V)(xs:List V):Bool:=xs.any λy=>xm y x
inductive Nq(neg:Bool)(x y:V)(H:Hp)(Q:VK):Prop
 |mk(p xs:_)(_:y=.ref p)(_:(au H p xs\/aI H p xs))(_:hV x=true)(_:xs.all hV=true)(_:Q (.bl (if neg then !pY x xs else pY x xs)) H)
def P4:df X (compareOp .In) (Nq false):=by
 intro pins s σ H x y v u Q I e f h;obtain⟨p,xs,rfl,b,d,fs,q⟩:=h;cases f;rcases b with b|b
 ·obtain⟨a,r,c,g⟩:=I.list b
  refine SeqAt.in_listAt (nK x) c.isList (λw hw=>uF e d r fs w (by simpa using hw)) {.bl _,H,I,Y,?_};rw[show a.toArray.any (nK x)=a.any (nK x) by simp,uz r fs];exact q
 ·obtain⟨a,r,c,g⟩:=I.tuple b
  refine SeqAt.in_tupleAt (nK x) c (λw hw=>uF e d r fs w (by simpa using hw)) {.bl _,H,I,Y,?_};rw[show a.toArray.any (nK x)=a.any (nK x) by simp,uz r fs];exact q
def PM:df X (compareOp .NotIn) (Nq true):=by
 intro pins s σ H x y v u Q I e f h;obtain⟨p,xs,rfl,b,d,fs,q⟩:=h;cases f;rcases b with b|b
 ·obtain⟨a,r,c,g⟩:=I.list b
  refine SeqAt.notIn_listAt (nK x) c.isList (λw hw=>uF e d r fs w (by simpa using hw)) {.bl _,H,I,Y,?_};rw[show a.toArray.any (nK x)=a.any (nK x) by simp,uz r fs];exact q
 ·obtain⟨a,r,c,g⟩:=I.tuple b
  refine SeqAt.notIn_tupleAt (nK x) c (λw hw=>uF e d r fs w (by simpa using hw)) {.bl _,H,I,Y,?_};rw[show a.toArray.any (nK x)=a.any (nK x) by simp,uz r fs];exact q
inductive kJ(xs:List V)(H:Hp)(Q:VK):Prop
 |mk(p ys:_)(_:xs=[.ref p])(_:(au H p ys\/aI H p ys))(_:Q (.int ys.length) H)
def eu:cu X (.builtin "len") (kJ):=by
 intro pins s σ H xs j Q I r h;obtain⟨p,ys,rfl,b,q⟩:=h;obtain⟨u,rfl,g⟩:=vals1 r;cases g;have i:=pB;rcases b with b|b
 ·obtain⟨c,e,d,f⟩:=I.list b
  have a:=e.length;exact Calls.call_len_list d.isList (by simp only[List.size_toArray] <;> omega) {.int ys.length,H,I.tok _,{s.toks+1,by rw[List.size_toArray,a]},q}
 ·obtain⟨c,e,d,f⟩:=I.tuple b
  have a:=e.length;exact len_tuple d (by simp only[List.size_toArray] <;> omega) {.int ys.length,H,I.tok _,{s.toks+1,by rw[List.size_toArray,a]},q}
inductive kG(xs:List V)(H:Hp)(Q:VK):Prop
 |mk(z:_)(_:xs=[.str z])(_:z.length≤sizeLine)(_:Q (.int z.length) H)
def Es:cu X (.builtin "len") kG:=by
 intro pins s σ H xs c Q I r h;obtain⟨z,rfl,b,q⟩:=h;obtain⟨u,rfl,t,rfl⟩:=vals1 r;have a:=pB;exact len_str () {.int z.length,H,I.tok _,{_,Y},q}
inductive kL(xs:List V)(H:Hp)(Q:VK):Prop
 |mk(p ys:_)(_:xs=[.ref p])(_:(au H p ys\/aI H p ys))(_:∀l,H l=none->Q (.ref l) (upd H l (.lst ys)))
def Qg:cu X (.type "list") (kL):=by
 intro pins s σ H xs x Q I r h;obtain⟨p,ys,rfl,f,q⟩:=h;obtain⟨u,rfl,v⟩:=vals1 r;cases v
 have j:∀(a:List Value),aF ys a->ys.length≤sizeLine->∀(h':Heap) (d:Nat),(∀b o',s.heap.get? b=some o'->h'.get? b=some o') →
   h'.get? ↑s=some { cls:=.type "list",dict:=none,data:=.seq a.toArray d,slots:=#[] }->EP X pins σ Q (.ref ↑s) { s with heap:=h' }:=λa c i h' d kp e =>
  {.ref ↑s,_,I.laid (t':=s.toks) kp (qi _) (show ba X.prog X.w _ h' _ (.lst ys) from{i,a,d,c,e}),Y,q _ (I.bP.fresh (qi _))}
 rcases f with f|f
 ·obtain⟨a,c,l,i⟩:=I.list f
  have g:=c.length;obtain⟨o,m,k,n,t⟩:=l.isList;exact call_list_seq p (.inl rfl) m k t (λh' d kp e=>j a c i h' d kp e) (by simp only[List.size_toArray] <;> omega)
 ·obtain⟨a,c,l,i⟩:=I.tuple f
  have g:=c.length;obtain⟨o,m,k,n,t⟩:=l;exact call_list_seq p (.inr rfl) m k t (λh' d kp e=>j a c i h' d kp e) (by simp only[List.size_toArray] <;> omega)
inductive i9(xs:List V)(H:Hp)(Q:VK):Prop
 |mk(p ys:_)(_:xs=[.ref p])(_:((au H p ys/\∀l,H l=none->Q (.ref l) (upd H l (.tup ys)))\/(aI H p ys/\Q (.ref p) H)))
def O_:cu X (.type "tuple") (i9):=by
 intro pins s σ H xs m Q I r h;obtain⟨p,ys,rfl,h⟩:=h;obtain⟨u,rfl,l⟩:=vals1 r;cases l;rcases h with⟨d,q⟩|⟨d,q⟩
 ·obtain⟨a,f,c,j⟩:=I.list d
  have i:=f.length;refine call_tuple_list c.isList (λh' kp=>?_) (by simp only[List.size_toArray] <;> omega);have g:Inv X pins σ H { s with heap:=h' }:=I.kept (t':=s.toks) kp
  have k:Inv X pins σ (upd H h'.objs.size (.tup ys)) { s with heap:=h'.push { cls:=.type "tuple",data:=.seq a.toArray } } :=
   g.laid (t':=s.toks) (λb o e=>qE _ e) (qi _) (show ba X.prog X.w _ _ _ (.tup ys) from{j,a,f,IsTup.new _ _})
  exact{.ref h'.objs.size,_,k,Y,q _ (g.bP.fresh (qi _))}
 ·obtain⟨a,f,c,j⟩:=I.tuple d
  exact call_tuple_same c {.ref p,H,I,Y,q}
def Ss(T:String)(x:V)(H:Hp):Prop:=match x with
 |.str _=>T = "str"
 |.int _=>T = "int"
 |.ref p=>(T = "list" /\ ∃xs,au H p xs)\/(T = "tuple" /\ False) ∨
   (T = "dict" /\ ((∃kvs,H p=some (.dK kvs))\/(∃kvs,H p=some (.dT kvs))\/∃kvs,H p=some (.dG kvs)))\/(T = "set" /\ ∃S n,H p=some (.set S n))
 |_=>False
def vL{pins:List (Addr×Obj)}{σ:St}{H:Hp}{s:Shared}{T:String}{x:V}{v:Value}(I:Inv X pins σ H s)(r:RelV x v)(ty:Ss T x H) :
  s.TypeIs v T/\∀a,v=.ref a->∃g,s.heap.get? a=some g/\g.dict=none:=by
 cases x with
 |str z =>
  obtain⟨t,rfl⟩:=r;cases(show T = "str" from ty);exact{typeIs_str s z t,λ_ e=>nomatch e}
 |int i =>
  obtain⟨t,rfl⟩:=r;cases(show T = "int" from ty);exact{typeIs_int s i t,λ_ e=>nomatch e}
 |ref p =>
  cases r;rcases ty with⟨rfl,xs,k⟩|⟨rfl,j⟩|⟨rfl,b⟩|⟨rfl,S,n,b⟩
  ·obtain⟨h,_,f,_⟩:=I.list k
   refine{f.isList.typeIs,λa e=>?_};cases e;obtain⟨o,n,e,c,l,_⟩:=f;exact{o,e,l}
  ·exact j.elim
  ·have z:∃o,s.heap.get? p=some o/\o.ExactDict:=by
    rcases b with⟨kvs,b⟩|⟨kvs,b⟩|⟨kvs,b⟩
    ·obtain⟨_,_,_,_,o,_,_,e,ex,_⟩:=I.bP p _ b
     exact{o,e,ex}
    ·obtain⟨_,_,_,_,o,_,_,e,ex,_⟩:=I.bP p _ b
     exact{o,e,ex}
    ·obtain⟨_,_,_,_,o,_,_,e,ex,_⟩:=I.bP p _ b
     exact{o,e,ex}
   obtain⟨o,e,ex⟩:=z;refine{{o,e,ex.1},λa d=>?_};cases d;exact{o,e,ex.2.1}
  ·obtain⟨o,_,_,_,e,ex,_⟩:=I.bP p _ b
   refine{{o,e,ex.1},λa d=>?_};cases d;exact{o,e,ex.2.1}
 |_=>exact False.elim ty
def QK(T:String)(r:V->List V->Hp->VK->Prop)(to:TE):TE:=λσ H Q=>to σ H λx H1=>Ss T x H1/\r x [] H1 Q
def IH(T:String)(r:V->List V->Hp->VK->Prop)(to:TE)(t:TA):TE:=λσ H Q=>to σ H λx H1=>Ss T x H1/\t σ H1 λxs H2=>r x xs H2 Q
variable {o e:Expr}{es:List Expr}{to:TE}{t:TA}{name:Str}{apos cpos:Pos}{T id:String}{r:V->List V->Hp->VK->Prop}
def EM(g:PlainAttrs T)(slot:Slot T name id)(c:typeOf (.builtin id)=pure (.type "method_descriptor"))(hm:w_ X id r)(j:PE X o to)(b:attributeBase o name X.env (eval o X.env)=eval o X.env:=by rfl)(a:(apos.endLine==cpos.line)=true:=by rfl):PE X (.Call (.Attribute o name apos) [] [] cpos) (QK T r to):=by
 refine{?_};intro pins s σ H Q I h;refine wpAny_Call_method0_late b a (bq (j pins s σ H _ I h) λv f ⟨x,H1,e,d,ty,i⟩=>?_);obtain⟨h1,h2⟩:=vL e d ty;exact{T,id,g,slot,c,h1,h2,Calls.callWith_builtin rfl (PySem.evalArgs_none (hm pins f σ H1 x [] v [] Q e d .nil i))}
def J9(n:PlainAttrs T)(slot:Slot T name id)(f:typeOf (.builtin id)=pure (.type "method_descriptor"))(hm:w_ X id r)(w:PE X o to)(y:PA X (e::es) t)(c:attributeBase o name X.env (eval o X.env)=eval o X.env:=by rfl)(d:((backTo cpos (starEach (e::es) X.env)).all (λx=>!x.1)&&(backToKw cpos (keywordEach [] X.env)).all (λx=>x.1.isSome)
   && decide ((e::es).length+([]:List Keyword).length+(if([]:List Keyword).isEmpty then 0 else 1)<30))=true:=by rfl)(b:(apos.endLine==cpos.line)=true:=by rfl)(hs:starEach (e::es) X.env=(false,eval e X.env)::starEach es X.env:=by rfl)(a:(backTo cpos (starEach es X.env)).any (·.1)=false:=by rfl) :
  PE X (.Call (.Attribute o name apos) (e::es) [] cpos) (IH T r to t):=by
 refine{?_};intro pins s σ H Q I h;refine wpAny_Call_method_late c d b rfl (bq (w pins s σ H _ I h) λv l ⟨x,H1,i,g,ty,u⟩=>?_);obtain⟨h1,h2⟩:=vL i g ty;refine{T,id,n,slot,f,h1,h2,?_};have j:=y cpos pins l σ H1 _ i u;rw[hs]at j ⊢;refine Calls.callWith_builtin (by show(false||(backTo cpos (starEach es X.env)).any (·.1))=false;rw[a] <;> rfl) (Calls.evalArgs_plain ?_);exact bq j λq m ⟨vs,H2,z,p,k⟩=>hm pins m σ H2 x vs v q Q z g p k
end
def QY(X:Cx)(id:String)(r:V->List V->Hp->VK->Prop):Prop :=
 ∀(pins:List (Addr×Obj)) (s:Shared) (σ:St) (H:Hp) (x:V) (xs:List V) (v:Value) (a:List Value) (Q:VK),Inv X pins σ H s->RelV x v->aF xs a->r x xs H Q →
  wpAny (model X.prog X.w) X.A (call (.builtin id) (v::a)) (EP X pins σ Q) X.xe s
def aF.tl(h:aF (x::xs) a):∃u vs,a=u::vs/\RelV x u/\aF xs vs:=by
 cases h with
 |cons r t=>exact{_,_,Y,r,t}
def aF.one:∀{x:V} {a:List Value},aF [x] a->∃u,a=[u]/\RelV x u:=by
 intro x a h
 cases h with
 |cons r t=>cases t;exact{_,Y,r}
def aF.two:∀{x y:V} {a:List Value},aF [x,y] a->∃u v,a=[u,v]/\RelV x u/\RelV y v:=by
 intro x y a h;obtain⟨u,vs,rfl,r,t⟩:=aF.tl h;obtain⟨v,rfl,q⟩:=aF.one t;exact{u,v,Y,r,q}
theorem aF.rep(h:aF xs a):∀k:Nat,aF (List.replicate k xs).flatten (List.replicate k a).flatten
 | 0=>.nil
 |k+1=>by
  rw[w6,w6,yj,yj];exact aF.append h (aF.rep h k)
theorem JT(a:List Value):∀(k:Nat) (b:List Value),
  List.foldl (λf d=>f++d) b.toArray (List.replicate k a.toArray)=(b++(List.replicate k a).flatten).toArray
 | 0,b=>by simp
 |k+1,b=>by
  have e:b.toArray++a.toArray=(b++a).toArray:=by simp
  have c:(b++a)++(List.replicate k a).flatten=b++(List.replicate (k+1) a).flatten:=by
   rw[w6,yj,vt]
  rw[←c,←JT a k (b++a),←e,w6,yk]
section
variable {X:Cx}{pins:List (Addr×Obj)}{σ:St}{H:Hp}{s:Shared}{l b:Addr}{xs ys zs:List V}
def Inv.PL{a its':List Value}{n:Nat}{f:Array Value->Array Value}{t':Nat}(I:Inv X pins σ H s)(i:H l=some (.lst xs))(e:s.heap.get? l=some { cls:=.type "list",data:=.seq a.toArray n })(b:f a.toArray=its'.toArray)(h:aF ys its')(g:ys.length≤sizeLine) :
  Inv X pins σ (upd H l (.lst ys)) { s with heap:=s.heap.update l (Obj.mapSeq f),toks:=t' }:=by
 have q:=PySem.IsL.update e f;rw[b]at q;refine I.write (x:=l) (e:=l) (by rw[i];exact trivial) (.inl rfl) (λj u c d=>(Heap.get?_update_other s.heap (Obj.mapSeq f) (Ne.symm c)).trans d) {_,q} ?_;exact{g,its',_,h,q}
def Inv.CG(I:Inv X pins σ H s)(b:aF ys a)(c:ys.length≤sizeLine) :
  Inv X pins σ (upd H ↑s (.lst ys)) { s with heap:=s.heap.push { cls:=.type "list",data:=.seq a.toArray },toks:=t' } :=
 I.laid (λ_ _ q=>qE _ q) (qi _) {c,a,0,b,qF _ rfl}
theorem Inv.fresh(I:Inv X pins σ H s):H ↑s=none:=I.bP.fresh (qi _)
def Inv.sJ(I:Inv X pins σ H s)(b:H l=some (.lst xs)):xs.length≤sizeLine/\∃(a:List Value) (n:Nat),aF xs a/\xs.length=a.length/\s.heap.get? l=some { cls:=.type "list",data:=.seq a.toArray n }:=by
 obtain⟨z,a,n,r,e⟩:=I.bP l _ b;exact{z,a,n,r,r.length,e}
def PQ(h:n≤sizeLine):Builtin.List.listTooLong n=false:=by
 unfold Builtin.List.listTooLong;exact decide_eq_false ()
end
section
variable {X:Cx}
inductive n_(x:V)(vs:List V)(H:Hp)(Q:VK):Prop
 |mk(l xs y:_)(_:x=.ref l)(_:vs=[y])(_:H l=some (.lst xs))(_:xs.length<sizeLine)(_:Q .a' (upd H l (.lst (xs++[y]))))
def Pg:QY X "list.append" n_:=by
 intro pins s σ H x vs v i Q I f d h;obtain⟨l,xs,y,rfl,rfl,b,g,q⟩:=h;cases f;obtain⟨u,rfl,c⟩:=d.one;obtain⟨z,a,n,r,hl,e⟩:=I.sJ b;refine call_meets F.slot_list_append {_,e,Y} F.entry_list_append (F.args_list_append_2 _ _) (PySem.list_append l a.toArray n u (by rw[zx];omega)) {e,?_};refine{.a',_,I.PL (its':=a++[u]) b e (by simp) (r.append (.cons c .nil)) ?_,Y,q};rw[qu,zy];omega
inductive R0(x y:V)(H:Hp)(Q:VK):Prop
 |mk(l b xs zs:_)(_:x=.ref l)(_:y=.ref b)(_:H l=some (.lst xs))(_:H b=some (.lst zs))(_:xs.length+zs.length≤sizeLine)(_:∀p,H p=none->Q (.ref p) (upd H p (.lst (xs++zs))))
def D3:df X (binaryOp .Add) R0:=by
 intro pins s σ H x y v u Q I o f h;obtain⟨l,b,xs,zs,rfl,rfl,k,m,p,q⟩:=h;cases o;cases f;obtain⟨z,c,n,r,hl,e⟩:=I.sJ k;obtain⟨z2,a,n2,i,g,d⟩:=I.sJ m;refine PySem.P.add_list e d ?_ (by rw[zx,zx];omega)
 have j:c.toArray++a.toArray=(c++a).toArray:=by simp
 rw[j];exact{.ref _,_,I.CG (t':=s.toks) (r.append i) (by rw[qu];omega),Y,q _ I.fresh}
inductive RU(x y:V)(H:Hp)(Q:VK):Prop
 |mk(l k xs:_)(_:x=.ref l)(_:y=.int k)(_:H l=some (.lst xs))(_:-(2 ^ 63)≤k)(_:k<2 ^ 63)(_:xs.length * k.toNat≤sizeLine)(_:∀p,H p=none->Q (.ref p) (upd H p (.lst (List.replicate k.toNat xs).flatten)))
def Ox{a:Type}(xs:List a)(k:Nat):(List.replicate k xs).flatten.length=k * xs.length:=by
 induction k with
 |zero=>simp
 |succ k b=>rw[w6,yj,qu,b,Nat.succ_mul,jd]
def BH:df X (binaryOp .Mult) RU:=by
 intro pins s σ H x y v u Q I C w h;obtain⟨l,k,xs,rfl,rfl,B,h1,h2,p,q⟩:=h;cases C;obtain⟨t,rfl⟩:=w;obtain⟨z,b,n,r,hl,e⟩:=I.sJ B
 have f:b.toArray.size * k.toNat≤sizeLine:=by rw[zx,←hl];exact p
 have d:¬b.toArray.size * k.toNat>(2 ^ 63 - 1) / 8:=by
  have:(sizeLine:Nat)≤(2 ^ 63 - 1) / 8:=⋯
  omega
 have i:¬(!Builtin.List.listFitsIndex k)=true:=by
  rw[fitsIndex_both h1 h2];exact zg
 have c:¬Builtin.List.listTooLong (b.toArray.size * k.toNat)=true:=by
  rw[PQ f];exact zg
 have g:List.foldl (λj o=>j++o) #[] (List.replicate (if b.toArray.isEmpty=true then 0 else k.toNat) b.toArray)=(List.replicate k.toNat b).flatten.toArray:=by
  have A:∀m:Nat,List.foldl (λj o=>j++o) #[] (List.replicate m b.toArray)=(List.replicate m b).flatten.toArray:=λm=>by
   have:=JT b m [];rw[List.nil_append]at this;exact this
  rw[A]
  cases b with
  |nil=>simp
  |cons a D=>rw[qq (by simp)]
 refine wpAny_binaryOp_repeat_ref (T:="list") (U:="int") ⋯ {_,e,Y} (λs'=>typeIs_int s' k t) noFill_list_mul F.fills_int_mul F.slot_int_rmul repeat_list F.slot_int_index.lookup
  (call_meets F.slot_int_rmul (typeIs_int s k t) F.entry_int_rmul (F.args_int_rmul_2 _ _) (int___rmul___int_list k t l b.toArray n)
   {e,Y,{_,e,Y},call_meets F.slot_list_mul {_,e,Y} F.entry_list_mul (F.args_list_mul_2 _ _) (AutoListH.list___mul___list_int_3 l b.toArray n k t i d c) {e,?_}})
 rw[g];exact{.ref _,_,I.CG (t':=s.toks) (r.rep k.toNat) (by rw[Ox,jw];exact p),Y,q _ I.fresh}
end
section
variable {κ:Type}[DecidableEq κ]
def eQ(kvs:List (κ×V))(k:κ):Option V:=(kvs.find? λa=>decide (a.1=k)).map (·.2)
def putK(kvs:List (κ×V))(k:κ)(v:V):List (κ×V) :=
 if(kvs.any λa=>decide (a.1=k))=true then kvs.map (λa=>if a.1=k then(a.1,v) else a) else kvs++[(k,v)]
def jI{p:κ×V}{r:List (κ×V)}{k:κ}(e:p.1=k):eQ (p::r) k=some p.2:=by simp[eQ,List.find?_cons,e]
def jQ{p:κ×V}{r:List (κ×V)}{k:κ}(e:¬p.1=k):eQ (p::r) k=eQ r k:=by simp[eQ,List.find?_cons,e]
theorem u3(k:κ):∀kvs:List (κ×V),(kvs.any λa=>decide (a.1=k))=(eQ kvs k).isSome
 |[]=>rfl
 |p::r=>by
  rw[yi]
  by_cases e:p.1=k
  ·simp only[jI e,decide_eq_true e,Bool.true_or,Option.isSome_some]
  ·rw[jQ e,decide_eq_false e,je];exact u3 k r
theorem HH(k j:κ)(y:V):∀kvs:List (κ×V),eQ (kvs.map λa=>if a.1=k then(a.1,y) else a) j=(eQ kvs j).map λx=>if j=k then y else x
 |[]=>rfl
 |p::r=>by
  have b:=HH k j y r;rw[qw]
  by_cases h:p.1=k
  ·rw[q0 h]
   by_cases e:p.1=j
   ·rw[jI (p:=(p.1,y)) e,jI e,jf,q0 (e.symm.trans h)]
   ·rw[jQ (p:=(p.1,y)) e,jQ e,b]
  ·rw[qq h]
   by_cases e:p.1=j
   ·rw[jI (p:=p) e,jI e,jf,qq (λz=>h (e.trans z))]
   ·rw[jQ (p:=p) e,jQ e,b]
theorem LY(k j:κ)(y:V):∀kvs:List (κ×V),eQ kvs k=none->eQ (kvs++[(k,y)]) j=if j=k then some y else eQ kvs j
 |[],_=>by
  by_cases e:k=j
  ·rw[q0 e.symm];exact jI (p:=(k,y)) e
  ·rw[qq (λz=>e z.symm)];exact jQ (p:=(k,y)) e
 |p::r,hn=>by
  rw[List.cons_append]
  have a:¬p.1=k:=λz=>by rw[jI z]at hn;cases hn
  rw[jQ a]at hn;have b:=LY k j y r hn
  by_cases e:p.1=j
  ·rw[jI e,jI e,qq (λz=>a (e.trans z))]
  ·rw[jQ e,jQ e,b]
def KL(kvs:List (κ×V))(k j:κ)(y:V):eQ (putK kvs k y) j=if j=k then some y else eQ kvs j:=by
 unfold putK
 by_cases a:(kvs.any λb=>decide (b.1=k))=true
 ·rw[q0 a,HH]
  rw[u3]at a
  by_cases e:j=k
  ·obtain⟨x,c⟩:=jv.mp a
   rw[q0 e,e,c,jf,q0 rfl]
  ·rw[qq e]
   cases eQ kvs j with
   |none=>rfl
   |some x=>rw[jf,qq e]
 ·rw[qq a]
  refine LY k j y kvs ?_;rw[u3]at a
  cases q:eQ kvs k with
  |none=>rfl
  |some x=>rw[q]at a;exact(a rfl).elim
def AB(kvs:List (κ×V))(k:κ)(v:V):(putK kvs k v).length≤kvs.length+1:=by
 unfold putK
 split
 ·rw[qf];omega
 ·rw[qu,zi,jg];omega
def jV.pR(r:jV o u):o.isSome=u.isSome:=by
 cases o with
 |none=>cases u with
  |none=>rfl
  |some _=>exact(show False from r).elim
 |some _=>cases u with
  |none=>exact(show False from r).elim
  |some _=>rfl
def KV.val(r:KV kvs vs)(k:κ):jV (eQ kvs k) (valueAt vs k):=by
 unfold KV at r
 induction r with
 |nil=>exact True.intro
 |@cons p q ps a h t d =>
  obtain⟨h1,h2⟩:=h
  by_cases e:p.1=k
  ·have c:q.1=k:=h1.symm.trans e
   have b:valueAt (q::a) k=some q.2:=by simp[valueAt,List.find?_cons,c]
   rw[jI e,b];exact h2
  ·have c:¬q.1=k:=λz=>e (h1.trans z)
   have b:valueAt (q::a) k=valueAt a k:=by simp[valueAt,List.find?_cons,c]
   rw[jQ e,b];exact d
theorem KV.any(r:KV kvs vs)(k:κ):(kvs.any λa=>decide (a.1=k))=vs.any λa=>decide (a.1=k):=by
 unfold KV at r
 induction r with
 |nil=>rfl
 |cons h t b=>rw[yi,yi,b,h.1]
def KV.DS(r:KV kvs vs)(k:κ)(b:RelV y u) :
  KV (kvs.map λa=>if a.1=k then(a.1,y) else a) (vs.map λa=>if a.1=k then(a.1,u) else a):=by
 unfold KV at r ⊢
 induction r with
 |nil=>exact .nil
 |@cons p q ps d h t c =>
  rw[qw,qw];refine .cons ?_ c;obtain⟨h1,h2⟩:=h
  by_cases e:p.1=k
  ·rw[q0 e,q0 (h1.symm.trans e)];exact{h1,b}
  ·rw[qq e,qq (λz=>e (h1.trans z))];exact{h1,h2}
def KV.put{kvs:List (κ×V)}{vs:List (κ×Value)}(r:KV kvs vs)(k:κ){y:V}{u:Value}(a:RelV y u):KV (putK kvs k y) (stored vs k u):=by
 unfold putK stored;rw[r.any k]
 by_cases e:(vs.any λb=>decide (b.1=k))=true
 ·rw[q0 e,q0 e];exact r.DS k a
 ·rw[qq e,qq e];exact Paired.snoc r {Y,a}
theorem KV.length{kvs:List (κ×V)}{vs:List (κ×Value)}(r:KV kvs vs):kvs.length=vs.length:=Paired.length r
end
def m1(r:RelV (kV k) u):(ay P w).is k u=true:=by
 cases k with
 |inl i=>obtain⟨t,e⟩:=(show ∃t,u=Value.int i t from r);subst e;exact O9 P w i t
 |inr x=>obtain⟨t,e⟩:=(show ∃t,u=Value.str x t from r);subst e;exact PN P w x t
theorem G9:∀{ks:List Key} {a:List Value},aF (ks.map kV) a->ItemsAre (ay P w) ks a
 |[],_,r=>by rw[List.map_nil]at r;cases r;exact .nil
 |k::ks,_,r=>by
  rw[qw]at r
  cases r with
  |cons h t=>exact .cons (m1 h) (G9 t)
abbrev KT(H:Hp):List (List Key×V)->List (List Key×Addr×Value)->Prop:=Paired λp q=>p.1=q.1/\H q.2.1=some (.tup (p.1.map kV))/\RelV p.2 q.2.2
def KT.val(r:KT H kvs xs)(k:List Key):jV (eQ kvs k) ((atKey xs k).map (·.2)):=by
 induction r with
 |nil=>exact True.intro
 |@cons p q ps a h t d =>
  obtain⟨h1,_,h2⟩:=h
  by_cases e:p.1=k
  ·have c:q.1=k:=h1.symm.trans e
   have b:atKey (q::a) k=some q.2:=by simp[atKey,List.find?_cons,c]
   rw[jI e,b];exact h2
  ·have c:¬q.1=k:=λz=>e (h1.trans z)
   have b:atKey (q::a) k=atKey a k:=by simp[atKey,List.find?_cons,c]
   rw[jQ e,b];exact d
def KT.DS(r:KT H kvs xs)(k:List Key)(b:RelV y u) :
  KT H (kvs.map λa=>if a.1=k then(a.1,y) else a) (xs.map (putAt k u)):=by
 induction r with
 |nil=>exact .nil
 |@cons p q ps f h t c =>
  rw[qw,qw];refine .cons ?_ c;obtain⟨h1,h2,d⟩:=h;unfold putAt
  by_cases e:p.1=k
  ·rw[q0 e,q0 (h1.symm.trans e)];exact{h1,h2,b}
  ·rw[qq e,qq (λz=>e (h1.trans z))];exact{h1,h2,d}
def KT.put{H:Hp}{kvs:List (List Key×V)}{xs:List (List Key×Addr×Value)}(r:KT H kvs xs)(k:List Key){b:Addr}{y:V}{u:Value}(d:H b=some (.tup (k.map kV)))(a:RelV y u) :
  KT H (putK kvs k y) (storedH xs k b u):=by
 have e:(kvs.any λc=>decide (c.1=k))=(atKey xs k).isSome:=by
  rw[u3,(r.val k).pR,gm]
 unfold putK storedH;rw[e]
 by_cases q:(atKey xs k).isSome=true
 ·rw[q0 q,q0 q];exact r.DS k a
 ·rw[qq q,qq q];exact Paired.snoc r {Y,d,a}
def KT.keeps(r:KT H kvs xs)(a:∀b ys,H b=some (.tup ys)->H' b=some (.tup ys)):KT H' kvs xs :=
 Paired.vP r λ_ _ z=>{z.1,a _ _ z.2.1,z.2.2}
section
variable {P:Program}{w:World}{H:Hp}{h:Heap}{a:Addr}
def yH(ok:eV P w H h)(e:Rd H a u):ba P w H h a u:=e.ok ok
def tF(ok:eV P w H h)(e:Rd H a (.dK kvs)):kvs.length≤sizeLine/\(a==sysModules)=false/\∃vs,KV kvs vs/\h.DictOf (ay P w) a vs :=
 show ba P w H h a (.dK kvs) from yH ok e
def Jh(ok:eV P w H h)(e:H a=some (.dK kvs)):kvs.length≤sizeLine/\(a==sysModules)=false/\∃vs,KV kvs vs/\h.DictOf (ay P w) a vs:=tF ok (.inl e)
def pJ(ok:eV P w H h)(e:H a=some (.tup (ks.map kV))):(tupleKind (ay P w)).is h ks a:=by
 obtain⟨_,b,r,o,h1,h2,n,c⟩:=(show ba P w H h a (.tup (ks.map kV)) from ok a _ e);exact{o,b.toArray,n,h1,h2,c,by simpa using G9 r}
def qU(ok:eV P w H h)(e:Rd H a (.dT kvs)):kvs.length≤sizeLine/\(a==sysModules)=false ∧
  ∃xs,KT H kvs xs/\h.DictOfH (tupleKind (ay P w)) a xs:=by
 obtain⟨z,y,xs,r,o,es,j,h1,h2,g,i,d⟩:=(show ba P w H h a (.dT kvs) from yH ok e);refine{z,y,xs,r,o,es,j,h1,h2,g,i,λx b=>?_,d}
 have all:∀{l:List (List Key×V)} {m:List (List Key×Addr×Value)},KT H l m->∀x∈m,(tupleKind (ay P w)).is h x.1 x.2.1:=by
  intro l m q
  induction q with
  |nil=>intro x b;exact nomatch b
  |@cons p q ps k c t f =>
   intro x b;rcases qr.mp b with e|b
   ·subst e
    exact pJ ok (by rw[←c.1];exact c.2.1)
   ·exact f x b
 exact all r x b
def IJ(ok:eV P w H h)(e:H a=some (.dT kvs)):kvs.length≤sizeLine/\(a==sysModules)=false ∧
  ∃xs,KT H kvs xs/\h.DictOfH (tupleKind (ay P w)) a xs:=qU ok (.inl e)
end
def pT(H:Hp)(a:Addr)(y:V)(r:Option V):Prop :=
 (∃kvs k,Rd H a (.dK kvs)/\y=kV k/\r=eQ kvs k)\/∃kvs k b,Rd H a (.dT kvs)/\y=.ref b/\H b=some (.tup (k.map kV))/\r=eQ kvs k
def ro(H:Hp)(a:Addr)(y v:V)(H':Hp):Prop :=
 (∃kvs k,H a=some (.dK kvs)/\y=kV k/\kvs.length<sizeLine/\H'=upd H a (.dK (putK kvs k v))) ∨
 ∃kvs k b,H a=some (.dT kvs)/\y=.ref b/\H b=some (.tup (k.map kV))/\kvs.length<sizeLine/\H'=upd H a (.dT (putK kvs k v))
def pT.t(e:H a=some (.dT kvs))(c:H b=some (.tup (k.map kV))):pT H a (.ref b) (eQ kvs k):=.inr {kvs,k,b,.inl e,Y,c,Y}
def ro.t(e:H a=some (.dT kvs))(c:H b=some (.tup (k.map kV)))(hl:kvs.length<sizeLine) :
  ro H a (.ref b) v (upd H a (.dT (putK kvs k v))):=.inr ⟨kvs,k,b,e,Y,c,hl,Y⟩
section
variable {X:Cx}{pins:List (Addr×Obj)}{σ:St}{H:Hp}{s:Shared}{a:Addr}{y v:V}{u r:Value}{o:Option V}{A:Around}{E:Value->Shared->Prop}
def Inv.oO(I:Inv X pins σ H s):sysModules<↑s:=by
 have h:mainGlobals<↑s:=(I.mod.glob.keeps I.bk).lt;exact vh ⋯ h
def OT(n:A.units+1<cLine)(I:Inv X pins σ H s)(g:pT H a y (some v))(m:RelV y u)(h:∀f s',Inv X pins σ H s'->RelV v f->Q f s') :
  wpAny (model X.prog X.w) A (getItem (.ref a) u) Q E s:=by
 rcases g with⟨kvs,k,e,j,l⟩|⟨kvs,k,b,e,j,q,l⟩
 ·subst j
  obtain⟨z,t,vs,c,dd⟩:=tF I.bP e;obtain⟨f,hw,d⟩:=jV.some_of (v:=v) (o:=valueAt vs k) (by rw[l];exact c.val k);exact wpAny_getItem_of (m1 m) dd.mapOf hw (h f _ (I.tok _) d)
 ·subst j
  cases(show u=Value.ref b from m);obtain⟨z,t,xs,c,dd⟩:=qU I.bP e;obtain⟨f,hw,d⟩:=jV.some_of (v:=v) (o:=(atKey xs k).map (·.2)) (by rw[l];exact c.val k);obtain⟨p,r,i⟩:=yu.mp hw;refine wpAny_getItem_heap (tupleKind_room_in1 n) (pJ I.bP q) dd r ?_;rw[i];exact h f _ (I.tok _) d
def Il(I:Inv X pins σ H s)(f:HG (H a))(hs:Heap.SameBut a s.heap h')(d:∃q,h'.get? a=some q)(new:ba X.prog X.w (upd H a c) h' a c) :
  Inv X pins σ (upd H a c) { s with heap:=h',toks:=t' } :=
 I.write (x:=a) (e:=a) f (.inl rfl) (λb q g z=>(hs.2 b g).trans z) d new
def AH(z:kvs.length≤sizeLine)(c:(a==sysModules)=false)(b:KV kvs vs)(dd:h'.DictOf (ay P w) a vs) :
  ba P w H' h' a (.dK kvs):={z,c,vs,b,dd}
def OG(B:A.units+1<cLine)(I:Inv X pins σ H s)(g:ro H a y v H')(p:RelV y u)(t:RelV v r)(h:∀s',Inv X pins σ H' s'->Q Unit.unit s') :
  wpAny (model X.prog X.w) A (setItem (.ref a) u r) Q E s:=by
 rcases g with⟨kvs,k,e,m,l,i⟩|⟨kvs,k,b,e,m,x,l,i⟩
 ·subst m i
  obtain⟨z,n,vs,d,dd⟩:=Jh I.bP e
  have j:vs.length≤sizeLine:=by rw[←d.length];exact z
  have hl:(putK kvs k v).length≤sizeLine:=by have:=AB kvs k v;omega
  refine wpAny_setItem_pairs (hsz:=j) (m1 p) dd λh' dd' hs=>h _ ?_
  have D:∃q,h'.get? a=some q:=let⟨q,_,_,f,_⟩:=dd';{q,f}
  exact Il I (by rw[e];exact True.intro) hs D (AH hl n (d.put k t) dd')
 ·subst m i
  cases(show u=Value.ref b from p);obtain⟨z,n,xs,d,dd⟩:=IJ I.bP e
  have j:xs.length≤sizeLine:=by rw[←Paired.length d];exact z
  have hl:(putK kvs k v).length≤sizeLine:=by have:=AB kvs k v;omega
  refine wpAny_setItem_heap (hsz:=j) (tupleKind_room_in1 B) (pJ I.bP x) dd λh' dd' hs=>h _ ?_;obtain⟨q,es,J,f,h2,F,G,_,C⟩:=dd';refine Il I (by rw[e];exact True.intro) hs {q,f} {hl,n,_,(d.put k x t).keeps λc ys o=>?_,q,es,J,f,h2,F,G,C};rw[aP (Kq o e (λz=>nomatch z))];exact o
end
def FY(i:Expr):Prop:=∀a b,subscripted i false a b=operate [a,b] (getItem a b)
def Jt{prog:Program}{w:World}{A:Around}{E:Value->Shared->Prop}{s:Shared}{env:Env}{value a:Expr}{pos:Pos}{T id:String}{Q:Value->Shared->Prop}(hl:typeLookup (.type T) "__getitem__"=pure (some (.builtin id)))(hs:FY a)(h:wpAny (model prog w) A (eval value env) (λo d=>wpAny (model prog w) A (eval a env) (λi b=>b.TypeIs o T/\wpAny (model prog w) A (getItem o i) Q E b) E d) E s) :
  wpAny (model prog w) A (eval (.Subscript value a pos) env) Q E s:=by
 refine Subscript_ (qG h (λo d g=>qG g (λi b c=>?_) λ_ _ x=>x) λ_ _ x=>x);obtain⟨k,c⟩:=c;unfold subscriptTail;refine qc ?_;rw[getitemInPython_of_ne k.not_modules];refine qc (wpAny_specialOf k hl ?_)
 have f:wpAny (model prog w) A (subscripted a false o i) (λr e=>wpAny (model prog w) A (letTemporaryGo value o r >>= λ_=>pure r) Q E e) E b:=by
  rw[hs o i];exact wpAny_operating (qG c (λr e j=>qc (wpAny_letTemporaryGo (qA j))) λ_ _ x=>x)
 first
  |exact qA (qc f)
  |exact qc (qA (qc f))
  |exact qc f
def Q0{X:Cx}{pins:List (Addr×Obj)}{σ:St}{H:Hp}{s:Shared}{a:Addr}{y:V}{o:Option V}(I:Inv X pins σ H s)(g:pT H a y o):s.TypeIs (.ref a) "dict":=by
 rcases g with⟨kvs,k,e,_,_⟩|⟨kvs,k,b,e,_,_,_⟩
 ·obtain⟨_,_,vs,_,dd⟩:=tF I.bP e
  exact dd.typeIs
 ·obtain⟨_,_,xs,_,dd⟩:=qU I.bP e
  exact dd.typeIs
inductive D2(Q:VK)(x y:V)(H2:Hp):Prop
 |mk(a v:_)(_:x=.ref a)(_:pT H2 a y (some v))(_:Q v H2)
def G2(td ty:TE):TE:=λσ H Q=>td σ H λx H1=>ty σ H1 λy H2=>D2 Q x y H2
inductive EF(D:Ends)(σ:St)(v x y:V)(H3:Hp):Prop
 |mk(a H4:_)(_:x=.ref a)(_:ro H3 a y v H4)(_:D.nx σ H4)
def Ll(td ty tv:TE):TS:=λD σ H=>tv σ H λv H1=>td σ H1 λx H2=>ty σ H2 λy a=>EF D σ v x y a
section
variable {X:Cx}{o i e value:Expr}{pos pos' tpos:Pos}{td ty tv:TE}
def Of(l:X.A.units+1<cLine)(n:PE X o td)(hi:PE X i ty)(hs:FY i):PE X (.Subscript o i pos) (G2 td ty):=by
 refine{?_};intro pins s σ H Q I h;refine Jt PySem.F.slot_dict_getitem.lookup hs (bq (n pins s σ H _ I h) λu k ⟨x,H1,d,p,m⟩=>bq (hi pins k σ H1 _ d m) λq r ⟨y,H2,c,e,a,v,ex,g,f⟩=>?_);subst ex;obtain rfl:u=Value.ref a:=p;exact{Q0 c g,OT l c g e λt w j b=>{v,H2,j,b,f}}
def Sr(k:X.A.units+1<cLine)(e:PE X o td)(hi:PE X i ty)(f:PE X value tv)(hs:swapsWith value (some (.Subscript o i pos')) pos.line X.env=pure false) :
  PS X (.Assign [.Subscript o i pos'] value pos) (Ll td ty tv):=by
 refine{?_};intro pins s σ H D I h;refine wpAny_Assign_Subscript (bq (f pins s σ H _ I h) λr m ⟨v,H1,p,n,l⟩=>bq (e pins m σ H1 _ p l) λu w ⟨x,H2,z,B,j⟩=>bq (hi pins w σ H2 _ z j) λE F ⟨y,G,c,b,a,d,ex,g,q⟩=>?_) hs;subst ex;obtain rfl:u=Value.ref a:=B;exact OG k c g b n λC t=>{σ,d,t,q}
end
def Og(h:Heap)(a:sysModules<h.objs.size):ba P w H (h.push { cls:=.type "dict",data:=.dict #[] }) h.objs.size (.dK []) :=
 {wq _,beq_eq_false_iff_ne.mpr (Ne.symm (qp a)),[],.nil,Heap.DictOf.new h}
def Qw(h:Heap)(a:sysModules<h.objs.size):ba P w H (h.push { cls:=.type "dict",data:=.dict #[] }) h.objs.size (.dT []) :=
 {wq _,beq_eq_false_iff_ne.mpr (Ne.symm (qp a)),[],.nil,_,#[],0,qF _ rfl,{Y,Y,Y},Y,Y,vy}
def CS:TE:=λ_ H Q=>∀p,H p=none->Q (.ref p) (upd H p (.dK []))
def Bu:TE:=λ_ H Q=>∀p,H p=none->Q (.ref p) (upd H p (.dT []))
section
variable {X:Cx}{pos:Pos}
def Sg:PE X (.Dict [] [] pos) CS:={λpins s σ H Q I h =>
 wpAny_Dict_empty {.ref ↑s,_,I.laid (a:=↑s) (o:=.dK []) (t':=s.toks) (λ_ _ q=>qE _ q) (qi _) (Og s.heap I.oO),Y,h _ (I.bP.fresh (qi _))}}
def R8:PE X (.Dict [] [] pos) Bu:={λpins s σ H Q I h =>
 wpAny_Dict_empty {.ref ↑s,_,I.laid (a:=↑s) (o:=.dT []) (t':=s.toks) (λ_ _ q=>qE _ q) (qi _) (Qw s.heap I.oO),Y,h _ (I.bP.fresh (qi _))}}
end
end L2
namespace Att
open PySem PySem.W PySem.Calls PyProof.Rows
def R_:∀(c:List Int) (vs:List Value),WellAll P h vs (c.map WData.int)->IntsAre vs c:=by
 intro c
 induction c with
 |nil =>
  intro vs w;rw[List.map_nil]at w;cases w;exact .nil
 |cons n c d =>
  intro vs w;rw[qw]at w
  cases w with
  |cons a b =>
   cases a;exact .cons _ _ (d _ b)
def Rc{l:OpenLaw}{n:Nat}(p:l.most=some n){P:Params}{h:Heap}{args:List WData}{c:List Value}(e:l.row.toRowW.claim.pre args=true)(m:WellAll P h c args) :
  ∃a vs b,c=[Value.ref a]/\args=[WData.list (b.map WData.int)]/\h.get? a=some { cls:=.type "list",data:=.seq vs.toArray }/\IntsAre vs b/\b.length≤n:=by
 have k:WShape.hasAll [] args [.list .int]=true:=(pre_splitW e).1;have o:l.pre.holds [] { args:=args }=true:=(pre_splitW e).2;obtain⟨d,r,rfl,h1,h2⟩:=hasAllW_cons k;obtain rfl:=hasAllW_nil h2;obtain⟨xs,rfl,s⟩:=hasW_list h1;obtain⟨b,rfl⟩:=items_int s
 have f:b.length≤n:=by
  unfold OpenLaw.pre at o
  have j:(WTm.not (.lt (.lit (.int (n:Int))) (.len (.arg 0)))).holds [] { args:=[.list (b.map .int)] }=true:=by
   have j:=(holds_andW o).1;rw[p]at j;exact j
  have i:=condW_of j (w_not (w_lt w_lit (w_len_list (w_arg rfl))));rw[qf]at i;refine jx λq=>?_
  have q':(n:Int)<((b.length:Nat):Int):=()
  first
   |(rw[qs q']at i;exact absurd i ⋯)
   |(simp at i;omega)
 cases m with
 |cons u v =>
  cases v
  cases u with
  |list t g=>exact{_,_,b,Y,Y,t,R_ b _ g,f}
def RW(l:OpenLaw)(args:List WData):l.row.toRowW.claim.post args (.bool true) args=true :=
 postW_of (r:=l.row.toRowW) (X:=(true==true))
  (show WShape.has [] (.bool true) .bool=true by first|rfl|decide|simp[WShape.has,WShape.arms,WShape.armsAll])
  (show(WTm.eq .res (.lit (.bool true))).value [] { args:=args,res:=some (.bool true),after:=args }=some (.bool (true==true)) from w_eq_bool (w_res rfl) w_lit) rfl
def mL{l:OpenLaw}{n:Nat}{q:Program}{c:List Str}{y:(Str->Option Value)->Heap->Prop}{z:World->Heap->Prop}{d:DefRec}(H:l.most=some n)(t:d.params.defaults=[])(call:∀(w:World) (s₀ b:Shared) (mg v:Str->Option Value) (i:Addr) (o:Obj) (u cd g:Value) (a:Addr) (vs:List Value) (m:List Int),
   Ground q c [] y w s₀ mg v b.heap->z w b.heap →
   b.heap.get? i=some o->o.data=.func (docDef d.name d.params d.body d.scope u cd g)->b.heap.CodeRec cd d.name->mg d.name=some (.ref i) →
   b.heap.get? a=some { cls:=.type "list",data:=.seq vs.toArray }->IntsAre vs m->m.length≤n->b.gens=#[] →
   codeAny (model l.prog w) callerA (.call (.ref i) {[.ref a],[]}) (λr s'=>r=.ok (.ret (.bool true))/\OldK b.heap s'.heap/\s'.os=b.os/\AllBare s'.gens) b) :
  WalkO q c y z l.row.toRowW d [] (λf vs=>PySem.call f vs):=by
 intro w s₀ b mg v G Y i o u cd g J kV F L p A s M B C P j D I x E;obtain rfl:J=.none:=Dflts.none A t;obtain rfl:kV=.none:=Dflts.noKw A;obtain⟨a,vs,m,rfl,rfl,k,e,h⟩:=Rc H j x;refine enter_call (codeAny_mono (call w s₀ b mg v i o u cd g a vs m G Y F (fd_plain L) p s k e h M) λr s' O=>?_);obtain⟨rfl,h2,K,N⟩:=O;exact{.inl {.bool true,.bool true,[],rfl,λ_=>rfl,.bool true,RW l _,λ_=>{List.Pairwise.nil,λ_ hm=>(nomatch hm)}},h2,K,N}
end Att
namespace L2
open PySem PySem.Spec PyProof.Rows
theorem Kl:∀{vs:List Value} {a:List Int},IntsAre vs a->aF (a.map V.int) vs
 |_,_,.nil=>.nil
 |_,_,.cons n t h=>.cons {t,Y} (Kl h)
def eB(s:Stmt):Arguments:=match s with
 |.FunctionDef _ a _ _ _ _ _ _ _ _=>a
 |_=>{ posonlyargs:=[],args:=[],vararg:=none,kwonlyargs:=[],kw_defaults:=[],kwarg:=none,defaults:=[] }
def cK(s:Stmt):List Stmt:=match s with
 |.FunctionDef _ _ b _ _ _ _ _ _ _=>b
 |_=>[]
def af(s:Stmt):Scope:=match s with
 |.FunctionDef _ _ _ _ _ _ sc _ _ _=>sc
 |_=>{ kind:=.function,names:=[],isGenerator:=false,isCoroutine:=false }
abbrev p_:sL:=λ_ _ _ _ _ _=>False
abbrev E0:XK:=λ_ _ _=>False
def xW:ek p_ X E0:=λ_ _ _ _ _ _ _ h=>h.elim
structure uM(K:PySem.W.Frag)(x qual:Str)(st:Stmt)(f:Addr)(fd:FuncData):Prop where
 ex:∃(oc:Value) (od:Option Addr) (kV doc pm:Value) (an:Option Addr) (cdv ct:Value) (osl:Array (Option Value)),
  fd=PySem.W.fnOf x qual (eB st) (cK st) (af st) .none kV doc pm an cdv ct/\K.lookup f=some {oc,od,.func fd,osl}/\PySem.W.codeIn K cdv qual=true
 kp:PySem.W.keepIn K (.ref f)=true
section
variable {P:Program}{w:World}{K:PySem.W.Frag}{mg:Str->Option Value}{base:Heap}
def uM.ok{x qual:Str}{st:Stmt}{f:Addr}{fd:FuncData}{N ps:List Str}{k:Nat}{sp:Sp}(F:uM K x qual st f fd)(S:aj N ps (af st))(len:∀vs H Q E,sp vs H Q E->vs.length=ps.length)(b:∀(a:Value) (A:Around) (outer:List Env) (s:Shared) (H:Hp) (vs:List V) (Q:VK) (E:XK),cg k (A.deeper (envOfC qual (af st) ↑s f a))->sp vs H Q E →
   ∃t,kx (kI p_ P w K mg base N qual (af st) f a A outer s H E).Bw (cK st) t/\t { nx:=λ_ H'=>Q .a' H',rt:=Q } (start N vs) H):fw P w K mg base p_ (k+1) f fd ps sp:=by
 obtain⟨o,p,kV,j,m,l,a,n,e,rfl,g,c⟩:=F.ex;refine xh g c S len λA outer s H vs Q E i d=>?_;obtain⟨t,h,q⟩:=b a A outer s H vs Q E i d;exact{t,h.Bw,q}
def uM.binds{x qual:Str}{st:Stmt}{f:Addr}{fd:FuncData}{ps:List Str}(F:uM K x qual st f fd)(h:∀{kV a d:Value}{c:Option Addr}{b e:Value}(g:List Value),g.length=ps.length->bindArgs (PySem.W.fnOf x qual (eB st) (cK st) (af st) .none kV a d c b e) {g,[]}=pure (ps.zip g)):Binds K fd ps []:=by
 obtain⟨l,m,kV,a,d,c,b,e,j,rfl,k,i⟩:=F.ex;exact .all h
def Hm{x qual:Str}{st:Stmt}{f:Addr}{i:Value}{j e:Option Addr}{d:Array (Option Value)}{kV b g a h:Value}(l:K.lookup f=some {i,j,.func (PySem.W.fnOf x qual (eB st) (cK st) (af st) .none kV b g e a h),d})(c:PySem.W.codeIn K a qual=true)(k:PySem.W.keepIn K (.ref f)=true):uM K x qual st f (PySem.W.fnOf x qual (eB st) (cK st) (af st) .none kV b g e a h):={⟨i,j,kV,b,g,e,a,h,d,Y,l,c⟩,k}
end
def JG(a:cg k A):A.units+1<cLine:=jh (Nat.add_le_add_left (by decide:1≤64) _) a.units
def aC(h:n≤1000):n<sizeLine:=jh h ⋯
section
variable {X:Cx}
def pv(i:Nat)(c:X.N[i]?=some x:=by rfl)(d:NG X.env.scope x:=by first|exact Or.inl rfl|exact Or.inr (Or.inl rfl)|exact Or.inr (Or.inr rfl))(b:(x==("__debug__":Str))=false:=by decide)(a:(x==("__classdict__":Str))=false:=by decide):PE X (.Name x pos) (uj i):=GJ c d b a
end
def aD{A B:Prop}(h:B):if false=true then A else B:=by
 rw[qq zg];exact h
def aB{A B:Prop}(h:A):if true=true then A else B:=by
 rw[q0 rfl];exact h
def aG{c A B:Prop}[Decidable c](h1:c->A)(h2:¬c->B):if c then A else B:=by
 by_cases h:c
 ·rw[q0 h]
  exact h1 h
 ·rw[qq h]
  exact h2 h
def ag(H H':Hp):Prop:=∀b o,H b=some o->H' b=some o
def ag.refl(H:Hp):ag H H:=λ_ _ h=>h
def ag.trans(a:ag H H1)(b:ag H1 H2):ag H H2:=λc o h=>b c o (a c o h)
def ag.free(e:ag H H')(h:H' l=Option.none):H l=Option.none:=by
 cases q:H l with
 |none=>rfl
 |some o =>
  rw[e l o q]at h;cases h
section
variable {κ:Type}[DecidableEq κ]
theorem DM:∀{l:List κ} {k:κ},l.Nodup->¬k∈l->(l++[k]).Nodup
 |[],k,_,_=>by simp
 |a::r,k,h,hk=>by
  obtain⟨h1,h2⟩:=wf.mp h;show(a::(r++[k])).Nodup;refine wf.mpr {λm=>?_,DM h2 λm=>hk (qr.mpr (Or.inr m))};rcases zf.mp m with q|q
  ·exact h1 q
  ·exact hk (qr.mpr (Or.inl (zh.mp q).symm))
end
section
variable {prog:Program}{w:World}{A:Around}{R:Result->Shared->Prop}{s:Shared}
def NV{ce:Env}(a:∀e s',xe e s'->notedBy (model prog w) A ce (λe s'=>R (.error e) s') e s')(J:Nat->Shared->Prop)(d:∀n s,J n s->wpAny (model prog w) A (pyNext it) (λr i=>match r with
   |none=>R (.ok .next) i
   |some v=>wpAny (model prog w) A (letOwnedTupleGo tg it v) (λ_ l=>wpAny (model prog w) A (assign tg ce v) (λ_ j =>
     wpAny (model prog w) A (forIn ifs true λc r=>if r=true then do let ok ←isTrue c ce (eval c ce);pure (ForInStep.yield ok) else pure (ForInStep.yield r)) (λok g =>
      if ok=true then
       wpAny (model prog w) A (eval elt ce) (λx k=>wpAny (model prog w) A (call (.builtin "list.append") [b,x]) (λ_ o=>∃m,m<n/\J m o) xe k) xe g
      else ∃m,m<n/\J m g) xe j) xe l) xe i) xe s)(n:Nat)(h:J n s):codeAny (model prog w) A (.compLoop (.ListComp elt [{tg,iter,ifs,0}] sc pos) 0 it b ce) R s:=by
 refine codeAny_loop rfl J (λn s u=>?_) n h;show wpAny _ A ((compTurn (.ListComp elt [{tg,iter,ifs,0}] sc pos) 0 it b ce).onRaise (λx=>do noteFrame x ce;theTreesLotGoes x)) _ _ s;refine wpAny_noted ?_;rw[compTurn_list];refine qc (wpAny_standAt (qc (qG (d n s u) (λr i h1=>?_) λ_ _ f=>a _ _ f)))
 cases r with
 |none=>exact qA h1
 |some v =>
  refine qc (qG h1 (λ_ l h2=>?_) λ_ _ f=>a _ _ f);refine qc (qG h2 (λ_ j t=>?_) λ_ _ f=>a _ _ f);refine qc (qG t (λok g p=>?_) λ_ _ f=>a _ _ f)
  cases ok with
  |false=>exact qA {Y,p}
  |true =>
   refine qc (qc (qG p (λx k q=>?_) λ_ _ f=>a _ _ f));exact qc (qG q (λ_ o h6=>qA (qA {Y,h6})) λ_ _ f=>a _ _ f)
end
def bI(X:Cx)(N:List Str)(sc:Scope)(cl:List (Str×Addr))(s:Shared)(H:Hp)(a:List Addr):Cx where
 prog:=X.prog
 w:=X.w
 K:=X.K
 mg:=X.mg
 base:=X.base
 A:=X.A
 N:=N
 s₀:=s
 H₀:=H
 env:=compEnvC sc cl (↑s+1) X.env
 outer:=X.stack
 stack:=X.stack
 ex:=a
 fn:=λ_=>false
 calm:=X.calm
 pn:=[]
 xe:=λ_ _=>False
def bD(own:List Str)(fr:List (Str×Nat))(σ:St):St:=own.map (λ_=>none)++fr.map λp=>(σ[p.2]?).join
def ly(σ σ':St):Prop:=σ.length=σ'.length/\∀(i:Nat) v,σ[i]?=some (some v)->σ'[i]?=some (some v)
def iB(g:TG)(σ:St):Prop:=∀x H (Q:St->Hp->Prop),g x σ H Q->g x σ H λσ' H'=>ly σ σ'/\Q σ' H'
theorem ly.set(h:σ[i]?=some none)(v:V):ly σ (σ.set i (some v)):=by
 refine{by simp,λj u e=>?_}
 by_cases a:i=j
 ·subst a;rw[h]at e;cases e
 ·rw[yb a];exact e
def pE(h:σ[i]?=some none):iB (cX i) σ:=λx H Q q=>{ly.set h x,q}
def Js(hi:σ[i]?=some none)(l:σ[j]?=some none)(b:i≠j):iB (Fj n (tL (cX i) (tL (cX j) LB))) σ:=by
 intro x H Q q;obtain⟨a,xs,m,d,g,v,r,h,w,c,o,f,q⟩:=q;refine{a,xs,m,d,g,v,r,h,w,c,o,f,?_,q};have h1:=ly.set hi v;have h2:=ly.set (σ:=σ.set i (some v)) (i:=j) (by rw[yb b];exact l) w;exact{h1.1.trans h2.1,λk u e=>h2.2 k u (h1.2 k u e)}
def Mp(X:Cx)(ifs:List Expr)(t:TT):Prop :=
 ∀(pins:List (Addr×Obj)) (s:Shared) (σ:St) (H:Hp) (Q:Bool->Hp->Prop),Inv X pins σ H s->t σ H Q →
  wpAny (model X.prog X.w) X.A (forIn ifs true λc r=>if r=true then do let ok ←isTrue c X.env (eval c X.env);pure (ForInStep.yield ok) else pure (ForInStep.yield r)) (TP X pins σ Q) X.xe s
structure pI(X:Cx)(ifs:List Expr)(t:TT):Prop where run:Mp X ifs t
instance Sx{X:Cx}{ifs:List Expr}{t:TT}:CoeFun (pI X ifs t) λ_=>Mp X ifs t:={pI.run}
def dn:pI X [] (λ_ H Q=>Q true H):={λ_ _ _ H _ I h=>wpAny_tests_nil {H,I,h}}
def OV{t:TT}(h:PT X c t):pI X [c] t:={λpins s σ H Q I q=>wpAny_tests_one (h pins s σ H Q I q)}
def uH(own:List Str)(fr:List (Str×Nat))(g:TG)(tt:TT)(te:TE)(σ:St)(Q:VK)(J:It)(H1:Hp):Prop:=∃W:Nat->Nat->List V->Hp->Prop,(∃m,W 0 m [] H1)/\∀i m ys H,W i m ys H →
 (J.stop i H/\∀p,H p=none->Q (.ref p) (upd H p (.lst ys)))\/(J.go i H/\ys.length<sizeLine/\∀x H',J.Dc i H x H'->g x (bD own fr σ) H' λc H2=>tt c H2 λb d =>
  if b=true then te c d λy e=>∃a,a<m/\W (i+1) a (ys++[y]) e else ∃a,a<m/\W (i+1) a ys d)
def Bi(own:List Str)(fr:List (Str×Nat))(wi:TI)(g:TG)(tt:TT)(te:TE):TE:=λσ H Q=>wi σ H λJ H1=>uH own fr g tt te σ Q J H1
abbrev bB(a:List Value):Obj:={ cls:=.type "list",data:=.seq a.toArray a.length }
def Qv(a:List Value)(u:Value):({ cls:=.type "list",data:=.seq (a.toArray.push u) (a.length+1) }:Obj)=bB (a++[u]):=by
 unfold bB;rw[qu,zy,List.push_toArray]
structure iO(X:Cx)(sc:Scope)(cl:List (Str×Addr))(fr:List (Str×Nat)):Prop where
 pf:closureFor sc X.env=pure cl
 sub:∀x c,cl.lookup x=some c->X.env.cells.lookup x=some c
 has:∀x,((relabel sc X.env).names.lookup x=some .cell\/(relabel sc X.env).names.lookup x=some .free)->∃c,cl.lookup x=some c
 PD:∀p∈fr,X.N[p.2]?=some p.1/\X.env.kindOf p.1≠some .local/\NG X.env.scope p.1/\((relabel sc X.env).names.lookup p.1=some .cell\/(relabel sc X.env).names.lookup p.1=some .free)
structure eR(sc:Scope):Prop where
 kind:sc.kind=.function
 cell:∀y∈sc.names,y.2≠.cell
 NH:∀y∈sc.names,y.2=.local->sc.names.lookup y.1=some .local
section
variable {X:Cx}
def Inv.nW{pins:List (Addr×Obj)}{σ:St}{H:Hp}{s:Shared}(I:Inv X pins σ H s){b:Addr}(h1:b≠X.env.locals)(h2:b∉X.fs):b∉eU X.stack:=λz=>by
 rcases qr.mp (I.l3 b z) with e|e
 ·exact h1 e
 ·exact h2 e
def OO{own:List Str}{fr:List (Str×Nat)}{σ:St}{N:List Str}(c:N=own++fr.map (·.1)){i:Nat}{x:Str}{v:V}(h1:N[i]?=some x)(h2:(bD own fr σ)[i]?=some (some v)) :
  ∃p∈fr,p.1=x/\σ[p.2]?=some (some v):=by
 unfold bD at h2;subst c
 by_cases hi:i<own.length
 ·rw[List.getElem?_append_left (by simpa using hi),List.getElem?_map]at h2
  rw[qm hi]at h2;cases h2
 ·rw[List.getElem?_append_right (by simpa using hi),List.length_map,List.getElem?_map]at h2
  rw[List.getElem?_append_right (by simpa using hi),List.getElem?_map]at h1
  cases e:fr[i - own.length]? with
  |none=>rw[e]at h1;cases h1
  |some p =>
   rw[e]at h1 h2;refine{p,qx e,qD h1,?_};have a:(σ[p.2]?).join=some v:=qD h2
   cases b:σ[p.2]? with
   |none=>rw[b]at a;cases a
   |some o=>rw[b]at a;rw[show o=some v from a]
def Inv.block{pins:List (Addr×Obj)}{σ:St}{H:Hp}{s:Shared}{own:List Str}{fr:List (Str×Nat)}{sc:Scope}{cl:List (Str×Addr)}{q:List Addr}{h1:Heap}{m:Str->Option Value}{tk:Nat}(I:Inv X pins σ H s)(h:∀b∈q,gW X pins H b)(F:∀b∈q,b<↑s)(S:eR sc)(C:iO X sc cl fr)(d:∀b o,s.heap.get? b=some o->h1.get? b=some o)(M:h1.Ns (↑s+1) m)(P:h1.get? ↑s=some (bB [])) :
  Inv (bI X (own++fr.map (·.1)) sc cl s H q) [(↑s,bB [])] (bD own fr σ) H { s with heap:=h1,toks:=tk }:=by
 have j:∀x c,cl.lookup x=some c->c<↑s:=λx c e=>by
  obtain⟨v,z⟩:=I.cell x c (C.sub x c e);exact z.lt
 have a:↑s≤↑s+1:=jy _
 refine{{I.ok.mod,S.kind,I.ok.glob,I.ok.blt,a,λx y c B E=>I.ok.inj x y c (C.sub x c B) (C.sub y c E),λx R=>C.has x R,λ_ _ z=>(by cases z),I.ok.hd,I.ok.frames,.inl rfl,λb f=>{?_,λx c e z=>?_},
  I.bs,qg I.ok.wU I.sz,λb o e f=>?_,λb f z=>?_,I.stack,I.gQ},Y,I.bare,Un.kept d,{m,M,λi x v B E U=>?_},λx c e=>?_,I.bP.fresh a,λx c e=>I.eY x c (C.sub x c e),λp t=>?_,I.bP.kept d,?_}
 ·exact qp (vi (F b f))
 ·exact(h b f).2.2.2.2.1 x c (C.sub x c e) z
 ·rcases(h b f).2.2.2.1 with z|z
  ·exact I.ok.oM b o e z
  ·exact absurd (zo (qC e) (qg I.ok.wU z)) (wn _)
 ·exact I.nW (h b f).2.1 (h b f).2.2.1 z
 ·obtain⟨p,t,rfl,K⟩:=OO rfl B E
  obtain⟨c1,c2,L,G⟩:=C.PD p t;obtain⟨T,O,hl⟩:=I.loc;obtain⟨u,r,l⟩:=hl p.2 p.1 v c1 K L;refine{u,r,.inr {G,?_}};rcases l with⟨k,_⟩|⟨_,c,Q,A,D,n⟩
  ·exact absurd k c2
  ·obtain⟨J,g⟩:=C.has p.1 G
   have:=C.sub p.1 J g;rw[Q]at this;cases this;exact{c,g,A,d _ _ D,n}
 ·obtain⟨v,o,A,N⟩:=I.cell x c (C.sub x c e)
  exact{v,o,d _ _ A,N}
 ·have w:p=(↑s,bB []):=by simpa[bI] using t
  subst w;refine{P,I.bP.fresh (qi _),?_,?_,λv z=>by cases z}
  ·exact qp (vz _)
  ·exact I.nW (wb I.lt) (I.Lj (qi _))
 ·show(bD own fr σ).length=(own++fr.map (·.1)).length
  unfold bD;rw[qu,qu,qf,qf,qf]
def eV.iH(x:eV P w H h)(d:H a=none)(new:ba P w (upd H a o) h a o):eV P w (upd H a o) h:=λb u e=>by
 by_cases f:b=a
 ·subst f;rw[aN]at e;cases e;exact new
 ·rw[aP f]at e
  exact(x b u e).iR (λc v _ q=>q) (λc q=>by rw[aP (dg q d)];exact q) λc xs q=>by rw[aP (dg q d)];exact q
def Inv.i3{pins:List (Addr×Obj)}{σ:St}{H k:Hp}{s f:Shared}{N:List Str}{y:St}{sc:Scope}{cl:List (Str×Addr)}{t:List Addr}{h':Heap}{ys:List V}{i:List Value}(I:Inv X pins σ H s)(x:∀b∈t,gW X pins H b)(l:Inv (bI X N sc cl s H t) [(↑s,bB i)] y k f)(E:aF ys i)(D:ys.length≤sizeLine)(hs:Heap.SameBut (↑s+1) f.heap h'):Inv X pins σ (upd k ↑s (.lst ys)) { f with heap:=h' }:=by
 obtain⟨A,j,I9,_,_⟩:=l.pin (↑s,bB i) (List.mem_append_right _ (by simp));have A:f.heap.get? ↑s=some (bB i):=A;have j:k ↑s=none:=j;have d:Un (eU X.stack) t H k s.heap f.heap:=l.base;have B:k (↑s+1)=none:=l.free;have a:∀b o,s.heap.get? b=some o->b≠↑s+1:=λb o e=>qp (vi (qC e));have p:∀b o,s.heap.get? b=some o->b≠↑s:=λb o e=>qp (qC e);have g:∀b o,b≠↑s+1->f.heap.get? b=some o->h'.get? b=some o:=λb o h e=>hs.extBut b o h e
 refine I.lx (s':={ f with heap:=h' }) (ch:=t) l.os {λb o e n h1 h2=>g b o (a b o e) (d.keep b o e n h1 h2),λb o e n h1 h2=>?_,λb o e n h2=>?_,λb o e h2=>?_,
  λb xs e=>?_,λb o u e=>?_,λb ps e=>?_,λb o xs e n=>g b o (a b o e) (d.eP b o xs e n)} ?_ l.bare λb h=>{(x b h).2.2.2.1,(x b h).2.1,(x b h).2.2.2.2.1,(x b h).2.2.2.2.2}
 ·obtain⟨C,q⟩:=d.slot b o e n h1 h2
  exact{C,g b _ (a b o e) q}
 ·rw[aP (p b o e)];exact d.free b o e n h2
 ·obtain⟨o',q⟩:=d.there b o e h2
  exact{o',g b _ (a b o e) q}
 ·have q:=d.dZ b xs e
  rw[aP (dg q j)];exact q
 ·have q:=d.fe b o u e
  rw[aP (dg q j)];exact q
 ·obtain⟨r,q⟩:=d.ff b ps e
  exact{r,by rw[aP (dg q j)];exact q}
 ·have F:eV X.prog X.w k h':=λb u e=>(l.bP b u e).iR (λc v m q=>g c v (λz=>by
   subst z;rcases m with m|m
   ·subst m;rw[B]at e;cases e
   ·rw[B]at m;cases m) q) (λ_ q=>q) λ_ _ q=>q
  refine F.iH j {D,i,i.length,E,g _ _ (qp (vz _)) A}
abbrev aU(X:Cx)(xe:Value->Shared->Prop)(N:List Str)(sc:Scope)(cl:List (Str×Addr))(s:Shared)(H:Hp)(a:List Addr):Cx:=(bI X N sc cl s H a).gO xe
def CA{elt tg iter:Expr}{ifs:List Expr}{sc:Scope}{pos:Pos}{own:List Str}{fr:List (Str×Nat)}{cl:List (Str×Addr)}{g:TG}{tt:TT}{te:TE}{RR:Value->Addr->Result->Shared->Prop}{E xe:Value->Shared->Prop}{pins:List (Addr×Obj)}{σ:St}{H2:Hp}{a:Shared}{Q:VK}{it:Addr}{f:List Addr}{tn:Nat->Heap->Prop}{J:It}(hc:X.calm=true)(S:eR sc)(C:iO X sc cl fr)(hg:∀s H f,PG (aU X xe (own++fr.map (·.1)) sc cl s H f) tg g)(hfr:∀σ,iB g (bD own fr σ))(ht:∀s H f,pI (aU X xe (own++fr.map (·.1)) sc cl s H f) ifs tt)(he:PE (aU X xe (own++fr.map (·.1)) sc cl a H2 f) elt te)(I2:Inv X pins σ H2 a)(T:Turn X.prog X.w X.K tg J f it tn)(P:tn 0 a.heap)(f2:∀b∈f,gW X pins H2 b)(hW:uH own fr g tt te σ Q J H2)(hRR:∀s5 M ys k,Inv (aU X xe (own++fr.map (·.1)) sc cl a H2 f) [(↑a,bB k)] (bD own fr σ) M s5->aF ys k->ys.length≤sizeLine->(∀p,M p=none->Q (.ref p) (upd M p (.lst ys))) →
   RR (.ref ↑a) (↑a+1) (.ok .next) s5)(hxe:∀e s',xe e s'->notedBy (model X.prog X.w) X.A (compEnvC sc cl (↑a+1) X.env) (λe s'=>RR (.ref ↑a) (↑a+1) (.error e) s') e s') :
  wpAny (model X.prog X.w) X.A (newList []) (λacc s3=>wpAny (model X.prog X.w) X.A (newFunctionEnv sc X.env.globals cl [] X.env.qual none .none (some X.env)) (λce s4 =>
   codeAny (model X.prog X.w) X.A (.compStart (.ListComp elt [{tg,iter,ifs,0}] sc pos) 0 (.ref it) acc { ce with scope:=relabel sc X.env }) (RR acc ce.locals) s4) E s3) E a:=by
 obtain⟨W,⟨m0,w0⟩,Z⟩:=hW
 have F:∀b∈f,b<↑a:=λb j=>by
  obtain⟨o,e,_⟩:=T.obj _ _ P b j;exact qC e
 refine wpAny_newObj_type (wpAny_newFunctionEnv S.cell (by intro y hy;simp at hy) (λB h d=>?_) S.kind);dsimp only at h d ⊢;generalize R:a.heap.push { cls:=.type "list",dict:=none,data:=.seq ([]:List Value).toArray }=G at h d ⊢
 have hC:G.objs.size=↑a+1:=by rw[←R,Heap.size_push]
 rw[hC]at h d ⊢
 have N:∀b o,a.heap.get? b=some o->B.get? b=some o:=λb o e=>by
  exact d.extBut b o (qp (vi (qC e))) (qE _ (R▸qE _ e))
 have hacc:B.get? ↑a=some (bB []):=d.extBut _ _ (qp (vz _)) (qE _ (R▸qF _ rfl));have I3:=Inv.gO (I2.block (own:=own) (tk:=a.toks+([]:List (Str×Value)).length) f2 F S C N h hacc) xe
 have l:∀{H':Hp} {k:List Value},(∀b∈f,H' b=none)->∀b∈f,gW (aU X xe (own++fr.map (·.1)) sc cl a H2 f) [(↑a,bB k)] H' b:=λ{H' k} hn b j=>by
  obtain⟨_,g1,g2,g3,g4,g5⟩:=f2 b j;have hbl:=F b j;refine{hn b j,?_,I2.nW g1 g2,.inl j,λx c e=>g4 x c (C.sub x c e),λp O=>?_}
  ·exact qp (vi hbl)
  ·have m:p=(↑a,bB k):=by simpa[bI,Cx.gO] using O
   subst m;exact wb hbl
 have L:∀s3:Shared,s3={ a with heap:=B,toks:=a.toks+([]:List (Str×Value)).length } →
   codeAny (model X.prog X.w) X.A (.compLoop (.ListComp elt [{tg,iter,ifs,0}] sc pos) 0 (.ref it) (.ref ↑a) (compEnvC sc cl (↑a+1) X.env))
    (RR (.ref ↑a) (↑a+1)) s3:=by
  rintro s3 rfl
  refine NV hxe (λn s'=>∃i ys k H',aF ys k/\Inv (aU X xe (own++fr.map (·.1)) sc cl a H2 f) [(↑a,bB k)] (bD own fr σ) H' s'/\tn i s'.heap/\(∀b∈f,H' b=none)/\ys.length≤sizeLine/\W i n ys H') ?_ m0
   {0,[],[],H2,.nil,I3,T.keep _ _ _ P λb _ o e=>N b o e,λb j=>(f2 b j).1,wq _,w0}
  rintro n s4 ⟨i,ys,k,M,hv,I4,st4,fr4,hz,w4⟩;rcases Z i n ys M w4 with⟨stop,fin⟩|⟨go,hlt,step⟩
  ·refine bq (T.done (aU X xe (own++fr.map (·.1)) sc cl a H2 f) rfl rfl rfl hc i _ s4 _ M _ I4 (l fr4) st4 stop) λr s5 ⟨hr,I5⟩=>?_
   subst hr;exact hRR s5 M ys k I5 hv hz fin
  ·refine bq (T.item (aU X xe (own++fr.map (·.1)) sc cl a H2 f) rfl rfl rfl hc i _ s4 _ M _ I4 (l fr4) st4 go) λr s5 ⟨u,hr,h5⟩=>?_
   subst hr;refine bq h5 λ_ U ⟨x,H6,I6,r6,y6,D,fr6⟩=>?_;have I6':=I6.pinned (l fr6) (T.obj _ _ D);refine bq (hg a H2 f _ U _ H6 x u _ I6' r6 (hfr σ x H6 _ (step x H6 y6))) λ_ s7 ⟨t,H7,I7,k7,q7⟩=>?_;refine bq (ht a H2 f _ s7 t H7 _ I7 q7) λok s8 ⟨H8,I8,q8⟩=>?_
   have I:∀{pins':List (Addr×Obj)} {σ':St} {H':Hp} {s':Shared},Inv (aU X xe (own++fr.map (·.1)) sc cl a H2 f) ([(↑a,bB k)]++fL f U.heap) σ' H' s'->∀b∈f,(∀o,U.heap.get? b=some o->s'.heap.get? b=some o)/\H' b=none:=λ{pins' σ' H' s'} I' b j=>by
    obtain⟨o,e,_⟩:=T.obj _ _ D b j;have z:=I'.pin (b,o) (we _ (we _ (Bj j e)));exact{λo' e'=>by rw[e]at e';cases e';exact z.1,z.2.1}
   cases ok with
   |false =>
    rw[qq zg]at q8;obtain⟨m',hm,w8⟩:=q8;rw[qq zg];exact{m',hm,i+1,ys,k,H8,hv,(I8.gS).weak k7.1 k7.2,T.keep _ _ _ D λb j o e=>(I (pins':=[]) I8 b j).1 o e,λb j=>(I (pins':=[]) I8 b j).2,hz,w8}
   |true =>
    rw[q0 rfl]at q8;rw[q0 rfl];refine bq (he _ s8 t H8 _ I8 q8) λy V ⟨v,H9,Y,r9,m',hm,w9⟩=>?_;have pD:=Y.pin (↑a,bB k) (List.mem_append_right _ (List.mem_append_left _ (by simp)));have zD:V.heap.get? ↑a=some (bB k):=pD.1;have nD:H9 ↑a=none:=pD.2.1;refine append_at (hsz:=by show k.toArray.size≤sizeLine;rw[zx,←hv.length];exact hz) zD λh5 hs5 hD5=>?_;have Ia:Inv (aU X xe (own++fr.map (·.1)) sc cl a H2 f) (fL f U.heap) t H9 V:=Y.iZ λp O=>Y.pin p (we _ (we _ O));have I9:↑a≠↑a+1:=qp (vz _)
    have Ib:Inv (aU X xe (own++fr.map (·.1)) sc cl a H2 f) (fL f U.heap) t H9 { V with heap:=h5,toks:=V.toks }:=Ia.turned (it:=↑a) (λb o j e=>hs5.extBut b o j e) nD I9 (.inr (qi _)) (λx c e z=>by
      obtain⟨v',q⟩:=I2.cell x c (C.sub x c e);have q':=q.lt;rw[z]at q'
      exact wn _ q') λp O z=>by
      have m:p∈fL f U.heap:=by simpa[bI,Cx.gO] using O
      have q':=F p.1 (HY m).1;rw[z]at q';exact wn _ q'
    have Ic:Inv (aU X xe (own++fr.map (·.1)) sc cl a H2 f) [(↑a,bB (k++[y]))] t H9 { V with heap:=h5,toks:=V.toks }:=Ib.iZ λp O=>by
     have m:p=(↑a,bB (k++[y])):=by simpa using O
     subst m;exact{hD5.trans (congrArg some (Qv k y)),nD,I9,pD.2.2.2.1,λv z=>by cases z}
    refine{m',hm,i+1,ys++[v],k++[y],H9,hv.append (.cons r9 .nil),Ic.weak k7.1 k7.2,T.keep _ _ _ D λb j o e=>?_,λb j=>(I (pins':=[]) Y b j).2,?_,w9}
    ·exact hs5.extBut b o (qp (F b j)) ((I (pins':=[]) Y b j).1 o e)
    ·rw[qu];exact hlt
 exact codeAny_compStart_list (L _ rfl) (T.self _ 0 _ _ _ (T.keep _ _ _ P λb _ o e=>N b o e) (L _ rfl))
def Jl{elt tg iter:Expr}{ifs:List Expr}{sc:Scope}{pos:Pos}{own:List Str}{fr:List (Str×Nat)}{cl:List (Str×Addr)}{g:TG}{tt:TT}{te:TE}{RR:Value->Addr->Result->Shared->Prop}{E:Value->Shared->Prop}{pins:List (Addr×Obj)}{σ:St}{H2:Hp}{c:Shared}{Q:VK}{it:Addr}{a:List Addr}{m:Nat->Heap->Prop}{J:It}(v:X.calm=true)(S:eR sc)(C:iO X sc cl fr)(u:∀s H a,PG (bI X (own++fr.map (·.1)) sc cl s H a) tg g)(i:∀σ,iB g (bD own fr σ))(o:∀s H a,pI (bI X (own++fr.map (·.1)) sc cl s H a) ifs tt)(q:∀s H a,PE (bI X (own++fr.map (·.1)) sc cl s H a) elt te)(x:Inv X pins σ H2 c)(T:Turn X.prog X.w X.K tg J a it m)(j:m 0 c.heap)(f2:∀b∈a,gW X pins H2 b)(t:uH own fr g tt te σ Q J H2)(e:∀k h ys l,Inv (bI X (own++fr.map (·.1)) sc cl c H2 a) [(↑c,bB l)] (bD own fr σ) h k->aF ys l->ys.length≤sizeLine->(∀p,h p=none->Q (.ref p) (upd h p (.lst ys))) →
   RR (.ref ↑c) (↑c+1) (.ok .next) k) :
  wpAny (model X.prog X.w) X.A (newList []) (λd r=>wpAny (model X.prog X.w) X.A (newFunctionEnv sc X.env.globals cl [] X.env.qual none .none (some X.env)) (λce n =>
   codeAny (model X.prog X.w) X.A (.compStart (.ListComp elt [{tg,iter,ifs,0}] sc pos) 0 (.ref it) d { ce with scope:=relabel sc X.env }) (RR d ce.locals) n) E r) E c :=
 CA (xe:=λ_ _=>False) v S C u i o (q c H2 a) x T j f2 t e λ_ _ f=>f.elim
def Ds{fr:List (Str×Nat)}{cl:List (Str×Addr)}(D:X.calm=true)(hi:PI X tg iter wi)(S:eR sc)(C:iO X sc cl fr)(y:∀s H a,PG (bI X (own++fr.map (·.1)) sc cl s H a) tg g)(f:∀σ,iB g (bD own fr σ))(q:∀s H a,pI (bI X (own++fr.map (·.1)) sc cl s H a) ifs tt)(r:∀s H a,PE (bI X (own++fr.map (·.1)) sc cl s H a) elt te)(hs:∀x,foldedSetIterable iter X.env x=pure x:=by intro _;rfl) :
  PE X (.ListComp elt [{tg,iter,ifs,0}] sc pos) (Bi own fr wi g tt te):=by
 refine{?_};intro pins s σ H Q I h;rw[eval_ListComp];refine wpAny_comprehension_free (use:=none) rfl hs C.pf S.kind S.NH (bq (hi pins s σ H _ I h) λK G h1=>bq h1 λB b h2=>?_);obtain⟨it,a,F,J,H2,e,n,T,k,f2,v⟩:=h2;subst e;refine Jl (RR:=λi A=>compPost (model X.prog X.w) X.A X.xe none (EP X pins σ Q) i A) D S C y f q r n T k f2 v λE m ys t l p o d=>?_;obtain⟨z,c,_⟩:=id l.loc;have u:m ↑b=none:=(l.pin (↑b,bB t) (List.mem_append_right _ (by simp))).2.1;exact{z,c,λh' j=>{.ref ↑b,upd m ↑b (.lst ys),n.i3 f2 l p o j,Y,d _ u}}
def DX{fr:List (Str×Nat)}{cl:List (Str×Addr)}(hN:X.N.Nodup)(hy:X.N[i]?=some y)(hx:Loc X.env.scope y)(hc:X.calm=true)(hi:PI X tg iter wi)(S:eR sc)(C:iO X sc cl fr)(hg:∀s H l,PG (bI X (own++fr.map (·.1)) sc cl s H l) tg g)(M:∀σ,iB g (bD own fr σ))(ht:∀s H l,pI (bI X (own++fr.map (·.1)) sc cl s H l) ifs tt)(he:∀s H l,PE (bI X (own++fr.map (·.1)) sc cl s H l) elt te)(hs:∀x,foldedSetIterable iter X.env x=pure x:=by intro _;rfl)(K:swapsWith (.ListComp elt [{tg,iter,ifs,0}] sc pos) (some (.Name y m)) k.line X.env=pure true:=by rfl)(hf:X.fn y=true\/X.env.scope.names.lookup y=some .local:=by first|exact .inl rfl|exact .inr rfl|assumption) :
  PS X (.Assign [.Name y m] (.ListComp elt [{tg,iter,ifs,0}] sc pos) k) (pa (Bi own fr wi g tt te) (cX i)):=by
 refine{?_};intro pins s σ H D I h;rw[exec_Assign_Name_used _ _ _ _ K];refine qc (wpAny_standAt (qc ?_));show wpAny _ X.A (do let _ ←comprehension (.ListComp elt [⟨tg,iter,ifs,0⟩] sc pos) sc X.env _ (newList []) false (eval iter X.env) (some (assign (.Name y m) X.env))) _ _ s
 refine qc (bq (wpAny_comprehension_free (use:=some (assign (.Name y m) X.env)) (Q:=λ_ s'=>SP X pins D .next s') rfl hs C.pf S.kind S.NH
  (bq (hi pins s σ H _ I h) λxv s1 h1=>bq h1 λitv f h2=>?_)) λ_ s' hq=>qA (qA hq))
 obtain⟨it,l,tn,J,H2,e,n,T,P,f2,hW⟩:=h2;subst e;refine Jl (RR:=λL A=>compPost (model X.prog X.w) X.A X.xe (some (assign (.Name y m) X.env)) (λ_ s'=>SP X pins D .next s') L A) hc S C hg M ht he n T P f2 hW λU B ys us t Z W F=>?_;obtain⟨m5,u,_⟩:=id t.loc;have nD:B ↑f=none:=(t.pin (↑f,bB us) (List.mem_append_right _ (by simp))).2.1;have nC:B (↑f+1)=none:=t.free;have I6:Inv X pins σ (upd B ↑f (.lst ys)) U:=n.i3 f2 t Z W (Heap.SameBut.refl _ _);show wpAny _ X.A (assign (.Name y m) X.env (.ref ↑f)) _ _ U;refine wpAny_assign_Name (Am (v:=.ref ↑f) I6 hN hy hx rfl (λs7 V ⟨a,G,R⟩=>?_) hf);have j:↑f<↑f+1:=vz _;have r:↑f+1≠X.env.locals:=wb (vh n.lt j)
 have d:∀x c,X.env.cells.lookup x=some c->c≠↑f+1:=λx c e=>by
  obtain⟨v',q⟩:=n.cell x c e;exact qp (vh q.lt j)
 have E:↑f+1≠a:=by
  rcases R with rfl|R
  ·exact r
  ·exact Ne.symm (d _ _ R)
 refine⟨m5,u.sameBut G E,λh' O=>⟨_,_,?_,F _ nD⟩⟩
 exact V.turned (it:=↑f+1) (t':=s7.toks) (λb o hb e=>O.extBut b o hb e) (by rw[aP (wb j)];exact nC) r (.inr (qg n.sz (qj j))) d λp Y z=>by
  have q:=qC (n.pin p Y).1;rw[z]at q;exact absurd (vh j q) (wn _)
end
def FJ(z:Str):It:={λi _=>i<z.cps.size,λi H x H'=>H'=H/\∃c,z.cps[i]?=some c/\x=.str {#[c]},λi _=>z.cps.size≤i}
def Lv{h:Heap}{it:Addr}{ty:String}{z:Str}{t:Tok}{i:Nat}(st:h.IsStrIter it ty z t i):∀b∈[it],∃o,h.get? b=some o/\∀v,o.data≠.cell v:=λb a=>by
 have e:b=it:=by simpa using a
 subst e;obtain⟨o,e,c,d⟩:=st;exact{o,e,λv z=>by rw[d]at z;cases z}
def Oq{P:Program}{w:World}{K:PySem.W.Frag}{tg:Expr}(z:Str)(t:Tok)(it:Addr):Turn P w K tg (FJ z) [it] it (λi h=>h.IsStrIter it "str_ascii_iterator" z t i) where
 mem:=by simp
 obj:=λi h st=>Lv st
 keep:=λi h h' st k=>let⟨o,A,r⟩:=st;{o,k it (by simp) o A,r}
 item:=by
  intro X q hw u v i pins s σ H E I j st a;subst q hw u;obtain⟨n,f1,f2,m,p,l⟩:=j it (by simp);have a:i<z.cps.size:=a;refine wpAny_pyNext_ascii_item st (c:=z.cps[i]) (by simp[a]) λh' g B=>?_;have x:Inv X pins σ H { s with heap:=h',toks:=s.toks+1 }:=I.turned (λb o f e=>(B.2 b f).trans e) n f1 m p l;obtain⟨o,e,c,d⟩:=id g;exact{_,Y,mQ (s:={ s with heap:=h',toks:=s.toks+1 }) e c d ⋯ {.str {#[z.cps[i]]},H,x,{_,Y},{Y,_,by simp[a],Y},g,λb f=>(j b f).1}}
 done:=by
  intro X q hw u v i pins s σ H E I j st a;subst q hw u;obtain⟨n,f1,f2,m,p,l⟩:=j it (by simp);have a:z.cps.size≤i:=a;exact wpAny_pyNext_ascii_end (I.ok.hd v) st (by simp[a]) λh' y=>{Y,I.turned (t':=s.toks) (λb o f e=>y b o f e) n f1 m p l}
 self:=λ_ _ _ _ _ st h=>wpAny_pyIter_striter_ascii st h
def Rb{P:Program}{w:World}{K:PySem.W.Frag}{tg:Expr}(z:Str)(t:Tok)(it:Addr):Turn P w K tg (FJ z) [it] it (λi h=>h.IsStrIter it "str_iterator" z t i) where
 mem:=by simp
 obj:=λi h st=>Lv st
 keep:=λi h h' st k=>let⟨o,A,r⟩:=st;{o,k it (by simp) o A,r}
 item:=by
  intro X q hw u v i pins s σ H E I j st a;subst q hw u;obtain⟨n,f1,f2,m,p,l⟩:=j it (by simp);have a:i<z.cps.size:=a;refine wpAny_pyNext_wide_item st (c:=z.cps[i]) (by simp[a]) λh' g B=>?_;have x:Inv X pins σ H { s with heap:=h',toks:=s.toks+1 }:=I.turned (λb o f e=>(B.2 b f).trans e) n f1 m p l;obtain⟨o,e,c,d⟩:=id g;exact{_,Y,mQ (s:={ s with heap:=h',toks:=s.toks+1 }) e c d ⋯ {.str {#[z.cps[i]]},H,x,{_,Y},{Y,_,by simp[a],Y},g,λb f=>(j b f).1}}
 done:=by
  intro X q hw u v i pins s σ H E I j st a;subst q hw u;obtain⟨n,f1,f2,m,p,l⟩:=j it (by simp);have a:z.cps.size≤i:=a;exact wpAny_pyNext_wide_end (I.ok.hd v) st (by simp[a]) λh' y=>{Y,I.turned (t':=s.toks) (λb o f e=>y b o f e) n f1 m p l}
 self:=λ_ _ _ _ _ st h=>wpAny_pyIter_striter_wide st h
section
variable {X:Cx}{tg:Expr}
inductive J4(R:It->Hp->Prop)(x:V)(H1:Hp):Prop
 |mk(z:_)(_:x=.str z)(_:R (FJ z) H1)
def Pp(tl:TE):TI:=λσ H R=>tl σ H λx H1=>J4 R x H1
def Gj{tl:TE}(hl:PE X l tl):PI X tg l (Pp tl):=by
 refine{?_};intro pins s σ H R I h;refine bq (hl pins s σ H _ I h) λv a ⟨x,H1,d,g,j⟩=>?_;obtain⟨z,e,q⟩:=j;subst e;obtain⟨t,rfl⟩:=g
 have c:∀b∈[↑a],gW X pins H1 b:=λb i=>by
  have e:b=↑a:=by simpa using i
  subst e;exact d.o5 (qi _) (d.bP.fresh (qi _))
 cases f:z.cps.all (·<128)
 ·exact wpAny_pyIter_wide f {↑a,[↑a],_,_,H1,Y,d.kept (t':=a.toks) λb o e=>qE _ e,Rb z t _,{_,qF _ rfl,Y,Y},c,q}
 ·exact wpAny_pyIter_ascii f {↑a,[↑a],_,_,H1,Y,d.kept (t':=a.toks) λb o e=>qE _ e,Oq z t _,{_,qF _ rfl,Y,Y},c,q}
end
def M_{a:Type}(f:a->V)(l:List a):(l.filterMap λc=>some (f c))=l.map f:=by
 induction l with
 |nil=>rfl
 |cons c l b=>rw[vo,b];rfl
def Jo{fr:List (Str×Nat)}(A:z.cps.size≤sizeLine)(F:Nat->Option V)(f:Hp->Prop)(w:f H)(hs:∀c H' (l:V->Hp->Prop) (o:Hp->Prop),c∈z.cps.toList->f H'->(∀y k,F c=some y->f k->l y k)->(F c=none->∀d,f d->o d) →
   g (.str {#[c]}) (bD own fr σ) H' λh H2=>tt h H2 λb d=>if b=true then te h d l else o d)(v:∀H' p,f H'->H' p=none->Q (.ref p) (upd H' p (.lst (z.cps.toList.filterMap F)))) :
  uH own fr g tt te σ Q (FJ z) H:=by
 refine{λi m ys H=>m=z.cps.size - i/\i≤z.cps.size/\ys=(z.cps.toList.take i).filterMap F/\f H,{z.cps.size,by simp,Nat.zero_le _,by simp,w},?_};rintro i m ys H ⟨rfl,hi,rfl,p⟩
 by_cases a:i<z.cps.size
 ·have n:((z.cps.toList.take i).filterMap F).length≤i:=qg (gq _ _) (by rw[wx];exact ji _ _)
  refine .inr {a,(),λx H' y=>?_};obtain⟨rfl,c,r,rfl⟩:=y
  have j:z.cps.toList[i]?=some c:=by rw[wu];exact r
  have step:(z.cps.toList.take (i+1)).filterMap F=(z.cps.toList.take i).filterMap F++(F c).toList:=by
   rw[vd,j,gr]
   congr 1
  refine hs c H' _ _ (qx j) p (λy k e s=>{z.cps.size - (i+1),(),Y,a,?_,s}) λe d u=>{z.cps.size - (i+1),(),Y,a,?_,u}
  ·rw[step,e];rfl
  ·rw[step,e];simp
 ·have e:i=z.cps.size:=()
  subst e;refine .inl {qi _,λq t=>?_};have:=v H q p t;rw[List.take_of_length_le (by simp)];exact this
def Kk{fr:List (Str×Nat)}(w:xs.length≤sizeLine)(F:V->Option V)(d:Hp->Prop)(v:d H)(hl:∀H,d H->au H a xs)(hs:∀x H' (l:V->Hp->Prop) (o:Hp->Prop),x∈xs->d H'->(∀y j,F x=some y->d j->l y j)->(F x=none->∀f,d f->o f) →
   g x (bD own fr σ) H' λh H2=>tt h H2 λb f=>if b=true then te h f l else o f)(u:∀H' p,d H'->H' p=none->Q (.ref p) (upd H' p (.lst (xs.filterMap F)))) :
  uH own fr g tt te σ Q (Dv a) H:=by
 refine{λi m ys H=>m=xs.length - i/\i≤xs.length/\ys=(xs.take i).filterMap F/\d H,{xs.length,by simp,Nat.zero_le _,by simp,v},?_};rintro i m ys H ⟨rfl,hi,rfl,p⟩
 by_cases c:i<xs.length
 ·have n:((xs.take i).filterMap F).length≤i:=qg (gq _ _) (by rw[wx];exact ji _ _)
  refine .inr {{xs,xs[i],hl H p,by simp[c]},(),λx H' y=>?_};obtain⟨rfl,y⟩:=y;have k:=y xs (hl _ p)
  have step:(xs.take (i+1)).filterMap F=(xs.take i).filterMap F++(F x).toList:=by
   rw[vd,k,gr]
   congr 1
  refine hs x H' _ _ (qx k) p (λy j e r=>{xs.length - (i+1),(),Y,c,?_,r}) λe f t=>{xs.length - (i+1),(),Y,c,?_,t}
  ·rw[step,e];rfl
  ·rw[step,e];simp
 ·have e:i=xs.length:=()
  subst e;refine .inl {{xs,hl H p,qi _},λq s=>?_};have:=u H q p s;rw[va];exact this
section
variable {X:Cx}
def Ov(bs:List Bool):((List.range bs.length).all λi=>bs.getD i false)=bs.all id:=by
 rw[yg,zk,zk];constructor
 ·intro h b a
  obtain⟨i,hi,e⟩:=vj.mp a;have q:=h i (w5.mpr hi);rw[ww,qm hi]at q;rw[←e];exact q
 ·intro h i hi
  have hi:=w5.mp hi;rw[ww,qm hi];exact h _ (vk hi)
inductive pj(xs:List V)(H:Hp)(Q:VK):Prop
 |mk(a bs:_)(_:xs=[.ref a])(_:au H a (List.map V.bl bs))(_:Q (.bl (bs.all id)) H)
def pU(n:X.calm=true):cu X (.builtin "all") (pj):=by
 intro pins s σ H xs D Q I r h;obtain⟨a,bs,rfl,w,q⟩:=h;obtain⟨u,rfl,f⟩:=vals1 r;cases f;obtain⟨c,l,p,C⟩:=I.list w
 have d:c.length=bs.length:=by rw[←l.length,qf]
 have j:a<↑s:=by obtain⟨_,e,_⟩:=p.isList;exact qC e
 refine call_all_walk (wpAny_pyIter_list p.isList ?_);refine{↑s,_,_,_,_,_,λi=>bs.getD i false,Y,Walks.list (show X.A.in1.handled=none from I.ok.hd n) ↑s a (qp j) c.toArray,{{_,qF _ rfl,Y,Y},p.isList.push _},?_,λh' tk t=>?_}
 ·intro i v s' B E g y
  have g:c.toArray[i]?=some v:=g
  have hi:c[i]?=some v:=by simpa using g
  have k:i<bs.length:=by
   have:=(zr.mp hi).1;omega
  obtain⟨u,m,f⟩:=l.get (i:=i) (x:=V.bl bs[i]) (by rw[zj,qm k];rfl);rw[hi]at m;cases m;cases f;refine wpAny_truthy_bool ?_
  have e:bs.getD i false=bs[i]:=by rw[ww,qm k];rfl
  rw[←e];exact y
 ·have e:((List.range c.toArray.size).all λi=>bs.getD i false)=bs.all id:=by rw[zx,d];exact Ov bs
  rw[e]
  exact{.bl (bs.all id),H,I.kept λb o e=>t b o (by
   have:=qC e;intro z;rw[zh.mp z]at this
   exact absurd this (wn _)) (qE _ e),Y,q}
inductive lU(K:PySem.W.Frag)(xs:List V)(H:Hp)(Q:VK):Prop
 |mk(x T t b:_)(_:xs=[x,.ty T])(_:gX K H x t)(_:PySem.W.kitOne K t (.type T)=some b)(_:Q (.bl b) H)
def Pb:cu X (.builtin "isinstance") (lU X.K):=by
 intro pins s σ H xs d Q I r h;obtain⟨x,T,t,b,rfl,ty,e,q⟩:=h;obtain⟨u,v,rfl,a,c⟩:=vals2 r;cases(show v=Value.type T from c);exact Pl I a ty e λtk=>{.bl b,H,I.tok tk,Y,q}
inductive nt(x y:V)(H:Hp)(Q:VK):Prop
 |mk(i j:_)(_:x=.str i)(_:y=.str j)(_:Q (.bl (!decide (j.cps.toList<i.cps.toList))) H)
def wH:df X (compareOp .LtE) nt:=by
 intro pins s σ H x y v u Q I b a h;obtain⟨i,j,rfl,rfl,q⟩:=h;obtain⟨t,rfl⟩:=b;obtain⟨t',rfl⟩:=a;exact PySem.P.le_str (cD I q rfl)
def Oe:df X (binaryOp .FloorDiv) (rI (λ_ j=>0<j/\j.natAbs.log2<9000) λi j=>.int (i / j)):=Mf λi j _ _ _ _ _ a q=>by
 have h1:(0:Int)<j:=a.1;exact floordiv_int () (by rw[Int.fdiv_eq_ediv_of_nonneg i ()];exact q) (.inl (PyProof.noPylong_of_log2 a.2))
end
section
variable {X:Cx}{pins:List (Addr×Obj)}{σ σ':St}{H H':Hp}{s s':Shared}
theorem Inv.iH{a:Addr}{o:HO}(f:Inv X pins σ H s)(I:Inv X pins σ' H' s')(l:↑s≤a)(g:H' a=none)(new:ba X.prog X.w (upd H' a o) s'.heap a o):Inv X pins σ' (upd H' a o) s':=by
 have ne:∀b,b<↑s->b≠a:=λb k z=>()
 refine{I.ok,I.os,I.bare,{I.base.keep,I.base.slot,λb u e n i=>?_,I.base.there,λb xs e=>?_,λb u xs e=>?_,λb ps e=>?_,I.base.eP},I.loc,I.cell,?_,λx c e=>?_,λp h=>?_,I.bP.iH g new,I.len}
 ·rw[aP (ne b (zo (qC e) f.sz))]
  exact I.base.free b u e n i
 ·have q:=I.base.dZ b xs e
  rw[aP (dg q g)];exact q
 ·have q:=I.base.fe b u xs e
  rw[aP (dg q g)];exact q
 ·obtain⟨d,q⟩:=I.base.ff b ps e
  exact{d,by rw[aP (dg q g)];exact q}
 ·rw[aP (ne _ f.lt)];exact I.free
 ·obtain⟨v,q⟩:=f.cell x c e
  rw[aP (ne _ q.lt)];exact I.eY x c e
 ·obtain⟨h1,h2,j⟩:=I.pin p h
  refine{h1,?_,j};rw[aP (ne _ (qC (f.pin p h).1))];exact h2
def Inv.iX{t':Nat}{h':Heap}{ch:List Addr}(I:Inv X pins σ H s)(f:∀b∈ch,gW X pins H b)(k:∀b o,b∉ch->s.heap.get? b=some o->h'.get? b=some o):Inv X pins σ H { s with heap:=h',toks:=t' }:=by
 have d:∀b u,H b=some u->b∉ch:=λb u e z=>by rw[(f b z).1]at e;cases e
 refine I.step (g':=s.gens) (d':=s.drawn) (ch:=ch) (λb g=>{(f b g).2.2.2.1,(f b g).2.1,(f b g).2.2.2.2.1,(f b g).2.2.2.2.2}) (λb o _ _ a e _=>k b o a e) (λb o _ _ a e _=>{o.slots,k b o a e}) (λ_ _ _ _ n=>n)
  (λb o a e=>{o,k b o a e}) (λ_ _ e=>e) (λ_ _ _ e=>e) (λb ps e=>{#[],by rw[e];simp}) (λb o xs e n=>k b o (d b _ n) e) (λm hm=>?_) (λb u e=>?_) I.bare
 ·obtain⟨o,es,i,h,r⟩:=hm
  exact{o,es,i,k _ o (λz=>(f _ z).2.1 rfl) h,r}
 ·refine(I.bP b u e).iR (λc v a q=>k c v ?_ q) (λ_ q=>q) λ_ _ q=>q
  rcases a with z|z
  ·rw[z];exact d b u e
  ·exact d c _ z
end
def Iw(a:Addr):It :=
 {λi H=>∃xs x,au H a xs/\xs[i]?=some x,λi H x H'=>∃p v,H p=none/\(∀xs,au H a xs->xs[i]?=some v)/\x=.ref p/\H'=upd H p (.tup [.int i,v]),λi H=>∃xs,au H a xs/\xs.length=i}
def RE{P:Program}{w:World}{K:PySem.W.Frag}{es:List Expr}{k:Nat}{tp:Pos}(a it e:Addr)(Q:a≠e)(t:a≠it)(n:e≠it) :
  Turn P w K (.Tuple es k tp) (Iw a) [e,it] e (λi h=>(∃f,IsEnum h e it i f)/\h.IsListIter it a i) where
 mem:=by simp
 obj:=λi h st b j=>by
  rcases qr.mp j with rfl|j
  ·obtain⟨⟨f,q⟩,_⟩:=st
   exact{_,q,λv z=>by cases z}
  ·have q:b=it:=by simpa using j
   subst q;obtain⟨_,o,q,c,d⟩:=st;exact{o,q,λv z=>by rw[d]at z;cases z}
 keep:=λi h h' st kk=>{let⟨f,q⟩:=st.1;{f,kk e (by simp) _ q},st.2.at λo q=>kk it (by simp) o q}
 item:=by
  intro X M hw U S i pins s σ H E I F st O;subst M hw U;obtain⟨xs,x,G,V⟩:=O;obtain⟨g,N,p,hz⟩:=I.list G;obtain⟨u,Z,ru⟩:=N.get V;obtain⟨⟨f,C⟩,m⟩:=st
  have L:i<g.toArray.size:=by
   have:=(zr.mp Z).1;simpa using this
  refine wpAny_pyNext_enum_itemD (Draws.list (show X.A.in1.handled=none from I.ok.hd S) it a t g.toArray) C {m,p.isList} L n (by simp[n,Ne.symm Q]) λD h' tk J ho T hT hsz hk=>?_
  have ex:D=u:=by
   have q:g.toArray[i]?=some D:=J
   have q':g[i]?=some D:=by simpa using q
   rw[Z]at q';exact(qD q').symm
  subst ex;refine{_,Y,wpAny_letOwnedTupleGo_enum ho λB y l=>?_}
  have I1:Inv X pins σ H { s with heap:=B,toks:=tk+1 }:=I.iX F λb o j q=>l.extBut b o (λz=>j (by simp[z])) (hk b o (λz=>j (by simp[z])) (λz=>j (by simp[z])) q)
  have R:↑s≠e:=wb (qC C);have eT:B.get? ↑s=some { cls:=.type "tuple",data:=.seq #[.int i tk,D] }:=l.extBut _ _ R hT;have nT:H ↑s=none:=I.bP.fresh (qi _);refine{.ref ↑s,upd H ↑s (.tup [.int i,x]),I.iH I1 (Nat.le_refl _) nT {?_,[.int i tk,D],.cons {tk,Y} (.cons ru .nil),{_,eT,Y,_,Y}},Y,{_,x,nT,λys hy=>by rw[I.jS hy G];exact V,Y,Y},{{_,by simpa using y},?_},λb j=>?_}
  ·show 2≤sizeLine
   decide
  ·obtain⟨o,q,r⟩:=T.1
   exact{o,l.extBut _ _ (Ne.symm n) q,r}
  ·obtain⟨o,q⟩:∃o,s.heap.get? b=some o:=by
    rcases qr.mp j with rfl|j
    ·exact⟨_,C⟩
    ·have q:b=it:=by simpa using j
     subst q;obtain⟨o,q,_⟩:=m;exact{o,q}
   rw[aP (qp (qC q))];exact(F b j).1
 done:=by
  intro X M hw U S i pins s σ H E I F st O;subst M hw U;obtain⟨xs,G,V⟩:=O;obtain⟨g,N,p,hz⟩:=I.list G;obtain⟨⟨f,C⟩,m⟩:=st;have hl:=N.length
  have hi:i=g.toArray.size:=by rw[zx];omega
  have hD:=Draws.list (prog:=X.prog) (w:=X.w) (show X.A.in1.handled=none from I.ok.hd S) it a t g.toArray;rw[hi]at m
  exact wpAny_pyNext_enum_endD hD C {m,p.isList} λh' eb=>{Y,I.iX F λb o j q=>eb b o (λz=>j (by simp[z])) q}
 self:=λ_ _ _ _ _ st h=>let⟨f,q⟩:=st.1;wpAny_pyIter_enum q h
section
variable {X:Cx}
inductive Cr(R:It->Hp->Prop)(vs:List V)(H1:Hp):Prop
 |mk(a:_)(_:vs=[.ref a])(_:(∃xs,au H1 a xs))(_:R (Iw a) H1)
def Jg(ta:TA):TI:=λσ H R=>ta σ H λvs H1=>Cr R vs H1
def Ng(x:Gl X "enumerate")(hm:X.mg "enumerate"=none)(z:PA X [a] ta)(hs:starEach [a] X.env=[(false,eval a X.env)]:=by rfl) :
  PI X (.Tuple es k tp) (.Call (.Name "enumerate" p) [a] [] pos) (Jg ta):=by
 refine{?_};intro pins s σ H R I h;refine Call_ (pN I x hm boot_enumerate (PyProof.Rows.callWith_type1 (bq (z pos pins s σ H _ I h) λC c ⟨vs,H1,g,r,w⟩=>?_) hs rfl));obtain⟨l,e,⟨xs,y⟩,q⟩:=w;subst e;obtain⟨u,rfl,o⟩:=vals1 r;cases o;obtain⟨t,D,m,B⟩:=g.list y
 have d:l<↑c:=by obtain⟨_,e,_⟩:=m.isList;exact qC e
 refine call_enumerate_list m.isList λh' n j hsz v=>?_;refine wpAny_pyIter_enum n ?_;have A:Inv X pins σ H1 { c with heap:=h' }:=g.kept (t':=c.toks) v;refine{↑c+1,[↑c+1,↑c],_,_,H1,Y,A,RE l ↑c (↑c+1) (qp (vi d)) (qp d) (wb (vz _)),{{_,n},j},λb i=>?_,q}
 have f:↑c≤b:=by
  rcases qr.mp i with rfl|i
  ·exact jy _
  ·have e:b=↑c:=by simpa using i
   exact Nat.le_of_eq e.symm
 exact g.o5 f (g.bP.fresh f)
end
def MQ{a:Addr}{xs:List V}{g:TG}{tb:TS}{D:Ends}{σ:St}{H:Hp}(c:Nat->St->Hp->Prop)(o:c 0 σ H)(hl:∀i σ H,i≤xs.length->c i σ H->au H a xs)(hs:∀i x σ H p,xs[i]?=some x->c i σ H->H p=none->g (.ref p) σ (upd H p (.tup [.int i,x])) λd H2=>tb { D with nx:=c (i+1),ct:=c (i+1),bk:=D.nx } d H2)(l:∀σ H,c xs.length σ H->D.nx σ H) :
  ∃W:Nat->Nat->St->Hp->Prop,(∃m,W 0 m σ H)/\∀i m σ H,W i m σ H →
   ((Iw a).stop i H/\D.nx σ H)\/((Iw a).go i H/\∃N:St->Hp->Prop,(∀σ' H',N σ' H'->∃h,h<m/\W (i+1) h σ' H')/\∀x H',(Iw a).Dc i H x H'->g x σ H' λd H2=>tb { D with nx:=N,ct:=N,bk:=D.nx } d H2):=by
 refine{λi m σ H=>m=xs.length - i/\i≤xs.length/\c i σ H,{xs.length,by simp,Nat.zero_le _,o},?_};rintro i m σ H ⟨rfl,hi,p⟩;have q:=hl i σ H hi p
 by_cases f:i<xs.length
 ·refine .inr {{xs,xs[i],q,by simp[f]},c (i+1),λσ' H' n=>{xs.length - (i+1),(),Y,f,n},λx H' y=>?_}
  obtain⟨b,v,j,k,rfl,rfl⟩:=y;exact hs i v σ H b (k xs q) p j
 ·have e:i=xs.length:=()
  subst e;exact .inl {{xs,q,Y},l σ H p}
def Od(h:(relabel sc env).names.lookup x=some k):∃y∈sc.names,y.2=k\/y.2=.free:=by
 have hm:=PySem.mem_of_lookup h;obtain⟨y,b,e⟩:=qk.mp hm;refine{y,b,?_};obtain⟨n,k0⟩:=y;dsimp only at e
 split at e
 ·rename_i a
  rw[qv,qv]at a;exact .inr (beq_iff_eq.mp a.1.1)
 ·cases e
  exact .inl rfl
def mj(h:∀y∈sc.names,y.2≠.free/\y.2≠.cell):iO X sc [] [] where
 pf:=closureFor_none λy a=>(h y a).1
 sub:=λx c e=>by cases e
 has:=λx e=>by
  exfalso;rcases e with e|e <;> obtain⟨y,a,z⟩:=Od e <;> rcases z with z|z
  ·exact(h y a).2 z
  ·exact(h y a).1 z
  ·exact(h y a).1 z
  ·exact(h y a).1 z
 PD:=λp b=>nomatch b
def ag.up(e:ag H H')(h:H' p=none):ag H (upd H' p o):=λb u q=>by
 rw[aP (dg (e b u q) h)];exact e b u q
def ag.new(h:H p=none):ag H (upd H p o):=(ag.refl H).up h
def ag.wr(e:ag H H')(h:H p=none):ag H (upd H' p o):=λb u q=>by
 rw[aP (dg q h)];exact e b u q
section
variable {X:Cx}
inductive Kx(x y:V)(H:Hp)(Q:VK):Prop
 |mk(p xs i:_)(_:x=.ref p)(_:y=.int i)(_:au H p xs)(_:0≤i)(_:i<(xs.length:Int))(_:∀v∈xs,Q v H)
def D4:ME X (Kx):=by
 intro value a pins s σ H x y v u Q I g c h hs;obtain⟨p,xs,i,ex,f,d,e,h1,q⟩:=h;obtain⟨j,rfl⟩:=Int.eq_ofNat_of_zero_le e
 have b:j<xs.length:=()
 exact DI value a pins s σ H x y v u Q I g c {p,xs,j,xs[j],ex,f,d,bj (qm b),q _ (vk b)} hs
end
def Lk{a:Type}(xs:List a)(i:Int)(c:0≤i)(h1:i<(xs.length:Int)):∃v,kR xs i=some v:=by
 obtain⟨j,rfl⟩:=Int.eq_ofNat_of_zero_le c
 have b:j<xs.length:=()
 exact{xs[j],bj (qm b)}
def dE(x:Int)(h:0<m):0≤x % m:=Int.emod_nonneg _ ()
def dQ(x:Int)(h:0<m):x % m<m:=Int.emod_lt_of_pos _ h
def cm(c:0<m)(h1:m≤2 ^ 64):-(2 ^ 64)<x % m/\x % m<2 ^ 64:=by
 have a:=dE x c;have b:=dQ x c;omega
def B2(x y:Str):(x++y).cps.size=x.cps.size+y.cps.size:=yv
section
variable {X:Cx}{es:List Expr}{t:TA}{pos:Pos}
def JJ(t:TA):TE:=λσ H Q=>t σ H λxs H1=>xs.length≤sizeLine/\∀p H',H1 p=none->ag H1 H'->H' p=some (.tup xs)->Q (.ref p) H'
def rO(t:TA):TE:=λσ H Q=>t σ H λxs H1=>xs.length≤sizeLine/\∀p H',H1 p=none->ag H1 H'->H' p=some (.lst xs)->Q (.ref p) H'
def K9:TE:=λ_ H Q=>∀p H',H p=none->ag H H'->H' p=some (.dK [])->Q (.ref p) H'
def bF{x1}(h:PA X es t):PE X (.Tuple es x1 pos) (JJ t):=by
 refine{?_};intro pins s σ H Q I f;refine wpAny_Tuple_spliced (bq (h pos pins s σ H _ I f) λg a ⟨xs,H1,c,r,z,q⟩=>{by rw[←r.length];exact z,?_});have d:H1 ↑a=none:=c.bP.fresh (qi _);refine{.ref ↑a,upd H1 ↑a (.tup xs),c.laid (t':=a.toks) (λb u e=>qE _ e) (qi _) ?_,Y,q _ _ d (ag.new d) aN};exact{z,g,r,{_,qF _ rfl,Y,_,Y}}
def aA(h:PA X es t):PE X (.List es pos) (rO t):=by
 refine{?_};intro pins s σ H Q I f;refine wpAny_List_spliced (bq (h pos pins s σ H _ I f) λg a ⟨xs,H1,c,r,z,q⟩=>{by rw[←r.length];exact z,?_});have d:H1 ↑a=none:=c.bP.fresh (qi _);refine{.ref ↑a,upd H1 ↑a (.lst xs),c.laid (t':=a.toks) (λb u e=>qE _ e) (qi _) ?_,Y,q _ _ d (ag.new d) aN};exact{z,g,0,r,qF _ rfl}
def N3:PE X (.Dict [] [] pos) K9:={λpins s σ H Q I h=>Sg pins s σ H Q I λp a=>h p _ a (ag.new a) aN}
def df.imp(h:df X f r)(i:∀x y H Q,a x y H Q->r x y H Q):df X f a:=λpins s σ H x y v u Q I c b q=>h pins s σ H x y v u Q I c b (i x y H Q q)
def xX.imp(h:xX X r)(i:∀x lo hi H Q,a x lo hi H Q->r x lo hi H Q):xX X a:=λpins s σ H x v f e lo hi d Q I g hs c b q=>h pins s σ H x v f e lo hi d Q I g hs c b (i x lo hi H Q q)
inductive LW(x y:V)(H:Hp)(Q:VK):Prop
 |mk(l b xs zs:_)(_:x=.ref l)(_:y=.ref b)(_:H l=some (.lst xs))(_:H b=some (.lst zs))(_:xs.length+zs.length≤sizeLine)(_:∀p H',H p=none->ag H H'->H' p=some (.lst (xs++zs))->Q (.ref p) H')
def a9:df X (binaryOp .Add) LW:=D3.imp λ_ _ _ _ ⟨l,b,xs,zs,h1,h2,e,c,d,q⟩=>{l,b,xs,zs,h1,h2,e,c,d,λp a=>q p _ a (ag.new a) aN}
inductive G7(x:V)(lo:Option Int)(hi:Option Int)(H:Hp)(Q:VK):Prop
 |mk(a xs:_)(_:x=.ref a)(_:au H a xs)(_:∀p H',H p=none->ag H H'->H' p=some (.lst (bR xs lo hi))->Q (.ref p) H')
def bG:xX X (G7):=RG.imp λ_ _ _ _ _ ⟨a,xs,h1,h2,q⟩=>{a,xs,h1,h2,λp b=>q p _ b (ag.new b) aN}
end
def sq(env:Env):List (Str×NameKind)->List (Str×Addr)->List (Str×Addr)
 |[],acc=>acc
 |(n,k)::r,acc=>sq env r (if k==.free then(n,(env.cells.lookup n).getD 0)::acc else acc)
def QP(h:∀y∈sc.names,y.2=.free->∃c,env.cells.lookup y.1=some c):closureFor sc env=pure (sq env sc.names []):=by
 have all:∀(names:List (Str×NameKind)) (b:List (Str×Addr)),(∀y∈names,y.2=.free->∃c,env.cells.lookup y.1=some c) →
   (forIn names b λx r=>(match x with
    |(name,kind)=>if(kind==NameKind.free)=true then do
      let a ←cellOf env name
      pure (ForInStep.yield ((name,a)::r))
     else pure (ForInStep.yield r):Sem (ForInStep (List (Str×Addr)))))=pure (sq env names b):=by
  intro names
  induction names with
  |nil=>intro b _;rfl
  |cons x r j =>
   intro b g;obtain⟨n,k⟩:=x;rw[List.forIn_cons]
   cases d:(k==NameKind.free) with
   |true =>
    obtain⟨c,i⟩:=g (n,k) qo (beq_iff_eq.mp d)
    have e:cellOf env n=pure c:=by unfold cellOf;rw[i]
    dsimp only;rw[q0 d,e];refine Eq.trans (by first|rfl|simp) ((j ((n,c)::b) λy f=>g y (List.mem_cons_of_mem _ f)).trans ?_);show _=pure (sq env r (if(k==NameKind.free)=true then(n,(env.cells.lookup n).getD 0)::b else b));rw[q0 d,show env.cells.lookup n=some c from i];rfl
   |false =>
    dsimp only;rw[qq (by rw[d];exact zg)];refine Eq.trans (by first|rfl|simp) ((j b λy f=>g y (List.mem_cons_of_mem _ f)).trans ?_);show _=pure (sq env r (if(k==NameKind.free)=true then(n,(env.cells.lookup n).getD 0)::b else b));rw[qq (by rw[d];exact zg)]
 have e:=all sc.names [] h
 show((forIn sc.names [] λx r=>(match x with
       |(name,kind)=>if(kind==NameKind.free)=true then do
         let a ←cellOf env name
         pure (ForInStep.yield ((name,a)::r))
        else pure (ForInStep.yield r):Sem (ForInStep (List (Str×Addr))))) >>= λcs=>pure cs)=_
 rw[e];rfl
theorem Kt:∀{names:List (Str×NameKind)} {a:List (Str×Addr)},(∀y∈names,y.2=.free->∃c,env.cells.lookup y.1=some c)->(∀x c,a.lookup x=some c->env.cells.lookup x=some c) →
  ∀x c,(sq env names a).lookup x=some c->env.cells.lookup x=some c
 |[],_,_,h=>h
 |(n,k)::r,a,hx,h=>by
  refine Kt (names:=r) (λy l=>hx y (ql _ l)) λx c e=>?_
  cases d:(k==NameKind.free) with
  |true =>
   rw[d,q0 rfl]at e;obtain⟨j,i⟩:=hx (n,k) qo (beq_iff_eq.mp d);rw[jz]at e
   cases b:(x==n) with
   |true =>
    rw[b]at e;have q:=beq_iff_eq.mp b;subst q;have g:(env.cells.lookup x).getD 0=c:=qD e;have f:env.cells.lookup x=some j:=i;rw[f]at g ⊢;exact congrArg some g
   |false=>rw[b]at e;exact h x c e
  |false=>rw[d,qq zg]at e;exact h x c e
theorem Hh:∀{names:List (Str×NameKind)} {a:List (Str×Addr)},((x,NameKind.free)∈names\/∃c,a.lookup x=some c)->∃c,(sq env names a).lookup x=some c
 |[],_,h=>h.elim (λz=>nomatch z) id
 |(n,k)::r,a,h=>by
  refine Hh (names:=r) ?_
  have put:∀b,∃c,((n,b)::a).lookup x=some c\/(x≠n/\a.lookup x=none):=λb=>by
   rw[jz]
   cases d:(x==n) with
   |true=>exact{b,.inl rfl}
   |false =>
    cases f:a.lookup x with
    |some c=>exact{c,.inl rfl}
    |none=>exact{0,.inr {λz=>by subst z;simp at d,Y}}
  rcases h with h|⟨c,h⟩
  ·rcases qr.mp h with q|q
   ·cases q
    refine .inr ?_;rw[q0 (by rfl),jz]
    simp
   ·exact .inl q
  ·refine .inr ?_
   cases e:(k==NameKind.free) with
   |true =>
    rw[q0 (by rfl)];obtain⟨c1,q|q⟩:=put ((env.cells.lookup n).getD 0)
    ·exact{c1,q}
    ·rw[q.2]at h;cases h
   |false=>rw[qq zg];exact{c,h}
def OU(h:(relabel sc env).names.lookup x=some k):∃y∈sc.names,y.1=x/\(y.2=k\/y.2=.free):=by
 have hm:=PySem.mem_of_lookup h;obtain⟨y,b,e⟩:=qk.mp hm;refine{y,b,?_};obtain⟨n,k0⟩:=y;dsimp only at e
 split at e
 ·rename_i a
  rw[qv,qv]at a;cases e;exact{Y,.inr (beq_iff_eq.mp a.1.1)}
 ·cases e
  exact{Y,.inl rfl}
def PX{fr:List (Str×Nat)}(g:∀x,X.env.kindOf x=some .cell->∃c,X.env.cells.lookup x=some c)(d:∀y∈sc.names,y.2≠.cell)(a:∀y∈sc.names,y.2=.free->X.env.kindOf y.1=some .cell)(f:∀p∈fr,X.N[p.2]?=some p.1/\X.env.kindOf p.1=some .cell/\(relabel sc X.env).names.lookup p.1=some .cell):iO X sc (sq X.env sc.names []) fr where
 pf:=QP λy b e=>g _ (a y b e)
 sub:=Kt (λy b e=>g _ (a y b e)) λx c e=>by cases e
 has:=λx e=>by
  refine Hh (.inl ?_);rcases e with e|e <;> obtain⟨y,b,rfl,z⟩:=OU e <;> rcases z with z|z
  ·exact absurd z (d y b)
  ·rw[←z];exact b
  ·rw[←z];exact b
  ·rw[←z];exact b
 PD:=λp h=>by
  obtain⟨h1,h2,i⟩:=f p h;exact{h1,by rw[h2];decide,.inr (.inl h2),.inl i}
def Aa{fr:List (Str×Nat)}(d:Scope)(N:List Str)(h1:X.env.scope=d)(h2:X.N=N)(k:∀x,X.env.kindOf x=some .cell->∃c,X.env.cells.lookup x=some c)(g:∀y∈sc.names,y.2≠.cell)(f:∀y∈sc.names,y.2=.free->d.names.lookup y.1=some .cell)(h:∀p∈fr,N[p.2]?=some p.1/\d.names.lookup p.1=some .cell/\(relabel sc { scope:=d,locals:=0,globals:=0,cells:=[] }).names.lookup p.1=some .cell):iO X sc (sq X.env sc.names []) fr:=by
 refine PX k g (λy j e=>?_) λp i=>?_
 ·show X.env.scope.names.lookup y.1=some .cell
  rw[h1];exact f y j e
 ·obtain⟨a,b,c⟩:=h p i
  refine{by rw[h2];exact a,?_,?_}
  ·show X.env.scope.names.lookup p.1=some .cell
   rw[h1];exact b
  ·have e:relabel sc X.env=relabel sc { scope:=d,locals:=0,globals:=0,cells:=[] }:=by
    unfold relabel Env.kindOf;rw[h1]
   rw[e];exact c
section
variable {X:Cx}
def cu.imp(h:cu X f r)(i:∀xs H Q,a xs H Q->r xs H Q):cu X f a:=λpins s σ H xs b Q I c q=>h pins s σ H xs b Q I c (i xs H Q q)
inductive K4(xs:List V)(H:Hp)(Q:VK):Prop
 |mk(p ys:_)(_:xs=[.ref p])(_:au H p ys)(_:∀l H',H l=none->ag H H'->H' l=some (.tup ys)->Q (.ref l) H')
def lX:cu X (.type "tuple") (K4):=O_.imp λ_ _ _ ⟨p,ys,h1,h2,q⟩=>{p,ys,h1,.inl {h2,λl hl=>q l _ hl (ag.new hl) aN}}
inductive He(xs:List V)(H:Hp)(Q:VK):Prop
 |mk(p ys:_)(_:xs=[.ref p])(_:(au H p ys\/aI H p ys))(_:∀l H',H l=none->ag H H'->H' l=some (.lst ys)->Q (.ref l) H')
def O1:cu X (.type "list") (He):=Qg.imp λ_ _ _ ⟨p,ys,h1,h2,q⟩=>{p,ys,h1,h2,λl hl=>q l _ hl (ag.new hl) aN}
inductive F6(x y:V)(H:Hp)(Q:VK):Prop
 |mk(a b xs ys:_)(_:x=.ref a)(_:y=.ref b)(_:aI H a xs)(_:aI H b ys)(_:xs≠[])(_:ys≠[])(_:xs.length+ys.length≤sizeLine)(_:∀l H',H l=none->ag H H'->H' l=some (.tup (xs++ys))->Q (.ref l) H')
def tr:df X (binaryOp .Add) (F6):=Jq.imp λ_ _ _ _ ⟨a,b,xs,ys,h1,h2,g,h,f,c,h6,q⟩=>{a,b,xs,ys,h1,h2,g,h,f,h6,λe=>absurd e c,λ_ p d=>q p _ d (ag.new d) aN}
inductive MH(x y:V)(H:Hp)(Q:VK):Prop
 |mk(l k xs:_)(_:x=.ref l)(_:y=.int k)(_:H l=some (.lst xs))(_:-(2 ^ 63)≤k)(_:k<2 ^ 63)(_:xs.length * k.toNat≤sizeLine)(_:∀p H',H p=none->ag H H'->H' p=some (.lst (List.replicate k.toNat xs).flatten)->Q (.ref p) H')
def FR:df X (binaryOp .Mult) MH:=BH.imp λ_ _ _ _ ⟨l,k,xs,h1,h2,d,b,c,h6,q⟩=>{l,k,xs,h1,h2,d,b,c,h6,λp a=>q p _ a (ag.new a) aN}
end
def RQ{z:Str}{g:TG}{tb:TS}{D:Ends}{σ:St}{H:Hp}(b:Nat->St->Hp->Prop)(l:b 0 σ H)(hs:∀i c σ H,z.cps[i]?=some c->b i σ H->g (.str {#[c]}) σ H λa H2=>tb { D with nx:=b (i+1),ct:=b (i+1),bk:=D.nx } a H2)(j:∀σ H,b z.cps.size σ H->D.nx σ H) :
  ∃W:Nat->Nat->St->Hp->Prop,(∃m,W 0 m σ H)/\∀i m σ H,W i m σ H →
   ((FJ z).stop i H/\D.nx σ H)\/((FJ z).go i H/\∃N:St->Hp->Prop,(∀σ' H',N σ' H'->∃f,f<m/\W (i+1) f σ' H')/\∀x H',(FJ z).Dc i H x H'->g x σ H' λa H2=>tb { D with nx:=N,ct:=N,bk:=D.nx } a H2):=by
 refine{λi m σ H=>m=z.cps.size - i/\i≤z.cps.size/\b i σ H,{z.cps.size,by simp,Nat.zero_le _,l},?_};rintro i m σ H ⟨rfl,hi,p⟩
 by_cases d:i<z.cps.size
 ·refine .inr {d,b (i+1),λσ' H' k=>{z.cps.size - (i+1),(),Y,d,k},λx H' y=>?_}
  obtain⟨rfl,c,h,rfl⟩:=y;exact hs i c σ _ h p
 ·have e:i=z.cps.size:=()
  subst e;exact .inl {qi _,j σ H p}
def mM{fr:List (Str×Nat)}(w:xs.length≤sizeLine)(d:Nat->List V->Hp->Prop)(v:d 0 [] H)(hl:∀i ys H,d i ys H->au H a xs)(hs:∀i x ys H' (k:V->Hp->Prop) (l:Hp->Prop),xs[i]?=some x->d i ys H'->(∀y j,d (i+1) (ys++[y]) j->k y j)->(∀f,d (i+1) ys f->l f) →
   g x (bD own fr σ) H' λh H2=>tt h H2 λb f=>if b=true then te h f k else l f)(u:∀H' p ys,d xs.length ys H'->ys.length≤xs.length->H' p=none->Q (.ref p) (upd H' p (.lst ys))):uH own fr g tt te σ Q (Dv a) H:=by
 refine{λi m ys H=>m=xs.length - i/\i≤xs.length/\ys.length≤i/\d i ys H,{xs.length,by simp,Nat.zero_le _,Nat.zero_le _,v},?_};rintro i m ys H ⟨rfl,hi,s,p⟩
 by_cases c:i<xs.length
 ·refine .inr {{xs,xs[i],hl _ _ H p,by simp[c]},(),λx H' y=>?_}
  obtain⟨rfl,y⟩:=y;have n:=y xs (hl _ _ _ p)
  refine hs i x ys H' _ _ n p (λy j o=>{xs.length - (i+1),(),Y,c,?_,o}) λf t=>{xs.length - (i+1),(),Y,c,(),t}
  rw[qu,zy];omega
 ·have e:i=xs.length:=()
  subst e;exact .inl {{xs,hl _ _ H p,qi _},λq r=>u H q ys p s r}
def Jk{lo:Int}{n:Nat}{own:List Str}{fr:List (Str×Nat)}{g:TG}{tt:TT}{te:TE}{σ:St}{H:Hp}{Q:VK}(v:n≤sizeLine)(d:Nat->List V->Hp->Prop)(u:d 0 [] H)(hs:∀i ys H' (j:V->Hp->Prop) (k:Hp->Prop),i<n->d i ys H'->(∀y h,d (i+1) (ys++[y]) h->j y h)->(∀c,d (i+1) ys c->k c) →
   g (.int (lo+i)) (bD own fr σ) H' λf H2=>tt f H2 λb c=>if b=true then te f c j else k c)(t:∀H' p ys,d n ys H'->ys.length≤n->H' p=none->Q (.ref p) (upd H' p (.lst ys))):uH own fr g tt te σ Q (FT lo n) H:=by
 refine{λi m ys H=>m=n - i/\i≤n/\ys.length≤i/\d i ys H,{n,by simp,Nat.zero_le _,Nat.zero_le _,u},?_};rintro i m ys H ⟨rfl,hi,r,p⟩
 by_cases a:i<n
 ·refine .inr {a,(),λx H' y=>?_}
  obtain⟨rfl,rfl⟩:=y
  refine hs i ys H' _ _ a p (λy h l=>{n - (i+1),(),Y,a,?_,l}) λc s=>{n - (i+1),(),Y,a,(),s}
  rw[qu,zy];omega
 ·have e:i=n:=()
  subst e;exact .inl {qi _,λq o=>t H q ys p r o}
theorem gg{b:Type}[DecidableEq b]:∀{S ws:List b},S.Nodup->(∀x∈S,x∈ws)->S.length≤ws.length
 |[],_,_,_=>wq _
 |x::S,ws,nd,h=>by
  have d:=h x qo;have a:=wf.mp nd
  have f:=gg (S:=S) (ws:=ws.erase x) a.2 λy c=>(List.mem_erase_of_ne (λ(e:y=x)=>a.1 (by rw[←e];exact c))).mpr (h y (ql _ c))
  have g:=List.length_erase_of_mem d;have pos:0<ws.length:=List.length_pos_of_mem d;show S.length+1≤ws.length;omega
def F':TE:=λ_ H Q=>∀p H',H p=none->ag H H'->H' p=some (.dT [])->Q (.ref p) H'
def QJ:PE X (.Dict [] [] pos) F':={λpins s σ H Q I h=>R8 pins s σ H Q I λp a=>h p _ a (ag.new a) aN}
def au.same(h:au H a xs)(s:ag H H'):au H' a xs:=by
 rcases h with h|⟨o,h⟩
 ·exact .inl (s _ _ h)
 ·exact .inr ⟨o,s _ _ h⟩
inductive Kd(x y:V)(H:Hp)(Q:VK):Prop
 |mk(l b xs zs:_)(_:x=.ref l)(_:y=.ref b)(_:au H l xs)(_:H b=some (.lst zs))(_:xs.length+zs.length≤sizeLine)(_:∀p H',H p=none->ag H H'->H' p=some (.lst (xs++zs))->Q (.ref p) H')
def Sa:df X (binaryOp .Add) (Kd):=by
 intro pins s σ H x y v u Q I A i h;obtain⟨l,b,xs,zs,rfl,rfl,t,w,B,q⟩:=h;cases A;cases i;obtain⟨c,r,j,z⟩:=I.list t;obtain⟨⟨cls,dict,f,k⟩,n,e,c1,c2,g⟩:=j;dsimp only at c1 c2 g;subst c1 c2 g;obtain⟨z2,a,n2,o,m,d⟩:=I.sJ w;have hl:=r.length;refine concat_meets {_,e,Y} {_,d,Y} noFill_list_add seq_list_add PySem.F.slot_list_add PySem.F.entry_list_add (PySem.F.args_list_add_2 _ _) (list_addW l b c.toArray a.toArray n n2 none none k #[] (by rw[zx,zx];omega)) {e,d,?_}
 have p:c.toArray++a.toArray=(c++a).toArray:=by simp
 rw[p];exact{.ref _,_,I.CG (t':=s.toks) (r.append o) (by rw[qu];omega),Y,q _ _ I.fresh (ag.new I.fresh) aN}
section
variable {X:Cx}
theorem Kz:∀{ys:List Str} {a:List Value},aF (ys.map V.str) a->StrsAre a ys
 |[],_,h=>by cases h;exact .nil
 |y::ys,_,h=>by
  cases h with
  |cons r t =>
   obtain⟨k,rfl⟩:=r;exact .cons y k (Kz t)
inductive rJoin(x:V)(vs:List V)(H:Hp)(Q:VK):Prop
 |mk(sep p ys:_)(_:x=.str sep)(_:vs=[.ref p])(_:au H p (List.map V.str ys))(_:(ys.map (·.length)).sum+ys.length * sep.length≤16777216)(_:Q (.str (Txt.join sep ys)) H)
def fJ:QY X "str.join" (rJoin):=by
 intro pins s σ H x vs v j Q I i e h;obtain⟨a,p,ys,rfl,rfl,f,g,q⟩:=h;obtain⟨t,rfl⟩:=i;obtain⟨u,rfl,b⟩:=e.one;cases b;obtain⟨c,r,d,_⟩:=I.list f;exact join_list d.isList (Kz r) g λt' k=>{.str (Txt.join a ys),H,I.tok _,{_,Y},q}
end
mutual
inductive DV(H:Hp):V->PyData->Prop
 |a':DV H .a' .none
 |bl (b:Bool):DV H (.bl b) (.bool b)
 |int (i:Int):DV H (.int i) (.int i)
 |str (z:Str):DV H (.str z) (.str z)
 |lst {p:Addr} {xs:List V} {ds:List PyData}:au H p xs->oa H xs ds->DV H (.ref p) (.list ds)
 |tup {p:Addr} {xs:List V} {ds:List PyData}:aI H p xs->oa H xs ds->DV H (.ref p) (.tuple ds)
inductive oa(H:Hp):List V->List PyData->Prop
 |nil:oa H [] []
 |cons {x:V} {xs:List V} {d:PyData} {ds:List PyData}:DV H x d->oa H xs ds->oa H (x::xs) (d::ds)
end
section
variable {X:Cx}{pins:List (Addr×Obj)}{σ:St}{H H':Hp}{s:Shared}{K:PySem.W.Frag}
mutual
theorem DV.reads(I:Inv X pins σ H s):∀{x:V} {d:PyData} {v:Value},DV H x d->RelV x v->∃j,Reads s.heap v d j
 |_,_,_,.a',r=>by cases r;exact{_,.none}
 |_,_,_,.bl b,r=>by cases r;exact{_,.bool b}
 |_,_,_,.int i,r=>by obtain⟨t,rfl⟩:=r;exact{_,.int i t}
 |_,_,_,.str z,r=>by obtain⟨t,rfl⟩:=r;exact{_,.str z t}
 |_,_,_,.lst h t,r=>by
  cases r;obtain⟨c,e,⟨o,n,k,a,_,f⟩,_⟩:=I.list h;obtain⟨j,g⟩:=oa.reads I t e;exact{_,.list k a f (by simpa using g)}
 |_,_,_,.tup h t,r=>by
  cases r;obtain⟨c,e,⟨o,k,a,n,f⟩,_⟩:=I.tuple h;obtain⟨j,g⟩:=oa.reads I t e;exact{_,.tuple k a f (by simpa using g)}
theorem oa.reads(I:Inv X pins σ H s):∀{xs:List V} {ds:List PyData} {vs:List Value},oa H xs ds->aF xs vs->∃c,ReadsAll s.heap vs ds c
 |_,_,_,.nil,r=>by cases r;exact{_,.nil}
 |_,_,_,.cons h t,r=>by
  cases r with
  |cons d e =>
   obtain⟨c,a⟩:=DV.reads I h d;obtain⟨bs,b⟩:=oa.reads I t e;exact{_,.cons a b}
end
inductive wF(u:Nat)(neg:Bool)(x y:V)(H:Hp)(Q:VK):Prop
 |mk(dx dy:_)(_:DV H x dx)(_:DV H y dy)(_:dx.canLay0=true)(_:dy.canLay0=true)(_:min dx.depth dy.depth≤u)(_:Q (.bl (if neg then !PyData.eqv dx dy else PyData.eqv dx dy)) H)
def AX(j:X.A.units+u<cLine):df X (compareOp .Eq) (wF u false):=by
 intro pins s σ H x y v w Q I g a h;obtain⟨dx,i,f,d,e,cy,l,q⟩:=h;obtain⟨k,c⟩:=f.reads I g;obtain⟨bs,b⟩:=d.reads I a;exact SeqAt.compareEq_reads c b e cy () {.bl _,H,I,Y,q}
def Av(j:X.A.units+u<cLine):df X (compareOp .NotEq) (wF u true):=by
 intro pins s σ H x y v w Q I g a h;obtain⟨dx,i,f,d,e,cy,l,q⟩:=h;obtain⟨k,c⟩:=f.reads I g;obtain⟨bs,b⟩:=d.reads I a;exact SeqAt.compareNe_reads c b e cy () {.bl _,H,I,Y,q}
theorem nR:∀{vs:List Value} {ds:List PyData} {a:List Addr} {j:Nat} {v:Value},ReadsAll h vs ds a->vs[j]?=some v->∃d bs,ds[j]?=some d/\Reads h v d bs
 |_,_,_,_,_,.nil,e=>by cases e
 |_,_,_,0,_,.cons r t,e=>by cases e;exact{_,_,Y,r}
 |_,_,_,j+1,_,.cons r t,e=>by
  obtain⟨d,bs,h1,h2⟩:=nR (j:=j) t (by simpa using e);exact{d,bs,by simpa using h1,h2}
theorem uN:∀{ds:List PyData} {j:Nat} {d:PyData},PyData.canLayAll0 ds=true->ds[j]?=some d->d.canLay0=true
 |[],_,_,_,e=>by cases e
 |d::ds,0,_,h,e=>by
  cases e;have h':(d.canLay0&&PyData.canLayAll0 ds)=true:=h;rw[qv]at h';exact h'.1
 |d::ds,j+1,d',h,e=>by
  have h':(d.canLay0&&PyData.canLayAll0 ds)=true:=h;rw[qv]at h';exact uN h'.2 (by simpa using e)
open Classical in
noncomputable def alike(vs:List Value)(ds:List PyData)(dx:PyData)(y:Value):Bool:=decide (∃(j:Nat) (d:PyData),vs[j]?=some y/\ds[j]?=some d/\PyData.eqv d dx=true)
open Classical in
def pP{h:Heap}{vs:List Value}{ds:List PyData}{l:List Addr}{dx:PyData}(r:ReadsAll h vs ds l)(c:PyData.canLayAll0 ds=true){j:Nat}{y:Value}{d:PyData}(e:vs[j]?=some y)(a:ds[j]?=some d):alike vs ds dx y=PyData.eqv d dx:=by
 unfold alike
 cases q:PyData.eqv d dx with
 |true=>exact qs {j,d,e,a,q}
 |false =>
  refine decide_eq_false λ⟨p,d',m,b,q'⟩=>?_;obtain⟨o,n,g,i⟩:=nR r e;obtain⟨d2,s,f,k⟩:=nR r m;rw[a]at g;cases g;rw[b]at f;cases f;have:=SeqAt.Reads.unique _ _ _ _ _ (uN c a) i k;rw[←this,q]at q';cases q'
def NZ(r:ReadsAll h vs ds i)(c:PyData.canLayAll0 ds=true):vs.any (alike vs ds dx)=ds.any λd=>PyData.eqv d dx:=by
 have hl:=SeqAt.ReadsAll.length _ _ _ r;rw[yg,j1,j1];constructor
 ·rintro⟨y,g,q⟩
  obtain⟨j,b,e⟩:=vj.mp g;obtain⟨d,_,f,_⟩:=nR r (j:=j) (by rw[qm b,e]);rw[pP r c (by rw[qm b,e]) f]at q;exact{d,qx f,q}
 ·rintro⟨d,k,q⟩
  obtain⟨j,b,e⟩:=vj.mp k
  have a:j<vs.length:=()
  refine{vs[j],vk a,?_};rw[pP r c (qm a) (by rw[qm b,e])];exact q
inductive Lr(u:Nat)(neg:Bool)(x y:V)(H:Hp)(Q:VK):Prop
 |mk(dx p ds xs:_)(_:DV H x dx)(_:y=.ref p)(_:(au H p xs\/aI H p xs))(_:oa H xs ds)(_:dx.canLay0=true)(_:PyData.canLayAll0 ds=true)(_:dx.depth≤u)(_:Q (.bl (if neg then !(ds.any λd=>PyData.eqv d dx) else ds.any λd=>PyData.eqv d dx)) H)
def QF(E:X.A.units+1+u<cLine):df X (compareOp .NotIn) (Lr u true):=by
 intro pins s σ H x y v w Q I D l h;obtain⟨dx,p,ds,xs,C,rfl,c,hs,o,cs,F,q⟩:=h;cases l;obtain⟨G,n⟩:=C.reads I D
 have b:∀{a:List Value},aF xs a->(∀y∈a,SeqAt.EqAt X.A.in1 s y v (alike a ds dx y))/\a.any (alike a ds dx)=ds.any λd=>PyData.eqv d dx:=λ{a} B=>by
  obtain⟨bs,g⟩:=hs.reads I B;refine{λy t=>?_,NZ g cs};obtain⟨j,z,e⟩:=vj.mp t
  have i:a[j]?=some y:=by rw[qm z,e]
  obtain⟨d,_,k,rd⟩:=nR g i;rw[pP g cs i k];exact SeqAt.eqAt_reads d dx _ s y v _ _ rd n (uN cs k) o (by show X.A.units+1+_<cLine;omega)
 rcases c with c|c
 ·obtain⟨a,r,f,m⟩:=I.list c
  obtain⟨k1,k2⟩:=b r;refine SeqAt.notIn_listAt (alike a ds dx) f.isList (λw hw=>k1 w (by simpa using hw)) {.bl _,H,I,Y,?_};rw[List.any_toArray,k2];exact q
 ·obtain⟨a,r,f,m⟩:=I.tuple c
  obtain⟨k1,k2⟩:=b r;refine SeqAt.notIn_tupleAt (alike a ds dx) f (λw hw=>k1 w (by simpa using hw)) {.bl _,H,I,Y,?_};rw[List.any_toArray,k2];exact q
inductive lY(u:Nat)(o:V)(vs:List V)(H:Hp)(Q:VK):Prop
 |mk(x dx p ds xs:_)(j:Nat)(_:vs=[x])(_:o=.ref p)(_:DV H x dx)(_:au H p xs)(_:oa H xs ds)(_:dx.canLay0=true)(_:PyData.canLayAll0 ds=true)(_:dx.depth≤u)(_:(∃d,ds[j]?=some d/\PyData.eqv d dx=true))(_:(∀(m:Nat) d,m<j->ds[m]?=some d->PyData.eqv d dx=false))(_:Q (.int (j:Int)) H)
def Qf(V:X.A.units+3+u<cLine):QY X "list.index" (lY u):=by
 intro pins s σ H o vs v W Q I N P h;obtain⟨x,dx,p,ds,xs,j,rfl,rfl,T,S,hs,M,cs,Z,⟨d,C,R⟩,l,q⟩:=h;cases N;obtain⟨w,rfl,t⟩:=P.one;obtain⟨as,L⟩:=T.reads I t;obtain⟨a,r,J,U⟩:=I.list S;obtain⟨⟨cls,dict,E,K⟩,n,e,c1,c2,z⟩:=J;dsimp only at c1 c2 z;subst c1 c2 z;obtain⟨bs,c⟩:=hs.reads I r;have B:=SeqAt.ReadsAll.length _ _ _ c
 have g:j<a.length:=by
  have:=(zr.mp C).1;omega
 have hl:=r.length
 have G:sizeLine<2 ^ 63 - 1:=⋯
 refine call_meets F.slot_list_index {_,e,Y} F.entry_list_index (F.args_list_index_2 _ _) (SeqAt.list_indexAt p a.toArray n none K w (alike a ds dx) j (by simpa using g) () ?_ ?_) {e,λy i=>?_,?_}
 ·rw[gs,pP c cs (qm g) C]
  exact R
 ·intro m hm k
  have f:m<a.length:=by simpa using hm
  obtain⟨d',_,b,_⟩:=nR c (qm f);rw[gs,pP c cs (qm f) b];exact l m d' k b
 ·have i:y∈a:=by simpa using i
  obtain⟨m,hm,O⟩:=vj.mp i
  have D:a[m]?=some y:=by rw[qm hm,O]
  obtain⟨d',_,b,rd⟩:=nR c D;rw[pP c cs D b];exact SeqAt.eqAt_reads d' dx _ s y w _ _ rd L (uN cs b) M (by show X.A.units+1+_<cLine;omega)
 ·exact{.int j,H,I.tok _,{_,Y},q}
end
def Hg(a:cg k A):A.units+64<cLine:=a.units
def P8(a:cg k A):A.units+1+63<cLine:=by have:=a.units;omega
def N_(a:cg k A):A.units+3+61<cLine:=by have:=a.units;omega
def aJ(z:Str)(lo hi:Option Int):Str:={((z.cps.toList.drop (HT.bV z.length 0 lo)).take (HT.bV z.length z.length hi - HT.bV z.length 0 lo)).toArray}
def wJ(i:Int)(n:Nat):max 0 (min (if i<0 then i+(n:Int) else i) (n:Int))=((if i<0 then(i+(n:Int)).toNat else min i.toNat n:Nat):Int):=by
 by_cases h:i<0
 ·rw[q0 h,q0 h];omega
 ·rw[qq h,qq h];omega
def Ie(lo hi:Option Int)(n:Nat):Builtin.Str.strSliceIndices lo hi 1 n=(List.range (HT.bV n n hi - HT.bV n 0 lo)).map (HT.bV n 0 lo+·):=by
 rw[←sliceRange_one];unfold Builtin.Str.strSliceIndices
 cases lo with
 |none=>cases hi with
  |none=>rfl
  |some j =>
   show sliceRange 0 (max 0 (min (if j<0 then j+(n:Int) else j) (n:Int))) 1=_;rw[wJ];rfl
 |some i=>cases hi with
  |none =>
   show sliceRange (max 0 (min (if i<0 then i+(n:Int) else i) (n:Int))) n 1=_;rw[wJ];rfl
  |some j =>
   show sliceRange (max 0 (min (if i<0 then i+(n:Int) else i) (n:Int))) (max 0 (min (if j<0 then j+(n:Int) else j) (n:Int))) 1=_;rw[wJ,wJ];rfl
section
variable {X:Cx}
inductive P9(x:V)(lo:Option Int)(hi:Option Int)(H:Hp)(Q:VK):Prop
 |mk(z:_)(_:x=.str z)(_:z.length≤sizeLine)(_:Q (.str (aJ z lo hi)) H)
def RI(z:Str)(l u:Option (Int×Tok)):((slicePicked z l u none).filterMap (z.cps[·]?))=(aJ z (l.map (·.1)) (u.map (·.1))).cps.toList:=by
 unfold slicePicked aJ;rw[show((none:Option (Int×Tok)).map (·.1)).getD 1=(1:Int) from rfl,Ie,pick_run]
def jW:xX X P9:=by
 intro pins s σ H x v B y lo hi j Q I p hs n m h;obtain⟨z,rfl,o,q⟩:=h;obtain⟨t,rfl⟩:=p;refine{"str",_,F.slot_str_getitem.lookup,typeIs_str _ z t,?_}
 have a:∀l u:Option (Int×Tok),l.map (·.1)=lo->u.map (·.1)=hi->s.heap.IsSlice j l u none->wpAny (model X.prog X.w) X.A (getItem (.str z t) (.ref j)) (EP X pins σ Q) X.xe s:=λl u k i f=>by
  refine wpAny_getItem_str_slice (st:=none) f rfl ?_;have g:=RI z l u;rw[k,i]at g;unfold sliceMade
  split
  ·rename_i b
   have hl:(slicePicked z l u none).length=z.length:=by
    rw[qv]at b;exact beq_iff_eq.mp b.2
   have e:aJ z lo hi=z:=by
    have h1:(slicePicked z l u none).length=HT.bV z.length z.length hi - HT.bV z.length 0 lo:=by
     unfold slicePicked;rw[show((none:Option (Int×Tok)).map (·.1)).getD 1=(1:Int) from rfl,Ie,k,i,qf,yc]
    have r:HT.bV z.length z.length hi≤z.length:=by unfold HT.bV;split <;> (try split) <;> omega
    have h2:HT.bV z.length 0 lo=0\/z.length=0:=()
    unfold aJ;rcases h2 with h2|h2
    ·rw[h2]
     rw[h2]at h1
     rw[show HT.bV z.length z.length hi - 0=z.cps.toList.length from by
      have:z.cps.toList.length=z.length:=by simp;rfl
      omega,yd,va]
    ·have:z.cps.toList=[]:=by
      have:z.cps.size=0:=h2;simpa using this
     rw[this];obtain⟨c⟩:=z
     simp at this
     simp[this]
   exact{.str z,H,I,{t,Y},e▸q}
  ·have e:(⟨((slicePicked z l u none).filterMap (z.cps[·]?)).toArray⟩:Str)=aJ z lo hi:=by
    rw[g]
   have d:(aJ z lo hi).length≤z.length:=by
    unfold aJ;show(List.toArray _).size≤z.length;rw[zx,wx,vg];show _≤z.cps.size
    have:z.cps.toList.length=z.cps.size:=by simp
    omega
   rw[e];exact{qg d o,.str _,H,I.tok _,{_,Y},q}
 cases n <;> cases m
 ·exact a none none rfl rfl hs
 ·exact a none (some (_,_)) rfl rfl hs
 ·exact a (some (_,_)) none rfl rfl hs
 ·exact a (some (_,_)) (some (_,_)) rfl rfl hs
end
def FF:V->Str
 |.str z=>z
 |.int i=>toString i
 |_=>""
section
variable {X:Cx}
inductive nE(xs:List V)(H:Hp)(Q:VK):Prop
 |mk(x:_)(_:xs=[x])(_:((∃z,x=.str z)\/∃i:Int,x=.int i/\i.natAbs.log2<1920))(_:Q (.str (FF x)) H)
def pq:cu X (.type "str") nE:=by
 intro pins s σ H xs c Q I r h;obtain⟨x,rfl,b,q⟩:=h;obtain⟨u,rfl,a⟩:=vals1 r;rcases b with⟨z,rfl⟩|⟨i,rfl,hi⟩
 ·obtain⟨t,rfl⟩:=a
  exact PySem.P.str_of_str {.str z,H,I,{t,Y},q}
 ·obtain⟨t,rfl⟩:=a
  exact PySem.P.str_of_int hi {.str _,H,I.tok _,{_,Y},q}
end
def tK{fr:List (Str×Nat)}(w:xs.length≤sizeLine)(d:Nat->List V->Hp->Prop)(v:d 0 [] H)(hl:∀i ys H,d i ys H->aI H a xs)(hs:∀i x ys H' (k:V->Hp->Prop) (l:Hp->Prop),xs[i]?=some x->d i ys H'->(∀y j,d (i+1) (ys++[y]) j->k y j)->(∀f,d (i+1) ys f->l f) →
   g x (bD own fr σ) H' λh H2=>tt h H2 λb f=>if b=true then te h f k else l f)(u:∀H' p ys,d xs.length ys H'->ys.length≤xs.length->H' p=none->Q (.ref p) (upd H' p (.lst ys))):uH own fr g tt te σ Q (Nr a) H:=by
 refine{λi m ys H=>m=xs.length - i/\i≤xs.length/\ys.length≤i/\d i ys H,{xs.length,by simp,Nat.zero_le _,Nat.zero_le _,v},?_};rintro i m ys H ⟨rfl,hi,s,p⟩
 by_cases c:i<xs.length
 ·refine .inr {{xs,xs[i],hl _ _ H p,by simp[c]},(),λx H' y=>?_}
  obtain⟨rfl,y⟩:=y;have n:=y xs (hl _ _ _ p)
  refine hs i x ys H' _ _ n p (λy j o=>{xs.length - (i+1),(),Y,c,?_,o}) λf t=>{xs.length - (i+1),(),Y,c,(),t}
  rw[qu,zy];omega
 ·have e:i=xs.length:=()
  subst e;exact .inl {{xs,hl _ _ H p,qi _},λq r=>u H q ys p s r}
end L2
set_option maxHeartbeats 40000000
namespace L2
open PySem PySem.Spec PyProof.Rows
mutual
inductive DT(H:Hp):V->PyData->Prop
 |a':DT H .a' .none
 |bl (b:Bool):DT H (.bl b) (.bool b)
 |int (i:Int):DT H (.int i) (.int i)
 |str (z:Str):DT H (.str z) (.str z)
 |tup {p:Addr} {xs:List V} {ds:List PyData}:H p=some (.tup xs)->c8 H xs ds->DT H (.ref p) (.tuple ds)
inductive c8(H:Hp):List V->List PyData->Prop
 |nil:c8 H [] []
 |cons {x:V} {xs:List V} {d:PyData} {ds:List PyData}:DT H x d->c8 H xs ds->c8 H (x::xs) (d::ds)
end
mutual
theorem DT.same(e:ag H H'):∀{x:V} {d:PyData},DT H x d->DT H' x d
 |_,_,.a'=>.a'
 |_,_,.bl b=>.bl b
 |_,_,.int i=>.int i
 |_,_,.str z=>.str z
 |_,_,.tup h t=>.tup (e _ _ h) (c8.same e t)
theorem c8.same(e:ag H H'):∀{xs:List V} {ds:List PyData},c8 H xs ds->c8 H' xs ds
 |_,_,.nil=>.nil
 |_,_,.cons h t=>.cons (DT.same e h) (c8.same e t)
end
mutual
theorem DT.dv:∀{x:V} {d:PyData},DT H x d->DV H x d
 |_,_,.a'=>.a'
 |_,_,.bl b=>.bl b
 |_,_,.int i=>.int i
 |_,_,.str z=>.str z
 |_,_,.tup h t=>.tup (aI.of h) (c8.dv t)
theorem c8.dv:∀{xs:List V} {ds:List PyData},c8 H xs ds->oa H xs ds
 |_,_,.nil=>.nil
 |_,_,.cons h t=>.cons (DT.dv h) (c8.dv t)
end
section
variable {H:Hp}
def d_(h:DT H v (.str z)):v=.str z:=by cases h;rfl
def Mo(h:DT H v (.int i)):v=.int i:=by cases h;rfl
def IE(h:DT H v .none):v=.a':=by cases h;rfl
def J1(h:DT H v (.bool b)):v=.bl b:=by cases h;rfl
def iT(h:DT H v (.tuple ds)):∃p xs,v=.ref p/\H p=some (.tup xs)/\c8 H xs ds:=by
 cases h with
 |tup a b=>exact{_,_,Y,a,b}
theorem mH:∀{xs:List V} {ds:List PyData},c8 H xs ds->xs.length=ds.length
 |_,_,.nil=>rfl
 |_,_,.cons _ t=>by rw[zi,zi,mH t]
theorem DA:∀{xs:List V} {ds:List PyData} {i:Nat} {x:V},c8 H xs ds->xs[i]?=some x->∃d,ds[i]?=some d/\DT H x d
 |_,_,0,_,.cons h _,e=>by cases e;exact{_,Y,h}
 |_,_,i+1,_,.cons _ t,e=>by
  obtain⟨d,a,b⟩:=DA (i:=i) t (by simpa using e);exact{d,by simpa using a,b}
end
def tup_ne{H:Hp}{a b:Addr}{xs:List V}{o:HO}(d:H a=some (.tup xs))(c:H b=some o)(f:∀ys,o≠.tup ys):a≠b:=λe=>by
 subst e;rw[d]at c;exact f xs (qD c).symm
mutual
theorem DT.wr{H:Hp}{a:Addr}{o o':HO}(e:H a=some o)(c:∀ys,o≠.tup ys):∀{x:V} {d:PyData},DT H x d->DT (upd H a o') x d
 |_,_,.a'=>.a'
 |_,_,.bl b=>.bl b
 |_,_,.int i=>.int i
 |_,_,.str z=>.str z
 |_,_,.tup h t=>.tup (by rw[aP (tup_ne h e c)];exact h) (c8.wr e c t)
theorem c8.wr(e:H a=some o)(b:∀ys,o≠.tup ys):∀{xs:List V} {ds:List PyData},c8 H xs ds->c8 (upd H a o') xs ds
 |_,_,.nil=>.nil
 |_,_,.cons h t=>.cons (DT.wr e b h) (c8.wr e b t)
end
theorem c8.snoc:∀{xs:List V} {ds:List PyData},c8 H xs ds->DT H x d->c8 H (xs++[x]) (ds++[d])
 |_,_,.nil,h=>.cons h .nil
 |_,_,.cons a t,h=>.cons a (c8.snoc t h)
def a8(z:Str):Prop:=0<z.cps.size/\z.cps.size≤8/\∀c∈z.cps.toList,97≤c/\c≤122
def eC(ws:List Str)(ds:List PyData):Prop:=∃w n,ds=[.str w,.int n]/\w∈ws/\1≤n/\n≤1000000
def dr(ws:List Str)(ds:List PyData):Prop:=ds=[.str "",.int 0]\/eC ws ds
def nh(ws:List Str)(ds:List PyData):Prop:=∃w n i,ds=[.str w,.int n,.int i]/\w∈ws/\1≤n/\n≤1000000/\0≤i/\i≤1000000
def gG(ws:List Str)(d:PyData):Prop:=∃ds z,d=.tuple [.tuple ds,.str z]/\nh ws ds/\(z = "ahead" \/ z = "behind")
def iD(ws:List Str)(d:PyData):Prop:=(∃c,d=.str {#[c]}/\c∈("abcdefghijklmnopqrstuvwxyz .,":Str).cps.toList)\/(∃z,d=.tuple [.str "picture",.str z]/\a8 z)\/∃ds,d=.tuple [.str "refer",.tuple ds]/\dr ws ds
def xO(ws:List Str)(d:PyData):Prop:=d=.none\/∃w z,d=.tuple [.str w,.str z]/\w∈ws/\a8 z
def GX(P:List PyData->Prop)(d:PyData):Prop:=d=.none\/∃n,d=.tuple n/\P n
def PV(d:PyData):Prop:=d=.none\/∃z,d=.str z/\a8 z
inductive bY(ws:List Str)(num:Int):List PyData->Prop
 |nothing:bY ws num [.str "nothing"]
 |part (p:List PyData):dr ws p->bY ws num [.str "part",.tuple p]
 |move (n p:List PyData):eC ws n->dr ws p->bY ws num [.str "move",.tuple n,.tuple p]
 |cut (n:List PyData):eC ws n->bY ws num [.str "cut",.tuple n]
 |put (p:List PyData) (b:PyData) (sg:List PyData):dr ws p->GX (nh ws) b->1≤sg.length->sg.length≤12->(∀d∈sg,iD ws d)->bY ws num [.str "put",.tuple p,b,.tuple sg]
 |out (p:List PyData) (ns:List (List PyData)):dr ws p->1≤ns.length->ns.length≤12->(∀n∈ns,nh ws n)->ns.Nodup->bY ws num [.str "out",.tuple p,.tuple (ns.map .tuple)]
 |mark (p:List PyData) (s1 s2:PyData) (z:Str) (v:PyData):dr ws p->gG ws s1->gG ws s2->a8 z->PV v->bY ws num [.str "mark",.tuple p,s1,s2,.str z,v]
 |note (p:List PyData) (s1 s2:PyData) (z:Str):dr ws p->gG ws s1->gG ws s2->a8 z->bY ws num [.str "note",.tuple p,s1,s2,.str z]
 |line (p:List PyData) (z:Str) (v:PyData):dr ws p->z = "row" \/ z = "column"->GX (eC ws) v->bY ws num [.str "line",.tuple p,.str z,v]
 |lW (p n:List PyData):dr ws p->eC ws n->bY ws num [.str "strike",.tuple p,.tuple n]
 |cell (p a b:List PyData) (z:Str):dr ws p->eC ws a->eC ws b->z = "" \/ a8 z->bY ws num [.str "cell",.tuple p,.tuple a,.tuple b,.str z]
 |leave (p:List PyData) (w t:Str) (y:Bool):dr ws p->w∈ws->t∈(["read","note","write","give"]:List Str)->bY ws num [.str "leave",.tuple p,.str w,.str t,.bool y]
 |back (k:Str) (n:Int):k = "back" \/ k = "again"->1≤n->n<num->bY ws num [.str k,.int n]
 |jF (k:Str) (z:Str):k = "bring" \/ k = "drop"->a8 z->bY ws num [.str k,.str z]
 |lO (cs:List Int):cs.length=ws.length->(∀c∈cs,0≤c/\c≤1000000)->bY ws num [.str "pour",.tuple (cs.map .int)]
def hE(h:a8 z):z≠"":=λe=>by
 have:=h.1;rw[e]at this;exact absurd this ⋯
def bK(h:a8 z):z.length≤8:=h.2.1
def mi(h:a8 z):PyData.strOk z=true:=by
 unfold PyData.strOk;rw[←Array.all_toList,zk];intro c a;have:=h.2.2 c a;exact qs ()
mutual
def nA:PyData->Bool
 |.none=>true
 |.bool _=>false
 |.int _=>true
 |.str _=>true
 |.list xs=>oV xs
 |.tuple xs=>oV xs
 |.dict _=>false
def oV:List PyData->Bool
 |[]=>true
 |x::xs=>nA x&&oV xs
end
mutual
theorem tZ:∀(a b:PyData),nA a=true->nA b=true->(PyData.eqv a b=true↔a=b)
 |.list xs,b,ha,hb=>by
  cases b with
  |list ys =>
   have:=AD xs ys (by simpa[nA] using ha) (by simpa[nA] using hb)
   simp only[PyData.eqv,this,PyData.list.injEq]
  |_=>simp[PyData.eqv]
 |.tuple xs,b,ha,hb=>by
  cases b with
  |tuple ys =>
   have:=AD xs ys (by simpa[nA] using ha) (by simpa[nA] using hb)
   simp only[PyData.eqv,this,PyData.tuple.injEq]
  |_=>simp[PyData.eqv]
 |.dict _,_,ha,_=>by simp[nA]at ha
 |.bool _,_,ha,_=>by simp[nA]at ha
 |.none,b,_,hb=>by cases b <;> simp_all [PyData.eqv,nA]
 |.int i,b,_,hb=>by cases b <;> simp_all [PyData.eqv,nA]
 |.str i,b,_,hb=>by cases b <;> simp_all [PyData.eqv,nA]
theorem AD:∀(xs ys:List PyData),oV xs=true->oV ys=true->(PyData.eqvAll xs ys=true↔xs=ys)
 |[],ys,_,_=>by cases ys <;> simp[PyData.eqvAll]
 |x::xs,ys,ha,hb=>by
  cases ys with
  |nil=>simp[PyData.eqvAll]
  |cons y ys =>
   rw[oV,qv]at ha hb;have h1:=tZ x y ha.1 hb.1;have h2:=AD xs ys ha.2 hb.2
   simp only[PyData.eqvAll,Bool.and_eq_true,h1,h2,List.cons.injEq]
end
theorem EB:∀{xs:List PyData},(∀x∈xs,x.canLay0=true)->PyData.canLayAll0 xs=true
 |[],_=>rfl
 |x::xs,h=>by
  show(x.canLay0&&PyData.canLayAll0 xs)=true;rw[h x qo,EB λy a=>h y (ql _ a)];rfl
def NQ{ds:List PyData}{d:PyData}(h:∀x∈ds,nA x=true)(a:nA d=true):(ds.any λx=>PyData.eqv x d)=true↔d∈ds:=by
 rw[j1];constructor
 ·rintro⟨x,b,e⟩
  rw[←(tZ x d (h x b) a).mp e];exact b
 ·intro hm
  exact{d,hm,(tZ d d a a).mpr rfl}
def nh.plain(hw:∀w∈ws,a8 w)(h:nh ws ds):nA (.tuple ds)=true/\(PyData.tuple ds).canLay0=true/\(PyData.tuple ds).depth=1:=by
 obtain⟨w,n,i,rfl,m,_⟩:=h;refine{Y,?_,Y};show(PyData.strOk w&&(true&&(true&&true)))=true;rw[mi (hw w m)];rfl
def IF(h1:1≤b)(h2:b≤12)(a:1≤xs.length):1≤(bR xs none (some b)).length/\(bR xs none (some b)).length≤12:=by
 obtain⟨k,rfl⟩:=Int.eq_ofNat_of_zero_le (by omega:0≤b);unfold bR;rw[HT.cL,HT.cG,yd,wx];omega
def Nk{xs:List V}{k:Nat}(h:k≤xs.length):(bR xs none (some (k:Int))).length=k:=by
 unfold bR;rw[HT.cL,HT.cG,yd,wx];omega
theorem ib(H:Hp):∀cs:List Int,c8 H (cs.map V.int) (cs.map .int)
 |[]=>.nil
 |c::cs=>.cons (.int c) (ib H cs)
def Cb{c:Type}{l:List c}{x:c}(h:l.Nodup)(f:x∉l):(l++[x]).Nodup :=
 List.nodup_append.mpr {h,wf.mpr {λz=>(List.not_mem_nil z).elim,vy},λa d b g e=>f (by rw[zh.mp g]at e;rw[←e];exact d)}
end L2
namespace L2
open PySem PySem.Spec PySem.W PyProof.Rows
section
variable {P:Program}{w:World}{A:Around}{E:Value->Shared->Prop}{s:Shared}
def Ik(P:Program)(w:World)(h:Heap)(ks b:List Key)(a:Addr):Prop:=∃o c d n,h.get? a=some o/\o.cls=.type "tuple" /\ o.data=.seq #[.ref c,.ref d] n/\(tupleKind (ay P w)).is h ks c/\(tupleKind (ay P w)).is h b d
def Te(P:Program)(w:World)(h:Heap):KD->Value->Prop
 |.a',v=>v=.none
 |.int i,v=>∃t,v=.int i t
 |.tup ks,v=>∃a,v=.ref a/\(tupleKind (ay P w)).is h ks a
 |.two ks ls,v=>∃a,v=.ref a/\Ik P w h ks ls a
def Qb(x:ItemsAre (ay P w) ks vs):ItemsAre (ay b a) ks vs:=by
 induction x with
 |nil=>exact .nil
 |cons h _ c=>exact .cons h c
def LR(x:(tupleKind (ay P w)).is h ks a):(tupleKind (ay f c)).is h ks a:=by
 obtain⟨o,b,n,h1,h2,d,e⟩:=x;exact{o,b,n,h1,h2,d,Qb e}
def Qt(f:A.units<cLine)(x:(tupleKind (ay P w)).is s.heap ks a)(y:(tupleKind (ay P w)).is s.heap c b):SeqAt.EqAt A s (.ref a) (.ref b) (decide (ks=c)):=λe d E Q q=>(tupleKind (ay e d)).eqBool f (LR x) (LR y) q
def I_(i:(tupleKind (ay P w)).is s.heap ks a)(h:Q true s):wpAny (model P w) A (eqIsQuiet (m+1) (.ref a)) Q E s:=by
 obtain⟨o,items,n,f,g,j,hi⟩:=i;have e:s.TypeIs (.ref a) "tuple":={o,f,g};unfold eqIsQuiet;refine qc (wpAny_specialOf e F.slot_tuple_eq.lookup ?_);show wpAny _ _ (isInstance (.ref a) (.type "tuple") >>= _) _ _ s;refine qc (wpAny_isInstance e isSubtype_tuple_tuple ?_)
 simp only[Bool.not_true,Bool.false_eq_true,if_false]
 refine qc (wpAny_seqItems f j ?_);refine qc ?_;show wpAny _ _ (forIn items _ _) _ _ s;rw[←j2];refine wpAny_forIn_list _ (λrest r s'=>r.1=none/\s'=s/\∀v∈rest,carriedByValue v=true) _ ?_ ?_ _ _ {Y,Y,hi.byValue}
 ·rintro v rest r s' ⟨c,rfl,b⟩
  rw[eqIsQuiet_byValue _ (b v qo)];refine qc (qA ?_)
  simp only[Bool.not_true,Bool.false_eq_true,if_false]
  exact qA {Y,Y,λu d=>b u (ql _ d)}
 ·rintro⟨k,l⟩ s' ⟨c,rfl,_⟩
  simp only at c
  subst c;exact qA h
end
section
variable {X:Cx}{pins:List (Addr×Obj)}{σ:St}{H:Hp}{s:Shared}{a:Addr}{y v:V}{u r:Value}{k:KD}{kvs:List (KD×V×V)}{A:Around}{E:Value->Shared->Prop}
def GK.is(I:Inv X pins σ H s)(g:GK H k y)(a:RelV y u):Te X.prog X.w s.heap k u:=by
 cases k with
 |a'=>cases g;exact a
 |int i=>cases g;exact a
 |tup ks =>
  obtain⟨b,rfl,e⟩:=g;exact{b,a,pJ I.bP e}
 |two ks z =>
  obtain⟨b,c,d,rfl,e,l,t⟩:=g;obtain⟨h,m,⟨o,r,j,n,p⟩,_⟩:=I.tuple (aI.of e);obtain⟨x,v,rfl,f,q⟩:=m.two;cases f;cases q;exact{b,a,o,c,d,n,r,j,p,pJ I.bP l,pJ I.bP t}
end
def TM(a:cg k A):A.units+4<cLine:=by have:=a.units;omega
def rK(K:PySem.W.Frag)(x:Str):Addr:=match tabIn K x with
 |some (_,P)=>P
 |none=>0
def QN(K:PySem.W.Frag)(x:Str):Addr:=match tabIn K x with
 |some (c,_)=>c
 |none=>0
section
variable {X:Cx}{tg:Expr}
inductive II(x y:V)(H:Hp)(Q:VK):Prop
 |mk(a b xs ys:_)(_:x=.ref a)(_:y=.ref b)(_:H a=some (.tup xs))(_:H b=some (.tup ys))(_:xs≠[])(_:xs.length+ys.length≤sizeLine)(_:∀p H',ag H H'->H' p=some (.tup (xs++ys))->Q (.ref p) H')
def N0:df X (binaryOp .Add) II:=Jq.imp λ_ _ H _ ⟨a,b,xs,ys,h1,h2,c,d,f,h6,q⟩=>{a,b,xs,ys,h1,h2,aI.of c,aI.of d,f,h6,λz=>q a H (ag.refl _) (by rw[z,yh];exact c),λ_ p e=>q p _ (ag.new e) aN}
end
def QC(t u:TS):TS:=λD σ H=>∃P:St->Hp->Prop,t { D with nx:=P } σ H/\∀σ' H',P σ' H'->u D σ' H'
section
variable {X:Cx}{st:Stmt}{rest:List Stmt}{t u:TS}
def lN(h1:PS X st t)(h2:kx X rest u):kx X (st::rest) (QC t u):=by
 refine{?_};intro pins s σ H D I h;obtain⟨P,h,k⟩:=h;refine wpAny_execs_cons (bq (h1 pins s σ H { D with nx:=P } I h) λf a q=>?_)
 cases f with
 |next =>
  obtain⟨σ',H',b,q⟩:=q;exact h2 pins a σ' H' D b (k σ' H' q)
 |ret v=>exact q
 |brk=>exact q
 |cont=>exact q
end
def rg(Ps:List Addr)(M:Addr->Option (List V))(H:Hp):Prop:=∀b,(b∈Ps/\H b=some (.mF #[]))\/(b∉Ps/\∃xs,M b=some xs/\H b=some (.tup xs))\/(b∉Ps/\M b=none/\(H b=none\/∃o xs,H b=some (.m_ o (.lst xs))))
def qW(K:PySem.W.Frag):Bool:=K.all λp=>match p.2.cls,p.2.data with
 |.type t,.seq ..=>!(t=="list")
 |_,_=>true
def NO{K:PySem.W.Frag}{a:Addr}{b:Array Value}{n:Nat}(h:qW K=true)(e:K.lookup a=some { cls:=.type "list",data:=.seq b n }):False:=by
 have:=zk.mp h _ (PySem.W.mem_of_lookupK e);have h2:(!(("list":String)=="list"))=true:=this;exact absurd h2 ⋯
section
variable {prog:Program}{w:World}{A:Around}{E:Value->Shared->Prop}{s:Shared}
def Gw{it t:Addr}(a:s.heap.IsTupleIter it t i)(f:s.heap.IsTuple t items)(h:items[i]?=some x)(j:∀h',h'.IsTupleIter it t (i+1)->Heap.SameBut it s.heap h'->Q x { s with heap:=h' }):wpAny (model prog w) A (Builtin.SmallTypes.nextOf (.ref it)) Q E s:=by
 obtain⟨⟨o,c,g,b⟩,⟨l,d,_,k,e⟩⟩:=And.intro (id a) f;unfold Builtin.SmallTypes.nextOf;refine qc (wpAny_callSpecial?_slot a.typeIs F.slot_tuple_iterator_next (qI F.slot_tuple_iterator_next a.typeIs F.entry_tuple_iterator_next ?_ (F.args_tuple_iterator_next_1 _)));show wpAny _ _ (field (.ref it) 0 >>= _) _ _ s;refine qc (wpAny_field c b (x:=.ref t) rfl ?_);show wpAny _ _ (if(Value.ref t==Value.none)=true then _ else _) _ _ s;rw[qq (λz:(Value.ref t==Value.none)=true=>zg z)];show wpAny _ _ (field (.ref it) 1 >>= _) _ _ s;refine qc (wpAny_field c b (x:=.int i 0) rfl ?_);show wpAny _ _ (seqItems? (.ref t) >>= _) _ _ s;refine qc (wpAny_seqItems d e ?_)
 simp only[Int.toNat_natCast,h]
 refine qc (wpAny_setField c b (by simp) (qA {x,Y,qA (j _ {_,Heap.get?_update_self _ c (Obj.isFreed_of_fields (Obj.data_mapFields b _)),(Obj.cls_mapFields ..).trans g,?_} (Heap.SameBut.update ..))}));rw[Obj.data_mapFields b]
 simp[rawInt]
def RD{it t:Addr}(j:A.handled=none)(b:s.heap.IsTupleIter it t i)(h:s.heap.IsTuple t items)(l:items[i]?=none)(k:∀h' e,Heap.ExtBut it s.heap h'->(∃o,h'.get? e=some o/\o.cls=.type "StopIteration")->E (.ref e) { s with heap:=h' }):wpAny (model prog w) A (Builtin.SmallTypes.nextOf (.ref it)) Q E s:=by
 obtain⟨⟨o,d,n,f⟩,⟨q,c,_,p,g⟩⟩:=And.intro (id b) h;unfold Builtin.SmallTypes.nextOf;refine qc (wpAny_callSpecial?_slot b.typeIs F.slot_tuple_iterator_next (qI F.slot_tuple_iterator_next b.typeIs F.entry_tuple_iterator_next ?_ (F.args_tuple_iterator_next_1 _)));show wpAny _ _ (field (.ref it) 0 >>= _) _ _ s;refine qc (wpAny_field d f (x:=.ref t) rfl ?_);show wpAny _ _ (if(Value.ref t==Value.none)=true then _ else _) _ _ s;rw[qq (λz:(Value.ref t==Value.none)=true=>zg z)];show wpAny _ _ (field (.ref it) 1 >>= _) _ _ s;refine qc (wpAny_field d f (x:=.int i 0) rfl ?_);show wpAny _ _ (seqItems? (.ref t) >>= _) _ _ s;refine qc (wpAny_seqItems c g ?_)
 simp only[Int.toNat_natCast,l]
 refine qc (wpAny_rule (qc (wpAny_setField d f (by simp) ?_)));show wpAny _ _ (newExc (.type "StopIteration") [] >>= _) _ _ _;refine qc ?_
 simp only[newExc,newTuple]
 refine qc (wpAny_newObj_type (qc (m:=firstArgMember _ _) (wpAny_of_eq (a:=Value.none) (by first|rfl|(simp only[firstArgMember];rfl)) (wpAny_newObj_type ?_ (by size_fits)))) (by size_fits))
 simp only[raiseNew]
 refine qc (wpAny_handled ?_);rw[show A.in1.handled=none from j];refine qc (qA (wpAny_throw (k _ _ (((Heap.SameBut.update ..).extBut.push _).push _) {_,qF _ rfl,Y})))
def E_(g:A.handled=none)(it t:Addr)(c:t≠it)(items:Array Value):Draws prog w A it [it,t] items.size (λi v=>items[i]?=some v) (λi h=>h.IsTupleIter it t i/\h.IsTuple t items) where
 live:=λ_ _ ⟨⟨o,d,_⟩,_⟩=>{o,d}
 frame:=λ_ _ _ ⟨⟨o,d,r⟩,⟨f,e,l⟩⟩ k=>{{o,k it qo o d,r},{f,k t (ql _ qo) f e,l}}
 item:=λi s Q E hi st m=>Gw st.1 st.2 (x:=items[i]) (zv hi) λh' a b=>m _ h' s.toks (zv hi) {a,st.2.extBut b.extBut c} b
 done:=λs Q E st j=>RD g st.1 st.2 (by simp) j
structure GW(z TI TO i1 i2:Addr)(f1 f2:List Addr):Prop where
 t1:TI≠z
 t2:TI≠TO
 t3:TI≠i1
 t4:TI≠i2
 o1:TO≠z
 o2:TO≠i1
 o3:TO≠i2
 a1:i1≠z
 a2:i2≠z
 a3:i1≠i2
 g1:∀b∈f1,b≠z/\b≠TO/\b≠i2
 g2:∀b∈f2,b≠z/\b≠TO/\b≠i1
variable {z TI TO i1 i2:Addr}{f1 f2:List Addr}{n1 n2 k1 k2:Nat}{P1 P2:Nat->Value->Prop}{S1 S2:Nat->Heap->Prop}{a b:Value}
def Q7{Q:Value->Shared->Prop}(D:Draws prog w A i1 f1 n1 P1 S1)(F:Draws prog w A i2 f2 n2 P2 S2)(Z:GW z TI TO i1 i2 f1 f2)(m:IsZip s.heap z TI TO .none)(S:IsPair s.heap TI (.ref i1) (.ref i2))(P:IsPair s.heap TO a b)(h1:k1<n1)(h2:k2<n2)(T:S1 k1 s.heap)(M:S2 k2 s.heap)(hQ:∀x y h' tk,P1 k1 x->P2 k2 y->IsZip h' z TI TO (rawInt ↑s)->IsPair h' TO x y->S1 (k1+1) h'->S2 (k2+1) h'->IsPair h' ↑s x y->(∀c o,c≠z->c≠TO->c≠i1->c≠i2->s.heap.get? c=some o->h'.get? c=some o)->Q (.ref ↑s) { s with heap:=h',toks:=tk }) :
  wpAny (model prog w) A (Builtin.«zip.__next__» {[.ref z],[]}) (λH s'=>∃v,H=.done (.ret v)/\Q v s') E s:=by
 show wpAny _ _ (field (.ref z) 2 >>= _) _ _ _;refine qc (wpAny_field m rfl (x:=.bool false) rfl ?_);show wpAny _ _ (field (.ref z) 3 >>= _) _ _ _;refine qc (wpAny_field m rfl (x:=.ref TI) rfl (qc (wpAny_seqItems S rfl ?_)));show wpAny _ _ (Builtin.SmallTypes.ownedTupleIsFree (.ref z) >>= _) _ _ _;refine qc ?_;unfold Builtin.SmallTypes.ownedTupleIsFree;refine qc (wpAny_field m rfl (x:=.none) rfl (qA ?_))
 simp only[if_true]
 refine qc (wpAny_rule (qc (wpAny_field m rfl (x:=.ref TO) rfl (qc (wpAny_setField_rec m (by simp) λH1 i q=>qc ?_)))));have i:IsZip H1 z TI TO .ellipsis:=i
 simp only[List.zipIdx_cons,List.zipIdx_nil,List.forIn_cons,List.forIn_nil]
 refine qc (qc (wpAny_onRaise ?_));show wpAny _ _ (Builtin.SmallTypes.nextOf (.ref i1) >>= _) _ _ _;refine qc (D.item k1 _ _ _ h1 (D.frame _ _ _ T λc d o e=>q.extBut c o (Z.g1 c d).1 e) λx H2 tk px I B=>qA ?_);have C:IsPair H2 TO a b:=B.extBut _ _ Z.o2 (q.extBut _ _ Z.o1 P);refine qc (wpAny_seqItems C rfl (qc (wpAny_updateSeq_pair C λX j r=>qc (wpAny_letGo (qA ?_)))));have j:IsPair X TO x b:=j;refine qc (qc (wpAny_onRaise ?_));show wpAny _ _ (Builtin.SmallTypes.nextOf (.ref i2) >>= _) _ _ _;have L:S2 k2 X:=F.frame _ _ _ M λc d o e=>r.extBut c o (Z.g2 c d).2.1 (B.extBut c o (Z.g2 c d).2.2 (q.extBut c o (Z.g2 c d).1 e));refine qc (F.item k2 _ _ _ h2 L λy H4 tk2 py K u=>qA ?_);have n:IsPair H4 TO x b:=u.extBut _ _ Z.o3 j;refine qc (wpAny_seqItems n rfl (qc (wpAny_updateSeq_pair n λf h p=>qc (wpAny_letGo (qA (qA ?_))))));have h:IsPair f TO x y:=h;refine qc (wpAny_seqItems h rfl (qc (wpAny_newTuple ?_)))
 have sz:f.objs.size=↑s:=by rw[p.1,u.1,r.1,B.1,q.1]
 have t:IsZip f z TI TO .ellipsis:=p.extBut _ _ Z.o1.symm (u.extBut _ _ Z.a2.symm (r.extBut _ _ Z.o1.symm (B.extBut _ _ Z.a1.symm i)));have k5:∀c o,c≠z->c≠TO->c≠i1->c≠i2->s.heap.get? c=some o->f.get? c=some o:=λc o c1 c2 J N e=>p.extBut _ _ c2 (u.extBut _ _ N (r.extBut _ _ c2 (B.extBut _ _ J (q.extBut _ _ c1 e))));have R:S1 (k1+1) f:=D.frame _ _ _ I λc d o e=>p.extBut c o (Z.g1 c d).2.1 (u.extBut c o (Z.g1 c d).2.2 (r.extBut c o (Z.g1 c d).2.1 e));have O:S2 (k2+1) f:=F.frame _ _ _ K λc d o e=>p.extBut c o (Z.g2 c d).2.1 e;have W:z<f.objs.size:=qC t;show wpAny _ _ (Builtin.SmallTypes.ownedTupleHandOut (.ref z) (.ref f.objs.size) >>= _) _ _ _;refine qc ?_;unfold Builtin.SmallTypes.ownedTupleHandOut;have U:IsZip (f.push { cls:=.type "tuple",data:=.seq #[x,y] }) z TI TO .ellipsis:=qE _ t;refine qc (wpAny_setField_rec U (by simp) λH7 k V=>?_);have k:IsZip H7 z TI TO (rawInt f.objs.size):=k;refine wpAny_setField_rec k (by simp) λG g b8=>?_;have g:IsZip G z TI TO (rawInt f.objs.size):=g;have up:∀c o,c≠z->f.get? c=some o->G.get? c=some o:=λc o c1 e=>b8.extBut _ _ c1 (V.extBut _ _ c1 (qE _ e));have l:IsPair G f.objs.size x y:=b8.extBut _ _ (wb W) (V.extBut _ _ (wb W) (qF _ rfl));rw[sz]at g l;refine qA {_,Y,?_};show Q (.ref f.objs.size) _;rw[sz];exact hQ x y G _ px py g (up _ _ Z.o1 h) (D.frame _ _ _ R λc d o e=>up c o (Z.g1 c d).1 e) (F.frame _ _ _ O λc d o e=>up c o (Z.g2 c d).1 e) l λc o c1 c2 J N e=>up c o c1 (k5 c o c1 c2 J N e)
def N4(y:Draws prog w A i1 f1 n1 P1 S1)(L:Draws prog w A i2 f2 n2 P2 S2)(Z:GW z TI TO i1 i2 f1 f2)(j:IsZip s.heap z TI TO .none)(G:IsPair s.heap TI (.ref i1) (.ref i2))(F:IsPair s.heap TO a b)(m:k1=n1\/(k1<n1/\k2=n2))(H:S1 k1 s.heap)(C:S2 k2 s.heap)(K:∀h' tk e,(∀c o,c≠z->c≠TO->c≠i1->c≠i2->s.heap.get? c=some o->h'.get? c=some o)->(∃o,h'.get? e=some o/\o.cls=.type "StopIteration")->E (.ref e) { s with heap:=h',toks:=tk }) :
  wpAny (model prog w) A (Builtin.«zip.__next__» {[.ref z],[]}) Q E s:=by
 show wpAny _ _ (field (.ref z) 2 >>= _) _ _ _;refine qc (wpAny_field j rfl (x:=.bool false) rfl ?_);show wpAny _ _ (field (.ref z) 3 >>= _) _ _ _;refine qc (wpAny_field j rfl (x:=.ref TI) rfl (qc (wpAny_seqItems G rfl ?_)));show wpAny _ _ (Builtin.SmallTypes.ownedTupleIsFree (.ref z) >>= _) _ _ _;refine qc ?_;unfold Builtin.SmallTypes.ownedTupleIsFree;refine qc (wpAny_field j rfl (x:=.none) rfl (qA ?_))
 simp only[if_true]
 refine qc (wpAny_rule (qc (wpAny_field j rfl (x:=.ref TO) rfl (qc (wpAny_setField_rec j (by simp) λH1 g k=>qc ?_)))));have g:IsZip H1 z TI TO .ellipsis:=g
 simp only[List.zipIdx_cons,List.zipIdx_nil,List.forIn_cons,List.forIn_nil]
 refine qc (qc (wpAny_onRaise ?_));show wpAny _ _ (Builtin.SmallTypes.nextOf (.ref i1) >>= _) _ _ _;have l:S1 k1 H1:=y.frame _ _ _ H λc p o e=>k.extBut c o (Z.g1 c p).1 e;rcases m with e1|⟨h1,e2⟩
 ·subst e1
  refine qc (y.done _ _ _ l λH2 e I m=>?_);obtain⟨u,d,f⟩:=m;have i:IsZip H2 z TI TO .ellipsis:=I _ _ Z.a1.symm g
  have ne:e≠z:=λx=>by subst x;rw[i]at d;cases d;simp at f
  exact wpAny_setField_rec i (by simp) λD _ h=>K D _ e (λc o c1 _ v _ q=>h.extBut _ _ c1 (I _ _ v (k.extBut _ _ c1 q))) {u,h.extBut _ _ ne d,f}
 ·subst e2
  refine qc (y.item k1 _ _ _ h1 l λx H2 tk T O t=>qA ?_);have r:IsPair H2 TO a b:=t.extBut _ _ Z.o2 (k.extBut _ _ Z.o1 F);refine qc (wpAny_seqItems r rfl (qc (wpAny_updateSeq_pair r λD P h=>qc (wpAny_letGo (qA ?_)))));refine qc (qc (wpAny_onRaise ?_));show wpAny _ _ (Builtin.SmallTypes.nextOf (.ref i2) >>= _) _ _ _;have B:S2 k2 D:=L.frame _ _ _ C λc p o e=>h.extBut c o (Z.g2 c p).2.1 (t.extBut c o (Z.g2 c p).2.2 (k.extBut c o (Z.g2 c p).1 e));refine qc (L.done _ _ _ B λN e M m=>?_);obtain⟨u,d,f⟩:=m;have n:IsZip N z TI TO .ellipsis:=M _ _ Z.a2.symm (h.extBut _ _ Z.o1.symm (t.extBut _ _ Z.a1.symm g))
  have ne:e≠z:=λx=>by subst x;rw[n]at d;cases d;simp at f
  exact wpAny_setField_rec n (by simp) λR _ J=>K R _ e (λc o c1 c2 v S q=>J.extBut _ _ c1 (M _ _ S (h.extBut _ _ c2 (t.extBut _ _ v (k.extBut _ _ c1 q))))) {u,J.extBut _ _ ne d,f}
def Ro(n:Draws prog w A.in1 i1 f1 n1 P1 S1)(p:Draws prog w A.in1 i2 f2 n2 P2 S2)(Z:GW z TI TO i1 i2 f1 f2)(h:IsZip s.heap z TI TO .none)(d:IsPair s.heap TI (.ref i1) (.ref i2))(g:IsPair s.heap TO a b)(h1:k1<n1)(h2:k2<n2)(e:S1 k1 s.heap)(f:S2 k2 s.heap)(t:∀x y h' tk,P1 k1 x->P2 k2 y->IsZip h' z TI TO (rawInt ↑s)->IsPair h' TO x y->S1 (k1+1) h'->S2 (k2+1) h'->IsPair h' ↑s x y->(∀c o,c≠z->c≠TO->c≠i1->c≠i2->s.heap.get? c=some o->h'.get? c=some o)->Q (some (.ref ↑s)) { s with heap:=h',toks:=tk }) :
  wpAny (model prog w) A (pyNext (.ref z)) Q E s:=by
 have i:s.TypeIs (.ref z) "zip":={_,h,Y};unfold pyNext;exact qc (wpAny_attempt (wpAny_callSpecial?_slot i F.slot_zip_next (qI F.slot_zip_next i F.entry_zip_next (Q7 n p Z h d g h1 h2 e f λx y h' tk p1 p2 q k j r l m=>qA (t x y h' tk p1 p2 q k j r l m)) (F.args_zip_next_1 _))))
def P'(n:Draws prog w A.in1 i1 f1 n1 P1 S1)(p:Draws prog w A.in1 i2 f2 n2 P2 S2)(Z:GW z TI TO i1 i2 f1 f2)(i:IsZip s.heap z TI TO .none)(d:IsPair s.heap TI (.ref i1) (.ref i2))(h:IsPair s.heap TO a b)(m:k1=n1\/(k1<n1/\k2=n2))(f:S1 k1 s.heap)(g:S2 k2 s.heap)(q:∀h' tk,(∀c o,c≠z->c≠TO->c≠i1->c≠i2->s.heap.get? c=some o->h'.get? c=some o)->Q none { s with heap:=h',toks:=tk }) :
  wpAny (model prog w) A (pyNext (.ref z)) Q E s:=by
 have j:s.TypeIs (.ref z) "zip":={_,i,Y};unfold pyNext;refine qc (wpAny_attempt (wpAny_callSpecial?_slot j F.slot_zip_next (qI F.slot_zip_next j F.entry_zip_next (N4 n p Z i d h m f g λh' tk e k ⟨o,r,l⟩=>?_) (F.args_zip_next_1 _))));exact qc (wpAny_isInstance (T:="StopIteration") (b:=true) {o,r,l} isSubtype_stop (qA (q h' tk k)))
end
abbrev Dj(c:String)(l:Addr):Obj:={ cls:=.type c,data:=.fields #[.ref l,.int 0 0] }
abbrev ND(c1:String)(h:Heap)(a:Addr):Heap:=h.push (Dj c1 a)
abbrev NB(c1 c2:String)(h:Heap)(a b:Addr):Heap:=(ND c1 h a).push (Dj c2 b)
abbrev Nz(c1 c2:String)(h:Heap)(a b:Addr):Heap:=(NB c1 c2 h a b).push { cls:=.type "tuple",data:=.seq #[.ref h.objs.size,.ref (ND c1 h a).objs.size] }
abbrev BC(c1 c2:String)(h:Heap)(a b:Addr):Heap:=(Nz c1 c2 h a b).push { cls:=.type "tuple",data:=.seq #[.none,.none] }
abbrev uQ(c1 c2:String)(h:Heap)(a b:Addr):Heap:=(BC c1 c2 h a b).push { cls:=.type "zip",data:=.fields #[.none,.bool false,.bool false,.ref (NB c1 c2 h a b).objs.size,.ref (Nz c1 c2 h a b).objs.size] }
def Qj(a b:Addr)(xs ys:Array Value):Meets (Builtin.«zip.__new__» {[.type "zip",.ref a,.ref b],[]}) (λ_ R s=>s.heap.IsTuple a xs/\s.heap.IsTuple b ys ∧
      R (.ok (.ret (.ref (BC "tuple_iterator" "tuple_iterator" s.heap a b).objs.size))) { s with heap:=uQ "tuple_iterator" "tuple_iterator" s.heap a b }) :=
 .of_wp λprog w A R s h=>by
  obtain⟨e,g,d,tk,f⟩:=s;obtain⟨a1,a2,h⟩:=h;have c:=sub_zip;have i:Heap.IsTuple (Shared.heap ⟨e,g,d,tk,f⟩) a xs:=a1;have j:Heap.IsTuple (Shared.heap ⟨e.push (Dj "tuple_iterator" a),g,d,tk,f⟩) b ys:=Heap.IsTuple.push a2 _
  wp_walk using wpAny_pyIter_tuple i,wpAny_pyIter_tuple j
  exact{_,Y,h}
section
variable {prog:Program}{w:World}{A:Around}{E:Value->Shared->Prop}{s:Shared}
def Sw{c1 c2:String}{R1 R2:Heap->Prop}(M:Meets (Builtin.«zip.__new__» {[.type "zip",.ref a,.ref b],[]}) (λ_ R s=>R1 s.heap/\R2 s.heap/\R (.ok (.ret (.ref (BC c1 c2 s.heap a b).objs.size))) { s with heap:=uQ c1 c2 s.heap a b }))(m:R1 s.heap)(n:R2 s.heap)(h:∀h',IsZip h' (↑s+4) (↑s+2) (↑s+3) .none->IsPair h' (↑s+2) (.ref ↑s) (.ref (↑s+1))->IsPair h' (↑s+3) .none .none →
   h'.get? ↑s=some (Dj c1 a)->h'.get? (↑s+1)=some (Dj c2 b)->(∀c o,s.heap.get? c=some o->h'.get? c=some o)->Q (.ref (↑s+4)) { s with heap:=h' }) :
  wpAny (model prog w) A (call (.type "zip") [.ref a,.ref b]) Q E s:=by
 refine callType_new F.called_zip ⋯ (F.typeCall_zip_2 _ _) (F.newCall_zip_2 _ _) (λobj=>F.args_object_init_3 obj _ _) F.entry_zip_new M {m,n,?_};have z1:(ND c1 s.heap a).objs.size=↑s+1:=Heap.size_push ..
 have z2:(NB c1 c2 s.heap a b).objs.size=↑s+2:=by rw[Heap.size_push,z1]
 have f:(Nz c1 c2 s.heap a b).objs.size=↑s+3:=by rw[Heap.size_push,z2]
 have j:(BC c1 c2 s.heap a b).objs.size=↑s+4:=by rw[Heap.size_push,f]
 have p:∀{h:Heap} {c:Addr} {o o':Obj},h.get? c=some o->(h.push o').get? c=some o:=λe=>qE _ e;have d:(uQ c1 c2 s.heap a b).get? (BC c1 c2 s.heap a b).objs.size=some _:=qF _ rfl;have g:(uQ c1 c2 s.heap a b).get? (Nz c1 c2 s.heap a b).objs.size=some _:=p (qF _ rfl);have i:(uQ c1 c2 s.heap a b).get? (NB c1 c2 s.heap a b).objs.size=some _:=p (p (qF _ rfl));have k:(uQ c1 c2 s.heap a b).get? (ND c1 s.heap a).objs.size=some _:=p (p (p (qF _ rfl)));have l:(uQ c1 c2 s.heap a b).get? ↑s=some _:=p (p (p (p (qF _ rfl))));show _/\_;rw[z2,f,j]at d;rw[z1,z2]at i;rw[f]at g;rw[z1]at k;rw[j];exact{{_,d,Y},h _ d i g l k λc o x=>p (p (p (p (p x))))}
end
def pS(H:Hp)(t:Bool)(a:Addr)(xs:List V):Prop:=match t with|true=>aI H a xs|false=>au H a xs
def oS(t:Bool)(h:Heap)(a:Addr)(xs:Array Value):Prop:=match t with|true=>h.IsTuple a xs|false=>h.IsList a xs
def iS(t:Bool)(h:Heap)(i a:Addr)(k:Nat):Prop:=match t with|true=>h.IsTupleIter i a k|false=>h.IsListIter i a k
def cS(t:Bool):String:=match t with|true=>"tuple_iterator" |false=>"list_iterator"
section
variable {X:Cx}{pins:List (Addr×Obj)}{σ:St}{H:Hp}{s:Shared}
def Inv.oW{t:Bool}(I:Inv X pins σ H s)(h:pS H t a xs):∃b:List Value,aF xs b/\oS t s.heap a b.toArray/\a<↑s:=by
 cases t with
 |false =>
  obtain⟨b,r,p,_⟩:=I.list h;exact{b,r,p.isList,by obtain⟨_,e,_⟩:=p.isList;exact qC e}
 |true =>
  obtain⟨b,r,p,_⟩:=I.tuple h;exact{b,r,p,by obtain⟨_,e,_⟩:=p;exact qC e}
def Inv.mq{t:Bool}(I:Inv X pins σ H s)(h:pS H t a xs)(h':pS H t a ys):xs=ys:=by
 cases t with
 |false=>exact I.jS h h'
 |true=>exact I.k_ h h'
end
def iS.obj{t:Bool}(e:iS t h i a k):∃o,h.get? i=some o/\∀v,o.data≠.cell v:=by
 cases t <;> (obtain⟨o,e,_,d⟩:=e;exact{o,e,λv z=>by rw[d]at z;cases z})
def iS.to{t:Bool}(e:iS t h i a k)(kk:∀o,h.get? i=some o->h'.get? i=some o):iS t h' i a k:=by
 cases t <;> (obtain⟨o,e,r⟩:=e;exact{o,kk o e,r})
def Nn(b:A.handled=none)(t:Bool)(it l:Addr)(a:l≠it)(items:Array Value):Draws prog w A it [it,l] items.size (λi v=>items[i]?=some v) (λi h=>iS t h it l i/\oS t h l items):=by
 cases t with
 |false=>exact Draws.list b it l a items
 |true=>exact E_ b it l a items
def Bx(t1 t2:Bool)(a b:Addr):It :=
 {λi H=>∃xs ys x y,pS H t1 a xs/\pS H t2 b ys/\xs[i]?=some x/\ys[i]?=some y,
  λi H v H'=>∃p x y,H p=none/\(∀xs,pS H t1 a xs->xs[i]?=some x)/\(∀ys,pS H t2 b ys->ys[i]?=some y)/\v=.ref p/\H'=upd H p (.tup [x,y]),
  λi H=>∃xs ys,pS H t1 a xs/\pS H t2 b ys/\i=min xs.length ys.length}
def Oz{P:Program}{w:World}{K:PySem.W.Frag}{es:List Expr}{k:Nat}{tp:Pos}(t1 t2:Bool)(z TI TO i1 i2 a b:Addr)(n1:a≠i1)(n2:b≠i2)(Z:GW z TI TO i1 i2 [i1,a] [i2,b]) :
  Turn P w K (.Tuple es k tp) (Bx t1 t2 a b) [z,TI,TO,i1,i2] z (λi h=>IsZip h z TI TO .none/\IsPair h TI (.ref i1) (.ref i2)/\(∃u v,IsPair h TO u v)/\iS t1 h i1 a i/\iS t2 h i2 b i) where
 mem:=by simp
 obj:=λi h st c d=>by
  obtain⟨h1,h2,⟨u,v,p⟩,t,r⟩:=st
  simp only[List.mem_cons,List.not_mem_nil,or_false]at d
  rcases d with rfl|rfl|rfl|rfl|rfl
  ·exact⟨_,h1,λv z=>by cases z⟩
  ·exact⟨_,h2,λv z=>by cases z⟩
  ·exact⟨_,p,λv z=>by cases z⟩
  ·exact t.obj
  ·exact r.obj
 keep:=λi h h' st kk=>by
  obtain⟨h1,h2,⟨u,v,p⟩,t,r⟩:=st;exact{kk z (by simp) _ h1,kk TI (by simp) _ h2,{u,v,kk TO (by simp) _ p},t.to λo q=>kk i1 (by simp) o q,r.to λo q=>kk i2 (by simp) o q}
 item:=by
  intro X R hw hK d i pins s σ H E I M st U;subst R hw hK;obtain⟨xs,ys,x,y,m,n,hx,hy⟩:=U;obtain⟨g,Q,p1,z1⟩:=I.oW m;obtain⟨f,N,p2,z2⟩:=I.oW n;obtain⟨u1,B,O⟩:=Q.get hx;obtain⟨u2,D,S⟩:=N.get hy;obtain⟨h1,h2,⟨u,v,p⟩,t,r⟩:=st;have C:=I.ok.hd d;have T:=Nn (prog:=X.prog) (w:=X.w) (A:=X.A.in1) C t1 i1 a n1 g.toArray;have V:=Nn (prog:=X.prog) (w:=X.w) (A:=X.A.in1) C t2 i2 b n2 f.toArray
  have l1:i<g.toArray.size:=by have:=(List.getElem?_eq_some_iff.mp B).1;simpa using this
  have l2:i<f.toArray.size:=by have:=(List.getElem?_eq_some_iff.mp D).1;simpa using this
  refine Ro T V Z h1 h2 p l1 l2 {t,p1} {r,p2} λF G h' tk L J a1 a2 a3 a4 a5 a7=>?_
  have e1:F=u1:=by
   have L:g.toArray[i]?=some F:=L;rw[yl,B]at L;exact(qD L).symm
  have e2:G=u2:=by
   have J:f.toArray[i]?=some G:=J;rw[yl,D]at J;exact(qD J).symm
  subst e1 e2;refine{_,Y,wpAny_letOwnedTupleGo_zip (s:={ s with heap:=h',toks:=tk }) a1 λj b1 bs=>?_}
  have I1:Inv X pins σ H { s with heap:=j,toks:=tk }:=I.iX (t':=tk) M λc o d q=>bs.extBut c o (λe=>d (by simp[e])) (a7 c o (λe=>d (by simp[e])) (λe=>d (by simp[e])) (λe=>d (by simp[e])) (λe=>d (by simp[e])) q)
  have zlt:z<↑s:=qC h1;have eT:j.get? ↑s=some { cls:=.type "tuple",data:=.seq #[F,G] }:=bs.extBut _ _ (wb zlt) a5;have nT:H ↑s=none:=I.bP.fresh (qi _);have u4:∀o,h'.get? i1=some o->j.get? i1=some o:=λo q=>bs.extBut _ _ Z.a1 q;have u5:∀o,h'.get? i2=some o->j.get? i2=some o:=λo q=>bs.extBut _ _ Z.a2 q;refine{.ref ↑s,upd H ↑s (.tup [x,y]),I.iH I1 (qi _) nT {?_,[F,G],.cons O (.cons S .nil),{_,eT,Y,_,Y}},Y,{_,x,y,nT,λl hl=>by rw[I.mq hl m];exact hx,λl hl=>by rw[I.mq hl n];exact hy,Y,Y},{b1,?_,{F,G,bs.extBut _ _ Z.o1 a2},a3.1.to u4,a4.1.to u5},λc d=>?_}
  ·show 2≤sizeLine
   decide
  ·exact bs.extBut _ _ Z.t1 (a7 _ _ Z.t1 Z.t2 Z.t3 Z.t4 h2)
  ·obtain⟨o,q⟩:∃o,s.heap.get? c=some o:=by
    simp only[List.mem_cons,List.not_mem_nil,or_false]at d
    rcases d with rfl|rfl|rfl|rfl|rfl
    ·exact⟨_,h1⟩
    ·exact⟨_,h2⟩
    ·exact⟨_,p⟩
    ·obtain⟨o,q,_⟩:=t.obj;exact{o,q}
    ·obtain⟨o,q,_⟩:=r.obj;exact{o,q}
   rw[aP (qp (qC q))];exact(M c d).1
 done:=by
  intro X R hw hK d i pins s σ H E I M st U;subst R hw hK;obtain⟨xs,ys,m,n,hl⟩:=U;obtain⟨g,Q,p1,z1⟩:=I.oW m;obtain⟨f,N,p2,z2⟩:=I.oW n;obtain⟨h1,h2,⟨u,v,p⟩,t,r⟩:=st;have C:=I.ok.hd d;have T:=Nn (prog:=X.prog) (w:=X.w) (A:=X.A.in1) C t1 i1 a n1 g.toArray;have V:=Nn (prog:=X.prog) (w:=X.w) (A:=X.A.in1) C t2 i2 b n2 f.toArray;have e1:=Q.length;have e2:=N.length
  refine P' (k1:=i) (k2:=i) T V Z h1 h2 p ?_ {t,p1} {r,p2} λh' tk kk=>{Y,I.iX (t':=tk) M λc o d q=>kk c o (λe=>d (by simp[e])) (λe=>d (by simp[e])) (λe=>d (by simp[e])) (λe=>d (by simp[e])) q}
  rw[zx,zx];omega
 self:=λ_ _ _ _ _ st h=>wpAny_pyIter_zip st.1 h
def Qa(h1:a<n)(h2:b<n):GW (n+4) (n+2) (n+3) n (n+1) [n,a] [n+1,b]:=by
 have f:a<n:=h1;have e:b<n:=h2;refine{?_,?_,?_,?_,?_,?_,?_,?_,?_,?_,λc d=>?_,λc d=>?_}
 case refine_11 =>
  simp only[List.mem_cons,List.not_mem_nil,or_false]at d
  rcases d with rfl|rfl
  ·exact⟨qp (v0 ⋯),qp (v0 ⋯),qp (v0 ⋯)⟩
  ·exact⟨qp (yw _ f),qp (yw _ f),qp (yw _ f)⟩
 case refine_12 =>
  simp only[List.mem_cons,List.not_mem_nil,or_false]at d
  rcases d with rfl|rfl
  ·exact⟨qp (ya ⋯ n),qp (ya ⋯ n),wb (v0 ⋯)⟩
  ·exact⟨qp (yw _ e),qp (yw _ e),qp e⟩
 ·exact qp (ya ⋯ n)
 ·exact qp (ya ⋯ n)
 ·exact wb (v0 ⋯)
 ·exact wb (ya ⋯ n)
 ·exact qp (ya ⋯ n)
 ·exact wb (v0 ⋯)
 ·exact wb (ya ⋯ n)
 ·exact qp (v0 ⋯)
 ·exact qp (ya ⋯ n)
 ·exact qp (v0 ⋯)
section
variable {X:Cx}
inductive Dr(t1 t2:Bool)(R:It->Hp->Prop)(vs:List V)(H1:Hp):Prop
 |mk(a b:_)(_:vs=[.ref a,.ref b])(_:(∃xs,pS H1 t1 a xs))(_:(∃ys,pS H1 t2 b ys))(_:R (Bx t1 t2 a b) H1)
def r2(t1 t2:Bool)(ta:TA):TI:=λσ H R=>ta σ H λvs H1=>Dr t1 t2 R vs H1
def MA(M:∀d g xs ys,Meets (Builtin.«zip.__new__» {[.type "zip",.ref d,.ref g],[]}) (λ_ R s=>oS t1 s.heap d xs/\oS t2 s.heap g ys/\R (.ok (.ret (.ref (BC (cS t1) (cS t2) s.heap d g).objs.size))) { s with heap:=uQ (cS t1) (cS t2) s.heap d g }))(F:Gl X "zip")(hm:X.mg "zip"=none)(N:PA X [a,b] ta)(hs:starEach [a,b] X.env=(false,eval a X.env)::starEach [b] X.env:=by rfl)(v:(backTo pos (starEach [b] X.env)).any (·.1)=false:=by rfl):PI X (.Tuple es k tp) (.Call (.Name "zip" p) [a,b] [] pos) (r2 t1 t2 ta):=by
 refine{?_};intro pins s σ H R I h;refine Call_ (pN I F hm boot_zip (PyProof.Rows.callWith_type1 (bq (N pos pins s σ H _ I h) λS i ⟨vs,H1,u,C,E⟩=>?_) hs v));obtain⟨d,g,e,⟨xs,x⟩,⟨ys,z⟩,q⟩:=E;subst e;obtain⟨Q,P,rfl,w,y⟩:=C.two;cases w;cases y;obtain⟨m,D,p1,r⟩:=u.oW x;obtain⟨f,G,p2,o⟩:=u.oW z;refine Sw (c1:=cS t1) (c2:=cS t2) (R1:=λh=>oS t1 h d m.toArray) (R2:=λh=>oS t2 h g f.toArray) (M d g m.toArray f.toArray) p1 p2 λh' a1 a2 B J K L=>wpAny_pyIter_zip a1 ?_;have O:Inv X pins σ H1 { i with heap:=h' }:=u.kept (t':=i.toks) L
 have j:∀(t:Bool) (c l:Addr),h'.get? c=some (Dj (cS t) l)->iS t h' c l 0:=λt c l e=>by cases t <;> exact{_,e,Y,Y}
 refine{_,[↑i+4,↑i+2,↑i+3,↑i,↑i+1],_,_,H1,Y,O,Oz t1 t2 _ _ _ _ _ d g (qp r) (qp (vi o)) (Qa r o),{a1,a2,{_,_,B},j t1 _ _ J,j t2 _ _ K},λc A=>?_,q}
 have n:↑i≤c:=by
  simp only[List.mem_cons,List.not_mem_nil,or_false]at A
  rcases A with rfl|rfl|rfl|rfl|rfl
  ·exact yx _ _
  ·exact yx _ _
  ·exact yx _ _
  ·exact qi _
  ·exact yx _ _
 exact u.o5 n (u.bP.fresh n)
def OK(e:Gl X "zip")(hm:X.mg "zip"=none)(d:PA X [a,b] ta)(hs:starEach [a,b] X.env=(false,eval a X.env)::starEach [b] X.env:=by rfl)(c:(backTo pos (starEach [b] X.env)).any (·.1)=false:=by rfl):PI X (.Tuple es k tp) (.Call (.Name "zip" p) [a,b] [] pos) (r2 true true ta):=MA (t1:=true) (t2:=true) Qj e hm d hs c
end
def MW{fr:List (Str×Nat)}(c:Nat->List V->Hp->Prop)(B:c 0 [] H)(hl:∀i zs H,c i zs H->pS H t1 a xs/\pS H t2 b ys)(E:xs.length≤sizeLine)(hs:∀i x y zs H' p (n:V->Hp->Prop) (o:Hp->Prop),xs[i]?=some x->ys[i]?=some y->c i zs H'->H' p=none->(∀v j,c (i+1) (zs++[v]) j->n v j)->(∀d,c (i+1) zs d->o d) →
   g (.ref p) (bD own fr σ) (upd H' p (.tup [x,y])) λh H2=>tt h H2 λb d=>if b=true then te h d n else o d)(A:∀H' p zs,c (min xs.length ys.length) zs H'->zs.length≤xs.length->H' p=none->Q (.ref p) (upd H' p (.lst zs))):uH own fr g tt te σ Q (Bx t1 t2 a b) H:=by
 refine{λi m zs H=>m=min xs.length ys.length - i/\i≤min xs.length ys.length/\zs.length≤i/\c i zs H,{min xs.length ys.length,Y,wq _,wq _,B},?_};rintro i m zs H ⟨rfl,hi,F,p⟩;obtain⟨l,k⟩:=hl _ _ H p
 by_cases f:i<min xs.length ys.length
 ·have h1:i<xs.length:=()
  have h2:i<ys.length:=()
  refine .inr {{xs,ys,xs[i],ys[i],l,k,qm h1,qm h2},(),λv H' y=>?_};obtain⟨r,x,z,u,s,C,rfl,rfl⟩:=y
  refine hs i x z zs H r _ _ (s xs l) (C ys k) p u (λv j t=>{min xs.length ys.length - (i+1),(),Y,f,?_,t}) λd w=>{min xs.length ys.length - (i+1),(),Y,f,(),w}
  rw[qu,zy];omega
 ·have e:i=min xs.length ys.length:=()
  exact .inl {{xs,ys,l,k,e},λq D=>A H q zs (by rw[←e];exact p) () D}
section
variable {X:Cx}{a b e:Expr}{ta tb te:TE}{es:List Expr}{t:TA}{pos p:Pos}
def Nu(X:Cx)(i:Nat)(x:Str)(k:NameKind):Prop:=(X.N[i]?,X.env.scope.names.lookup x,(x==("__debug__":Str)),(x==("__classdict__":Str)))=(some x,some k,false,false)
def vv(i:Nat)(h:Nu X i x .local:=by exact rfl):PE X (.Name x pos) (uj i):=pv i (congrArg (·.1) h) (.inl (congrArg (·.2.1) h)) (congrArg (·.2.2.1) h) (congrArg (·.2.2.2) h)
def vc(i:Nat)(h:Nu X i x .cell:=by exact rfl):PE X (.Name x pos) (uj i):=pv i (congrArg (·.1) h) (.inr (.inl (congrArg (·.2.1) h))) (congrArg (·.2.2.1) h) (congrArg (·.2.2.2) h)
def mI(X:Cx)(e:Expr):Prop:=∀es,starEach (e::es) X.env=(false,eval e X.env)::starEach es X.env
def a1(b:PE X a ta)(h:mI X a:=by exact λ_=>rfl):PA X [a] (eE ta ni):=F_ b kQ (h _)
def a2(c:PE X a ta)(d:PE X b tb)(h:mI X a:=by exact λ_=>rfl)(h2:mI X b:=by exact λ_=>rfl):PA X [a,b] (eE ta (eE tb ni)):=F_ c (a1 d h2) (h _)
def ac{t:TA}(c:PE X a ta)(b:PA X es t)(h:mI X a:=by exact λ_=>rfl):PA X (a::es) (eE ta t):=F_ c b (h _)
def xt(b:PE X a ta):PE X (.Subscript a (.Constant (.int i) j p) pos) (ow (B0) ta (tC (.int i))):=iF LP b ai (λ_ _=>rfl)
def xl(b:PE X a ta):PE X (.Subscript a (.Constant (.int i) j p) pos) (ow (Cy) ta (tC (.int i))):=iF DI b ai (λ_ _=>rfl)
def xa(c:PE X a ta)(d:PE X b tb)(hs:iY b:=by exact λ_ _=>rfl):PE X (.Subscript a b pos) (ow (Kx) ta tb):=iF D4 c d hs
def xi(c:PE X a ta)(d:PE X b tb)(hs:iY b:=by exact λ_ _=>rfl):PE X (.Subscript a b pos) (ow (Cy) ta tb):=iF DI c d hs
def xu(c:PE X a ta)(d:PE X b tb)(hs:iY b:=by exact λ_ _=>rfl):PE X (.Subscript a b pos) (ow (B0) ta tb):=iF LP c d hs
def ce(f:df X (compareOp c) r)(d:PE X a ta)(e:PE X b tb)(hm:behindInMarks c b=false:=by exact rfl):PE X (.Compare a [c] [b] pos) (ow r ta tb):=Rk f d e hm
def ck(f:df X (compareOp c) r)(d:PE X a ta)(e:PE X b tb)(hm:behindInMarks c b=false:=by exact rfl):PT X (.Compare a [c] [b] pos) (rV (ow r ta tb)):=O2 f d e hm
structure c6(P:Program)(w:World)(K:PySem.W.Frag)(mg:Str->Option Value)(base:Heap)(k:Nat)(x:Str)(ps:List Str)(sp:Sp):Prop where
 out:∃f fd,fw P w K mg base p_ k f fd ps sp/\mg x=some (.ref f)/\PySem.W.keepIn K (.ref f)=true/\Binds K fd ps []
variable {k n:Nat}{x:Str}{ps:List Str}{sp:Sp}
def cl(F:c6 X.prog X.w X.K X.mg X.base k x ps sp)(g:cg n X.A)(l:PA X (e::es) t)(i:k≤n:=by decide)(h:Gl X x:=by exact rfl)(c:(x==("__debug__":Str))=false:=by exact rfl)(j:mI X e:=by exact λ_=>rfl)(a:(backTo pos (starEach es X.env)).any (·.1)=false:=by exact rfl) :
  PE X (.Call (.Name x p) (e::es) [] pos) (m7 sp [] E0 t):=by
 obtain⟨f,fd,F,hm,b,d⟩:=F.out;exact Jw F (g.mono i) h hm b d .nil xW l c (j _) a
def cb{id:String}{r:List V->Hp->VK->Prop}(c:cu X (.builtin id) r)(hm:X.mg x=none)(h:bootBuiltins x=some (.builtin id))(i:PA X (e::es) t)(d:Gl X x:=by exact rfl)(f:x≠"__name__":=by decide)(b:(x==("__debug__":Str))=false:=by exact rfl)(g:mI X e:=by exact λ_=>rfl)(a:(backTo pos (starEach es X.env)).any (·.1)=false:=by exact rfl):PE X (.Call (.Name x p) (e::es) [] pos) (Mt r t):=OR c d hm h i f b (g _) a
def cy(c:cu X (.type T) r)(hm:X.mg x=none)(h:bootBuiltins x=some (.type T))(i:PA X (e::es) t)(d:Gl X x:=by exact rfl)(f:x≠"__name__":=by decide)(b:(x==("__debug__":Str))=false:=by exact rfl)(g:mI X e:=by exact λ_=>rfl)(a:(backTo pos (starEach es X.env)).any (·.1)=false:=by exact rfl):PE X (.Call (.Name x p) (e::es) [] pos) (Mt r t):=QA c d hm h i f b (g _) a
def sn(c:X.N.Nodup)(i:Nat)(b:PE X e te)(hi:X.N[i]?=some x:=by exact rfl)(a:X.env.scope.names.lookup x=some .local:=by exact rfl)(hs:swapsWith e (some (.Name x pos')) pos.line X.env=pure false:=by exact rfl):PS X (.Assign [.Name x pos'] e pos) (pa te (cX i)):=KR c hi (.inl a) b hs (.inr a)
def sm(d:X.N.Nodup)(i:Nat)(a:PE X e te)(hi:X.N[i]?=some x:=by exact rfl)(c:X.env.scope.names.lookup x=some .cell:=by exact rfl)(hs:swapsWith e (some (.Name x pos')) pos.line X.env=pure false:=by exact rfl)(b:X.fn x=true:=by exact rfl):PS X (.Assign [.Name x pos'] e pos) (pa te (cX i)):=KR d hi (.inr c) a hs (.inl b)
def gn(b:X.N.Nodup)(i:Nat)(hi:X.N[i]?=some x:=by exact rfl)(a:X.env.scope.names.lookup x=some .local:=by exact rfl):PG X (.Name x pos) (cX i):=i_ b hi (.inl a) (.inr a)
def gt(h:yJ X es u)(c:X.calm=true:=by exact rfl)(b:(assignEach es X.env).length=n:=by exact rfl)(a:(assignEach es X.env).findIdx? (·.1)=none:=by exact rfl):PG X (.Tuple es k pos) (Fj n u):=AN c h b a
def fo{tg iter:Expr}{a:List Stmt}{wi:TI}{g:TG}{tb:TS}(hi:PI X tg iter wi)(d:PG X tg g)(c:kx X a tb)(e:PassesOwn (model X.prog X.w) X.A X.env X.xe:=by exact PassesOwn.never)(b:X.calm=true:=by exact rfl)(hs:∀x,foldedSetIterable iter X.env x=pure x:=by exact λ_=>rfl):PS X (.For tg iter a [] pos) (Ho wi g tb):=EV e b hi d c hs
def il{tl:TE}(hl:PE X l tl):PI X tg l (x8 tl):=QV hl
def iu{tl:TE}(hl:PE X l tl):PI X tg l (ID tl):=FG hl
def bm{o:Expr}{to:TE}{name:Str}{T id:String}{apos:Pos}{r:V->List V->Hp->VK->Prop}(g:PlainAttrs T)(slot:Slot T name id)(f:typeOf (.builtin id)=pure (.type "method_descriptor"))(hm:w_ X id r)(h:PE X o to)(i:PA X (e::es) t)(c:attributeBase o name X.env (eval o X.env)=eval o X.env:=by exact rfl)(d:((backTo pos (starEach (e::es) X.env)).all (λx=>!x.1)&&(backToKw pos (keywordEach [] X.env)).all (λx=>x.1.isSome)&&decide ((e::es).length+([]:List Keyword).length+(if([]:List Keyword).isEmpty then 0 else 1)<30))=true:=by exact rfl)(b:(apos.endLine==pos.line)=true:=by exact rfl)(hs:mI X e:=by exact λ_=>rfl)(a:(backTo pos (starEach es X.env)).any (·.1)=false:=by exact rfl) :
  PE X (.Call (.Attribute o name apos) (e::es) [] pos) (IH T r to t):=J9 g slot f hm h i c d b (hs _) a
def ap{to:TE}(d:PE X o to)(f:PA X [e] t)(b:attributeBase o "append" X.env (eval o X.env)=eval o X.env:=by exact rfl)(hs:mI X e:=by exact λ_=>rfl)(c:((backTo pos (starEach [e] X.env)).all (λx=>!x.1)&&(backToKw pos (keywordEach [] X.env)).all (λx=>x.1.isSome)&&decide (([e]:List Expr).length+([]:List Keyword).length+(if([]:List Keyword).isEmpty then 0 else 1)<30))=true:=by exact rfl)(a:(apos.endLine==pos.line)=true:=by exact rfl):PS X (.Expr (.Call (.Attribute o "append" apos) [e] [] pos) p2) (xV (IH "list" n_ to t)) :=
 R' (bm PySem.F.plainAttrs_list PySem.F.slot_list_append PySem.F.type_list_append Pg d f b c a hs rfl)
def SR{y:Str}:[y].Nodup:=wf.mpr {List.not_mem_nil,vy}
def PR(a:cg n X.A):df X (compareOp .Eq) (wF 64 false):=AX (Hg a)
def I9(a:cg n X.A):df X (compareOp .NotEq) (wF 64 true):=Av (Hg a)
def Tg(a:cg n X.A):df X (compareOp .NotIn) (Lr 63 true):=QF (P8 a)
def Nd:df X (compareOp .In) (Nq false):=P4
def R7:df X (compareOp .NotIn) (Nq true):=PM
def SQ(a:cg n X.A):w_ X "list.index" (lY 61):=Qf (N_ a)
def rm{y:Str}{b:Pos}{iter elt:Expr}{ifs:List Expr}{sc:Scope}{wi:TI}{tt:TT}{te:TE}(hi:PI X (.Name y b) iter wi)(c:∀s H a,pI (bI X [y] sc [] s H a) ifs tt)(f:∀s H a,PE (bI X [y] sc [] s H a) elt te)(d:X.calm=true:=by exact rfl)(S:eR sc:=by exact{Y,∅,∅})(C:iO X sc [] []:=by exact mj ∅)(e:∀s H a,PG (bI X [y] sc [] s H a) (.Name y b) (cX 0):=by exact λ_ _ _=>i_ (SR) rfl (.inl rfl) (.inr rfl))(hs:∀x,foldedSetIterable iter X.env x=pure x:=by exact λ_=>rfl) :
  PE X (.ListComp elt [{.Name y b,iter,ifs,0}] sc pos) (Bi [y] [] wi (cX 0) tt te):=Ds (own:=[y]) (fr:=[]) d hi S C e (λ_=>pE rfl) c f hs
def A0(a:Scope)(N:List Str)(fr:List (Str×Nat)){y:Str}{k:Pos}{iter elt:Expr}{ifs:List Expr}{sc:Scope}{wi:TI}{tt:TT}{te:TE}(hi:PI X (.Name y k) iter wi)(l:∀s H i,pI (bI X (y::fr.map (·.1)) sc (sq X.env sc.names []) s H i) ifs tt)(n:∀s H i,PE (bI X (y::fr.map (·.1)) sc (sq X.env sc.names []) s H i) elt te)(m:X.calm=true:=by exact rfl)(S:eR sc:=by exact{Y,∅,∅})(h1:X.env.scope=a:=by exact rfl)(h2:X.N=N:=by exact rfl)(q:∀x,X.env.kindOf x=some .cell->∃c,X.env.cells.lookup x=some c:=by exact λ_ h=>um h)(d:∀y∈sc.names,y.2≠.cell:=by decide +kernel)(b:∀y∈sc.names,y.2=.free->a.names.lookup y.1=some .cell:=by decide +kernel)(g:∀p∈fr,N[p.2]?=some p.1/\a.names.lookup p.1=some .cell/\(relabel sc { scope:=a,locals:=0,globals:=0,cells:=[] }).names.lookup p.1=some .cell:=by decide +kernel)(j:(y::fr.map (·.1)).Nodup:=by decide +kernel)(o:(relabel sc { scope:=a,locals:=0,globals:=0,cells:=[] }).names.lookup y=some .local:=by decide +kernel)(hs:∀x,foldedSetIterable iter X.env x=pure x:=by exact λ_=>rfl) :
  PE X (.ListComp elt [{.Name y k,iter,ifs,0}] sc pos) (Bi [y] fr wi (cX 0) tt te):=by
 have f:(relabel sc X.env).names.lookup y=some .local:=by
  have e:relabel sc X.env=relabel sc { scope:=a,locals:=0,globals:=0,cells:=[] }:=by
   unfold relabel Env.kindOf;rw[h1]
  rw[e];exact o
 exact Ds (own:=[y]) (fr:=fr) m hi S (Aa a N h1 h2 q d b g) (λ_ _ _=>i_ j rfl (.inl f) (.inr f)) (λ_=>pE rfl) l n hs
end
structure FO(K:PySem.W.Frag)(mg:Str->Option Value)(x:Str)(st:Stmt):Prop where
 out:∃f fd,uM K x x st f fd/\mg x=some (.ref f)
def aH{P:Program}{w:World}{K:PySem.W.Frag}{mg:Str->Option Value}{base:Heap}{x:Str}{st:Stmt}{N ps:List Str}{k:Nat}{sp:Sp}(F:FO K mg x st)(S:aj N ps (af st))(e:∀{kV c h:Value}{g:Option Addr}{a i:Value}(d:List Value),d.length=ps.length->bindArgs (PySem.W.fnOf x x (eB st) (cK st) (af st) .none kV c h g a i) {d,[]}=pure (ps.zip d))(len:∀vs H Q E,sp vs H Q E->vs.length=ps.length)(b:∀(f:Addr) (a:Value) (A:Around) (outer:List Env) (s:Shared) (H:Hp) (vs:List V) (Q:VK) (E:XK),cg k (A.deeper (envOfC x (af st) ↑s f a))->sp vs H Q E →
   ∃t,kx (kI p_ P w K mg base N x (af st) f a A outer s H E).Bw (cK st) t/\t { nx:=λ_ H'=>Q .a' H',rt:=Q } (start N vs) H):c6 P w K mg base (k+1) x ps sp:=by
 obtain⟨f,fd,F,hm⟩:=F.out;exact{f,fd,F.ok S len (b f),hm,F.kp,F.binds e}
inductive FX(K:PySem.W.Frag)(n:Str)(s:Stmt):Prop
 |mk{a:Addr}{od an:Option Addr}{sl:Array (Option Value)}{oc kV dc pm cd ct:Value}(z1:PySem.W.nsIn K mainGlobals n=some (some (.ref a)))(z2:K.lookup a=some ⟨oc,od,.func (PySem.W.fnOf n n (eB s) (cK s) (af s) .none kV dc pm an cd ct),sl⟩)(z3:PySem.W.codeIn K cd n=true)(z4:PySem.W.keepIn K (.ref a)=true)
def FX.fo{K:PySem.W.Frag}{n:Str}{s:Stmt}{h:Heap}{mg:Str->Option Value}(f:FX K n s)(X:K.In h)(G:h.Ns mainGlobals mg):FO K mg n s:=by
 obtain⟨z1,z2,a,b⟩:=f;exact{_,_,Hm (st:=s) z2 a b,PySem.W.mg_of X G z1}
structure uK(P:Program)(w:World)(K:PySem.W.Frag)(a:Addr)(kvs:List (Str×Addr)):Prop where
 sys:(a==sysModules)=false
 out:∃o es ep,K.lookup a=some o/\o.ExactDict/\o.data=.dict es ep/\KeysOf (ay P w) es/\Pairs (ay P w) es.toList (kvs.map λp=>((Sum.inr p.1:Key),Value.ref p.2))/\(kvs.map λp=>(Sum.inr p.1:Key)).Nodup
def fV(kvs:List (Str×Addr))(z:Str):Option Addr:=(kvs.find? λp=>decide (p.1=z)).map (·.2)
def xM:valueAt (kvs.map λp=>((Sum.inr p.1:Key),Value.ref p.2)) (Sum.inr z)=(fV kvs z).map Value.ref:=by
 unfold valueAt fV
 induction kvs with
 |nil=>rfl
 |cons p kvs a =>
  rw[qw,j3,j3]
  by_cases h:p.1=z
  ·rw[qs (show(Sum.inr p.1:Key)=Sum.inr z by rw[h]),qs h];rfl
  ·rw[decide_eq_false (show ¬(Sum.inr p.1:Key)=Sum.inr z from λe=>h (Sum.inr.inj e)),decide_eq_false h]
   exact a
section
variable {X:Cx}{a:Addr}{kvs:List (Str×Addr)}{pins:List (Addr×Obj)}{σ:St}{H:Hp}{s:Shared}
def uK.dict(D:uK X.prog X.w X.K a kvs)(I:Inv X pins σ H s):s.heap.DictOf (ay X.prog X.w) a (kvs.map λp=>((Sum.inr p.1:Key),Value.ref p.2)):=by
 obtain⟨o,es,c,h1,h2,e,b,d,h6⟩:=D.out;exact{o,es,c,I.jM a o h1,h2,e,b,d,by rw[zq];exact h6}
inductive Pn(kvs:List (Str×Addr))(Q:VK)(y:V)(H:Hp):Prop
 |mk(z:Str)(v:Addr)(h0:y=.str z)(h1:fV kvs z=some v)(h2:Q (.ref v) H)
def TZ(kvs:List (Str×Addr))(ty:TE):TE:=λσ H Q=>ty σ H λy H1=>Pn kvs Q y H1
def fg(D:uK X.prog X.w X.K a kvs)(hm:X.mg x=some (.ref a))(hi:PE X i ty)(e:Gl X x:=by exact rfl)(hs:FY i:=by exact λ_ _=>rfl)(g:(x==("__debug__":Str))=false:=by exact rfl):PE X (.Subscript (.Name x p) i pos) (TZ kvs ty):=by
 refine{?_};intro pins s σ H Q I h;refine Jt PySem.F.slot_dict_getitem.lookup hs (pW I e hm (bq (hi pins s σ H _ I h) λj m ⟨y,H2,b,c,z,v,f,l,d⟩=>?_) g);subst f;have dd:=D.dict b;refine{dd.typeIs,?_};refine wpAny_getItem_of (m1 (k:=.inr z) c) dd.mapOf (v:=Value.ref v) (by rw[xM,l];rfl) {.ref v,H2,b.tok _,Y,d}
inductive Nh(a:Addr)(kvs:List (Str×Addr))(neg:Bool)(x y:V)(H:Hp)(Q:VK):Prop
 |mk(z:Str)(h0:x=.str z)(h1:y=.ref a)(h2:Q (.bl (if neg then !(fV kvs z).isSome else(fV kvs z).isSome)) H)
def Ql(a:Addr)(kvs:List (Str×Addr))(b:Bool):R2:=λx y H Q=>Nh a kvs b x y H Q
def SI(D:uK X.prog X.w X.K a kvs):df X (compareOp .NotIn) (Ql a kvs true):=by
 intro pins s σ H x y v u Q I c b h;obtain⟨z,rfl,rfl,q⟩:=h;cases b;refine wpAny_notIn_of (m1 (k:=.inr z) c) D.sys (D.dict I).mapOf {.bl _,H,I.tok _,?_,q};rw[xM,gm];rfl
inductive wW(Fs:Addr->Sp->Prop)(t:TA)(σ:St)(Q:VK)(v:V)(H:Hp):Prop
 |mk(f:Addr)(sp:Sp)(h0:v=.ref f)(h1:Fs f sp)(h2:t σ H λvs H2=>sp vs H2 Q E0)
def Gn(a:Addr->Sp->Prop)(b:TE)(t:TA):TE:=λσ H Q=>b σ H λv H1=>wW a t σ Q v H1
def cv{t:TA}(B:∀f sp,g f sp->∃k fd ps,k≤n/\fw X.prog X.w X.K X.mg X.base p_ k f fd ps sp/\PySem.W.keepIn X.K (.ref f)=true/\Binds X.K fd ps [])(o:cg n X.A)(C:PE X (.Name x p) d)(E:PA X (e::es) t)(z:mI X e:=by exact λ_=>rfl)(a:(backTo pos (starEach es X.env)).any (·.1)=false:=by exact rfl):PE X (.Call (.Name x p) (e::es) [] pos) (Gn g d t):=by
 refine{?_};intro pins s σ H Q I h;refine wpAny_Call_Name_kw (bq (C pins s σ H _ I h) λu m ⟨v,H1,c,r,f,sp,D,j,q⟩=>?_);subst D;cases r;obtain⟨k,fd,ps,y,F,b,l⟩:=B f sp j;refine PySem.W.callWith_K (h₀:=X.base) c.ok.mod.Eo b (bq (E pos pins m σ H1 _ c q) λJ G ⟨vs,H2,i,r,q⟩=>{i.jM,?_}) (z _) a;exact DQ F (o.mono y) l .nil xW i r (by rw[yh];exact q)
end
def uK.of{P:Program}{w:World}{K:PySem.W.Frag}{a:Addr}{kvs:List (Str×Addr)}{es:Array DictEntry}{g:Nat}{i:Array (Option Value)}(h1:K.lookup a=some {.type "dict",none,.dict es g,i})(h2:es.toList.map (λe=>(e.hash,fZ e.key,fZ e.val))=kvs.map λp=>(wN w (.inr p.1),some (V.str p.1),some (V.ref p.2)))(r:(kvs.map (·.1)).Nodup)(s:(a==sysModules)=false)(n:({.type "dict",none,.dict es g,i}:Obj).ExactDict):uK P w K a kvs:=by
 have c:∀{u:Value} {z:Str},fZ u=some (.str z)->∃t,u=.str z t:=λ{u z} h=>by
  cases u <;> simp[fZ]at h;exact{_,by rw[h]}
 have r_:∀{u:Value} {b:Addr},fZ u=some (.ref b)->u=.ref b:=λ{u b} h=>by
  cases u <;> simp[fZ]at h;rw[h]
 have d:∀(l:List DictEntry) (kvs:List (Str×Addr)),l.map (λe=>(e.hash,fZ e.key,fZ e.val))=kvs.map (λp=>(wN w (.inr p.1),some (V.str p.1),some (V.ref p.2)))->(∀e∈l,∃k,(ay P w).is k e.key=true/\e.hash=(ay P w).hash k)/\Pairs (ay P w) l (kvs.map λp=>((Sum.inr p.1:Key),Value.ref p.2)):=λl=>by
  induction l with
  |nil =>
   intro kvs h
   cases kvs with
   |nil=>exact{λe z=>(nomatch z),.nil}
   |cons _ _=>cases h
  |cons e l m =>
   intro kvs h
   cases kvs with
   |nil=>cases h
   |cons p kvs =>
    rw[qw,qw]at h;injection h with h h';injection h with e1 h;injection h with e2 e3;obtain⟨t,j⟩:=c e2;obtain⟨i1,i2⟩:=m kvs h';refine{λq f=>?_,.cons (by rw[j];exact B8 p.1 t) (r_ e3) i2};rcases qr.mp f with z|z
    ·subst z
     exact⟨.inr p.1,by rw[j];exact B8 p.1 t,e1⟩
    ·exact i1 q z
 obtain⟨k1,k2⟩:=d _ _ h2;refine{s,_,es,g,h1,n,Y,λe o=>k1 e (by simpa using o),k2,?_}
 have:(kvs.map λp=>(Sum.inr p.1:Key))=(kvs.map (·.1)).map Sum.inr:=by rw[zq];rfl
 rw[this];exact r.map _ λa b h e=>h (Sum.inr.inj e)
inductive lZ(H:Hp)(T:String):V->Bool->Prop
 |str (z:Str):lZ H T (.str z) (T=="str")
 |int (i:Int):lZ H T (.int i) (T=="int")
 |bl (b:Bool):lZ H T (.bl b) (T=="bool"||T=="int")
 |a':lZ H T .a' false
 |tup {p:Addr} {xs:List V} (h:H p=some (.tup xs)):lZ H T (.ref p) (T=="tuple")
 |lst {p:Addr} {xs:List V} (h:H p=some (.lst xs)):lZ H T (.ref p) (T=="list")
 |mx {p:Addr} {xs:List (Key×V)} (h:H p=some (.dK xs)):lZ H T (.ref p) (T=="dict")
inductive Tn(xs:List V)(H:Hp)(Q:VK):Prop
 |mk(x:V)(T:String)(b:Bool)(h0:xs=[x,.ty T])(hT:(["str","int","bool","tuple","list"]:List String).contains T=true)(h1:lZ H T x b)(h2:Q (.bl b) H)
def gN:cu X (.builtin "isinstance") Tn:=by
 intro pins s σ H xs c Q I d h;obtain⟨x,T,b,rfl,a,h1,q⟩:=h
 have a:T = "str" \/ T = "int" \/ T = "bool" \/ T = "tuple" \/ T = "list":=by simpa using a
 refine Pb pins s σ H _ c Q I d ?_
 cases h1 with
 |str z=>exact{_,T,.type "str",_,Y,.str _,by rcases a with rfl|rfl|rfl|rfl|rfl <;> rfl,q}
 |int i=>exact{_,T,.type "int",_,Y,.int _,by rcases a with rfl|rfl|rfl|rfl|rfl <;> rfl,q}
 |bl i=>exact{_,T,.type "bool",_,Y,.bl _,by rcases a with rfl|rfl|rfl|rfl|rfl <;> rfl,q}
 |a'=>exact{_,T,.type "NoneType",_,Y,.a',by rcases a with rfl|rfl|rfl|rfl|rfl <;> rfl,q}
 |tup h=>exact{_,T,.type "tuple",_,Y,.tup h,by rcases a with rfl|rfl|rfl|rfl|rfl <;> rfl,q}
 |lst h=>exact{_,T,.type "list",_,Y,.lst h,by rcases a with rfl|rfl|rfl|rfl|rfl <;> rfl,q}
 |mx h=>exact{_,T,.type "dict",_,Y,.dK h,by rcases a with rfl|rfl|rfl|rfl|rfl <;> rfl,q}
def LC(i:Nat):TE:=λσ H Q=>match σ[i]? with
 |some (some v)=>Q v H
 |_=>False
def Lc(h:LC i σ H Q):uj i σ H Q:=by
 unfold LC at h
 split at h
 ·exact{_,by assumption,h}
 ·exact h.elim
def PE.imp{t u:TE}(h:PE X e t)(i:∀σ H Q,u σ H Q->t σ H Q):PE X e u:={λpins s σ H Q I q=>h pins s σ H Q I (i σ H Q q)}
def na(i:Nat)(h:Nu X i x .local:=by exact rfl):PE X (.Name x pos) (LC i):=(vv i h).imp λ_ _ _=>Lc
def nc(i:Nat)(h:Nu X i x .cell:=by exact rfl):PE X (.Name x pos) (LC i):=(vc i h).imp λ_ _ _=>Lc
inductive Th where
 |a'|bl (b:Bool)|int (i:Int)|str (z:Str)|tup (xs:List Th)|NF
mutual
inductive TV(H:Hp):V->Th->Prop
 |a':TV H .a' .a'
 |bl (b:Bool):TV H (.bl b) (.bl b)
 |int (i:Int):TV H (.int i) (.int i)
 |str {z:Str} (h:z.length≤1000):TV H (.str z) (.str z)
 |tup {p:Addr} {xs:List V} {ds:List Th} (h:H p=some (.tup xs)) (t:kU H xs ds):TV H (.ref p) (.tup ds)
 |lst {p:Addr} {xs:List V} (h:H p=some (.lst xs)):TV H (.ref p) .NF
 |mx {p:Addr} {xs:List (Key×V)} (h:H p=some (.dK xs)):TV H (.ref p) .NF
inductive kU(H:Hp):List V->List Th->Prop
 |nil:kU H [] []
 |cons {x:V} {xs:List V} {d:Th} {ds:List Th}:TV H x d->kU H xs ds->kU H (x::xs) (d::ds)
end
mutual
theorem TV.same(s:ag H H'):∀{v:V} {d:Th},TV H v d->TV H' v d
 |_,_,.a'=>.a'
 |_,_,.bl b=>.bl b
 |_,_,.int i=>.int i
 |_,_,.str h=>.str h
 |_,_,.tup h t=>.tup (s _ _ h) (kU.same s t)
 |_,_,.lst h=>.lst (s _ _ h)
 |_,_,.mx h=>.mx (s _ _ h)
theorem kU.same(s:ag H H'):∀{xs:List V} {ds:List Th},kU H xs ds->kU H' xs ds
 |_,_,.nil=>.nil
 |_,_,.cons h t=>.cons (TV.same s h) (kU.same s t)
end
theorem kU.len:∀{xs:List V} {ds:List Th},kU H xs ds->xs.length=ds.length
 |_,_,.nil=>rfl
 |_,_,.cons _ t=>congrArg (·+1) t.len
theorem kU.at:∀{xs:List V} {ds:List Th} {i:Nat} {x:V},kU H xs ds->xs[i]?=some x->∃d,ds[i]?=some d/\TV H x d
 |_,_,0,_,.cons h _,e=>{_,Y,qD e▸h}
 |_,_,i+1,_,.cons _ t,e=>t.at (i:=i) e
def kT(T:String):Th->Bool
 |.a'=>false
 |.bl _=>T=="bool"||T=="int"
 |.int _=>T=="int"
 |.str _=>T=="str"
 |.tup _=>T=="tuple"
 |.NF=>false
def TV.tH(h:TV H v d)(h1:T≠"list")(h2:T≠"dict"):lZ H T v (kT T d):=by
 cases h with
 |a'=>exact .a'
 |bl b=>exact .bl b
 |int i=>exact .int i
 |str h=>exact .str _
 |tup h t=>exact .tup h
 |lst h =>
  have c:(T=="list")=false:=beq_eq_false_iff_ne.mpr h1;have a:=lZ.lst (T:=T) h;rw[c]at a;exact a
 |mx h =>
  have c:(T=="dict")=false:=beq_eq_false_iff_ne.mpr h2;have a:=lZ.mx (T:=T) h;rw[c]at a;exact a
def kU.two(t:kU H xs ds)(h:ds.length=2):∃x y a b,xs=[x,y]/\ds=[a,b]/\TV H x a/\TV H y b:=by
 cases t with
 |nil=>exact absurd h (by simp)
 |cons a t =>
  cases t with
  |nil=>exact absurd h (by simp)
  |cons b t =>
   cases t with
   |nil=>exact⟨_,_,_,_,Y,Y,a,b⟩
   |cons c t=>exact absurd h (by simp)
def kU.three(t:kU H xs ds)(h:ds.length=3):∃x y z a b c,xs=[x,y,z]/\ds=[a,b,c]/\TV H x a/\TV H y b/\TV H z c:=by
 cases t with
 |nil=>exact absurd h (by simp)
 |cons a t =>
  obtain⟨x,y,c,d,rfl,rfl,h1,h2⟩:=t.two (by simpa using h);exact⟨_,_,_,_,_,_,Y,Y,a,h1,h2⟩
def kU.Oy(t:kU H xs ds)(h:ds.length=5):∃x y z u v a b c d e,xs=[x,y,z,u,v]/\ds=[a,b,c,d,e]/\TV H x a/\TV H y b/\TV H z c/\TV H u d/\TV H v e:=by
 cases t with
 |nil=>exact absurd h (by simp)
 |cons a t =>
  cases t with
  |nil=>exact absurd h (by simp)
  |cons b t =>
   obtain⟨_,_,_,_,_,_,rfl,rfl,h1,h2,f⟩:=t.three (by simpa using h);exact⟨_,_,_,_,_,_,_,_,_,_,Y,Y,a,b,h1,h2,f⟩
def lH(c:Nat):Bool:=decide (97≤c)&&decide (c≤122)
def bp(z:Str):Bool:=decide (1≤z.length/\z.length≤8)&&z.cps.toList.all lH
def cO:Th->Bool
 |.str z=>bp z
 |_=>false
def dA(l:Int):Th->Bool
 |.int i=>decide (l≤i/\i≤1000000)
 |_=>false
def cH(zs:List Str):Th->Bool
 |.str z=>decide (z∈zs)
 |_=>false
def mY(n:Int):Th->Bool
 |.tup xs=>decide ((xs.length:Int)=n)
 |_=>false
def eZ:Th->Bool
 |.tup [a,.int i]=>cH [""] a&&decide (i=0)
 |_=>false
def iv:Th->Bool
 |.tup [a,b]=>cO a&&dA 1 b
 |_=>false
def dJ:Th->Bool
 |.str z=>decide (z.length=1)&&(bp z||decide (z∈([" ",".",","]:List Str)))
 |.tup [a,b]=>if cH ["picture"] a then cO b else cH ["refer"] a&&(eZ b||iv b)
 |_=>false
def CF(ws:List Str):Th->Bool
 |.str z=>decide (z∈ws)
 |_=>false
def fP(ws:List Str)(t:Th):Bool:=cO t&&CF ws t
def a_(ws:List Str):Th->Bool
 |.tup [a,b]=>iv (.tup [a,b])&&CF ws a
 |_=>false
def du(ws:List Str)(t:Th):Bool:=eZ t||a_ ws t
def kS(ws:List Str):Th->Bool
 |.a'=>true
 |t=>a_ ws t
def fE(ws:List Str):Th->Bool
 |.tup [a,b,c]=>a_ ws (.tup [a,b])&&dA 0 c
 |_=>false
def o6(ws:List Str):Th->Bool
 |.a'=>true
 |t=>fE ws t
def fS(ws:List Str):Th->Bool
 |.tup [a,b]=>fE ws a&&cH ["ahead","behind"] b
 |_=>false
def eI(ws:List Str):Th->Bool
 |.str z=>dJ (.str z)
 |.tup [a,b]=>dJ (.tup [a,b])&&(cH ["picture"] a||du ws b)
 |_=>false
def dF(ws:List Str):Th->Bool
 |.tup xs=>decide (1≤xs.length/\xs.length≤12)&&xs.all (eI ws)
 |_=>false
def oj:Th->List Key
 |.tup [.str z,.int i,.int j]=>[.inr z,.inl i,.inl j]
 |_=>[]
def gP(ws:List Str):Th->Bool
 |.tup xs=>decide (1≤xs.length/\xs.length≤12)&&(xs.all (fE ws)&&decide ((xs.map oj).Nodup))
 |_=>false
def Ep:Th->Bool
 |.a'=>true
 |t=>cO t
def nG(t:Th):Bool:=cO t||cH [""] t
def n5:Th->Bool
 |.bl _=>true
 |_=>false
def bu(ws:List Str):Th->Bool
 |.tup xs=>decide (xs.length=ws.length)&&xs.all (dA 0)
 |_=>false
inductive Fm where
 |part|name|vu|signs|pX|side|word|won|way|line|GS|hand|leave|truth|num|counts
 deriving DecidableEq
def l6(ws:List Str):Fm->Th->Bool
 |.part=>du ws|.name=>a_ ws|.vu=>o6 ws|.signs=>dF ws|.pX=>gP ws|.side=>fS ws|.word=>cO|.won=>Ep
 |.way=>cH ["row","column"]|.line=>kS ws|.GS=>nG|.hand=>fP ws|.leave=>cH ["read","note","write","give"]|.truth=>n5|.num=>dA 1|.counts=>bu ws
def nQ:List (Str×List Fm):=[("nothing",[]),("part",[.part]),("move",[.name,.part]),("cut",[.name]),("put",[.part,.vu,.signs]),("out",[.part,.pX]),("mark",[.part,.side,.side,.word,.won]),("note",[.part,.side,.side,.word]),("line",[.part,.way,.line]),("strike",[.part,.name]),("cell",[.part,.name,.name,.GS]),("leave",[.part,.hand,.leave,.truth]),("back",[.num]),("again",[.num]),("bring",[.word]),("drop",[.word]),("pour",[.counts])]
def cF(z:Str):Option (List Fm):=(nQ.find? λp=>decide (p.1=z)).map (·.2)
def all2(ws:List Str):List Fm->List Th->Bool
 |f::fs,t::ts=>l6 ws f t&&all2 ws fs ts
 |_,_=>true
def gJ(n:Int):List Th->Bool
 |.int i::_=>decide (i<n)
 |_=>true
def bX(ws:List Str)(n:Int):Th->Bool
 |.tup (.str k::ts)=>match cF k with
  |some fs=>decide (ts.length=fs.length)&&(all2 ws fs ts&&(!decide (k∈(["back","again"]:List Str))||gJ n ts))
  |none=>false
 |_=>false
def bN(ws:List Str):Th->Bool
 |.a'=>true
 |.tup [a,b]=>fP ws a&&cO b
 |_=>false
def kO(ws:List Str):Th->Th->Th->Bool
 |.str z,.int n,.tup cs=>match cs[ws.idxOf z]? with
  |some (.int c)=>decide (c=n - 1)
  |_=>false
 |_,_,_=>false
def c9(ws:List Str):Th->Bool
 |.tup [a,.int n,c,d,e]=>a_ ws (.tup [a,.int n])&&(bu ws c&&(kO ws a (.int n) c&&(bN ws d&&bX ws n e)))
 |_=>false
def so(h:¬mY 2 (.tup ds)=true):¬ds.length=2:=λe=>h (qs ())
def RT(h:¬mY 3 (.tup ds)=true):¬ds.length=3:=λe=>h (qs ())
def NN(h:¬mY 5 (.tup ds)=true):¬ds.length=5:=λe=>h (qs ())
def Mc(h:¬ds.length=2):iv (.tup ds)=false:=by
 unfold iv;split
 ·rename_i e;cases e;exact absurd rfl h
 ·rfl
def N9(h:¬ds.length=2):eZ (.tup ds)=false:=by
 unfold eZ;split
 ·rename_i e;cases e;exact absurd rfl h
 ·rfl
def N2(h:¬ds.length=2):fS ws (.tup ds)=false:=by
 unfold fS;split
 ·rename_i e;cases e;exact absurd rfl h
 ·rfl
def MY(h:¬ds.length=2):dJ (.tup ds)=false:=by
 unfold dJ;split
 ·rename_i e;cases e
 ·rename_i e;cases e;exact absurd rfl h
 ·rfl
def NT(h:¬ds.length=3):fE ws (.tup ds)=false:=by
 unfold fE;split
 ·rename_i e;cases e;exact absurd rfl h
 ·rfl
def QG(h:¬ds.length=2):bN ws (.tup ds)=false:=by
 unfold bN;split
 ·rename_i e;cases e
 ·rename_i e;cases e;exact absurd rfl h
 ·rfl
def OL(h:¬ds.length=5):c9 ws (.tup ds)=false:=by
 unfold c9;split
 ·rename_i e;cases e;exact absurd rfl h
 ·rfl
end L2
namespace Hs
open PySem L2 PyProof.Rows
structure Dd where
 c7:Nat
 num:Nat
 hd:List Nat
 br:PyData
 wt:List PyData
abbrev bf(l:List Nat)(k:Nat):Nat:=l.getD k 0
abbrev az(kn:List (List Nat))(i:Nat):List Nat:=kn.getD i []
def o7(m:Nat)(ds:List Dd)(row:List Nat):Prop:=∀j k,j<m->1≤k->k≤bf row j->∃e∈ds,e.c7=j/\e.num=k/\∀i,i<m->bf e.hd i≤bf row i
structure Wh(m:Nat)(ds:List Dd):Prop where
 c7:∀d∈ds,d.c7<m
 len:∀d∈ds,d.hd.length=m
 own:∀d∈ds,bf d.hd d.c7+1=d.num
 uniq:ds.Pairwise λa b=>¬(a.c7=b.c7/\a.num=b.num)
 past:∀d∈ds,o7 m ds d.hd
structure Kn(m:Nat)(ds:List Dd)(kn:List (List Nat)):Prop where
 len:kn.length=m
 row:∀i,i<m->(az kn i).length=m
 GQ:∀i,i<m->o7 m ds (az kn i)
 cnt:∀d∈ds,d.num≤bf (az kn d.c7) d.c7
def aE{a:Type}{l:List a}{i:Nat}{x d:a}(h:i<l.length):(l.set i x).getD i d=x:=by
 rw[ww,ja h];rfl
def jY{a:Type}{l:List a}{i j:Nat}{x d:a}(h:i≠j):(l.set i x).getD j d=l.getD j d:=by
 rw[ww,yb h,←ww]
def jU(f:Nat->Nat)(h:a<m):bf ((List.range m).map f) a=f a:=by
 unfold bf;rw[ww,zj,gu h];rfl
def o7.mono{row:List Nat}(c:o7 m ds row)(h:∀d∈ds,d∈a):o7 m a row:=λj k h1 h2 f =>
 let⟨e,b,r⟩:=c j k h1 h2 f
 {e,h e b,r}
def merged(m:Nat)(row b:List Nat)(o t:Nat):List Nat:=((List.range m).map λa=>max (bf row a) (bf b a)).set o (max (max (bf row o) (bf b o)) t)
def RP(m:Nat)(row a:List Nat)(o t:Nat):(merged m row a o t).length=m:=by unfold merged;simp
def Gh{row b:List Nat}{o t i:Nat}(hi:i<m)(c:o<m):bf (merged m row b o t) i=if i=o then max (max (bf row o) (bf b o)) t else max (bf row i) (bf b i):=by
 unfold merged
 by_cases e:i=o
 ·subst e
  rw[q0 rfl];exact aE (by simpa using hi)
 ·rw[qq e]
  show((((List.range m).map λa=>max (bf row a) (bf b a)).set o _).getD i 0)=_;rw[jY (λz=>e z.symm)];exact jU _ hi
def Ob{row:List Nat}(W:Wh m ds)(c:o7 m ds row)(l:e∈ds):o7 m ds (merged m row e.hd e.c7 e.num):=by
 have s:=W.c7 e l
 have up:∀i,i<m->bf row i≤bf (merged m row e.hd e.c7 e.num) i/\bf e.hd i≤bf (merged m row e.hd e.c7 e.num) i:=λi hi=>by
  rw[Gh hi s]
  split
  ·rename_i q
   subst q;omega
  ·omega
 intro j k o h1 h2;rw[Gh o s]at h2
 have g:k≤bf row j->∃d∈ds,d.c7=j/\d.num=k/\∀i,i<m->bf d.hd i≤bf (merged m row e.hd e.c7 e.num) i:=λh=>by
  obtain⟨d,n,a,b,f⟩:=c j k o h1 h;exact{d,n,a,b,λi hi=>qg (f i hi) (up i hi).1}
 have new:k≤bf e.hd j->∃d∈ds,d.c7=j/\d.num=k/\∀i,i<m->bf d.hd i≤bf (merged m row e.hd e.c7 e.num) i:=λh=>by
  obtain⟨d,n,a,b,f⟩:=W.past e l j k o h1 h;exact{d,n,a,b,λi hi=>qg (f i hi) (up i hi).2}
 split at h2
 ·rename_i q
  by_cases p:k≤bf row j
  ·exact g p
  ·by_cases r:k≤bf e.hd j
   ·exact new r
   ·have u:k≤e.num:=by rw[←q]at h2;omega
    have v:=W.own e l
    have t:k=e.num:=by rw[q]at r;omega
    exact{e,l,q.symm,t.symm,λi hi=>(up i hi).2}
 ·by_cases p:k≤bf row j
  ·exact g p
  ·exact new ()
def Kn.le(K:Kn m ds kn){row:List Nat}(c:o7 m ds row)(f:j<m):bf row j≤bf (az kn j) j:=by
 by_cases h:1≤bf row j
 ·obtain⟨e,d,a,b,_⟩:=c j _ f h (qi _)
  have:=K.cnt e d;rw[a,b]at this;exact this
 ·omega
def Kn.has(K:Kn m ds kn)(c:j<m)(h1:1≤k)(h2:k≤bf (az kn j) j):∃e∈ds,e.c7=j/\e.num=k :=
 let⟨e,d,a,b,_⟩:=K.GQ j c j k c h1 h2
 {e,d,a,b}
def Kn.merge(W:Wh m ds)(K:Kn m ds kn)(hi:i<m)(a:e∈ds)(g:bf (az kn i) e.c7<e.num):Kn m ds (kn.set i (merged m (az kn i) e.hd e.c7 e.num)):=by
 have h:=W.c7 e a
 have hl:i<kn.length:=by rw[K.len];exact hi
 have c:=Ob W (K.GQ i hi) a
 have ne:i≠e.c7:=λz=>by
  have:=K.cnt e a;rw[←z]at this g;omega
 have own:bf (merged m (az kn i) e.hd e.c7 e.num) i=bf (az kn i) i:=by
  rw[Gh hi h,qq ne];have:=K.le (W.past e a) hi;omega
 refine{by rw[vq];exact K.len,λj b=>?_,λj b=>?_,λd f=>?_}
 ·by_cases q:i=j
  ·subst q
   show((kn.set i _).getD i []).length=m;rw[aE hl];exact RP _ _ _ _ _
  ·show((kn.set i _).getD j []).length=m
   rw[jY q];exact K.row j b
 ·by_cases q:i=j
  ·subst q
   show o7 m ds ((kn.set i _).getD i []);rw[aE hl];exact c
  ·show o7 m ds ((kn.set i _).getD j [])
   rw[jY q];exact K.GQ j b
 ·by_cases q:i=d.c7
  ·show d.num≤bf ((kn.set i _).getD d.c7 []) d.c7
   rw[←q,aE hl,own,q];exact K.cnt d f
  ·show d.num≤bf ((kn.set i _).getD d.c7 []) d.c7
   rw[jY q];exact K.cnt d f
def dN(kn:List (List Nat))(i:Nat)(a:PyData)(wt:List PyData):Dd:={i,bf (az kn i) i+1,az kn i,a,wt}
def Wh.next(W:Wh m ds)(K:Kn m ds kn)(hi:i<m):Wh m (ds++[dN kn i c wt]):=by
 have sub:∀d∈ds,d∈ds++[dN kn i c wt]:=λd e=>vp _ e
 have two:∀{P:Dd->Prop},(∀d∈ds,P d)->P (dN kn i c wt)->∀d∈ds++[dN kn i c wt],P d:=λh1 h2 d e=>by
  rcases zf.mp e with q|q
  ·exact h1 d q
  ·rw[zh.mp q];exact h2
 refine{two W.c7 hi,two W.len (K.row i hi),two W.own rfl,?_,two (λd e=>(W.past d e).mono sub) ((K.GQ i hi).mono sub)};refine List.pairwise_append.mpr {W.uniq,List.pairwise_singleton _ _,λa h b f z=>?_};rw[zh.mp f]at z;have:=K.cnt a h;rw[z.1,z.2]at this;show False;have q:(dN kn i c wt).num=bf (az kn i) i+1:=rfl;have g:(dN kn i c wt).c7=i:=rfl;rw[q,g]at this;omega
def Kn.next(W:Wh m ds)(K:Kn m ds kn)(hi:i<m):Kn m (ds++[dN kn i n wt]) (kn.set i ((az kn i).set i (bf (az kn i) i+1))):=by
 have sub:∀d∈ds,d∈ds++[dN kn i n wt]:=λd h=>vp _ h
 have hl:i<kn.length:=by rw[K.len];exact hi
 have g:i<(az kn i).length:=by rw[K.row i hi];exact hi
 have up:∀a,bf (az kn i) a≤bf ((az kn i).set i (bf (az kn i) i+1)) a:=λa=>by
  by_cases q:i=a
  ·subst q
   show _≤((az kn i).set i _).getD i 0;rw[aE g];omega
  ·show _≤((az kn i).set i _).getD a 0
   rw[jY q];exact qi _
 refine{by rw[vq];exact K.len,λj l=>?_,λj l=>?_,λd h=>?_}
 ·by_cases q:i=j
  ·subst q
   show((kn.set i _).getD i []).length=m;rw[aE hl,vq];exact K.row i hi
  ·show((kn.set i _).getD j []).length=m
   rw[jY q];exact K.row j l
 ·by_cases q:i=j
  ·subst q
   show o7 m _ ((kn.set i _).getD i []);rw[aE hl];intro a k t h1 h2
   by_cases r:k≤bf (az kn i) a
   ·obtain⟨e,p,x,y,f⟩:=K.GQ i hi a k t h1 r
    exact{e,sub e p,x,y,λb o=>qg (f b o) (up b)}
   ·have s:i=a:=Classical.byContradiction λz=>by
     have c:k≤((az kn i).set i (bf (az kn i) i+1)).getD a 0:=h2;rw[jY z]at c;exact r c
    subst s;have c:k≤((az kn i).set i (bf (az kn i) i+1)).getD i 0:=h2;rw[aE g]at c;exact{dN kn i n wt,we _ (zh.mpr rfl),Y,by show bf (az kn i) i+1=k;omega,λb _=>up b}
  ·show o7 m _ ((kn.set i _).getD j [])
   rw[jY q];exact(K.GQ j l).mono sub
 ·rcases zf.mp h with q|q
  ·have:=K.cnt d q
   by_cases r:i=d.c7
   ·show d.num≤bf ((kn.set i _).getD d.c7 []) d.c7
    rw[←r,aE hl];rw[←r]at this;exact qg this (up i)
   ·show d.num≤bf ((kn.set i _).getD d.c7 []) d.c7
    rw[jY r];exact this
  ·rw[zh.mp q]
   show bf (az kn i) i+1≤bf ((kn.set i _).getD i []) i;rw[aE hl];show _≤((az kn i).set i _).getD i 0;rw[aE g];exact qi _
def Kn.start(m:Nat):Kn m [] (List.replicate m (List.replicate m 0))/\Wh m []:=by
 have z:∀i j,bf (az (List.replicate m (List.replicate m 0)) i) j=0:=λi j=>by
  unfold bf az;rw[ww,ww,yq]
  split
  ·show((List.replicate m 0)[j]?).getD 0=0
   rw[yq]
   split <;> rfl
  ·rfl
 refine{{by simp,λi hi=>?_,λi hi j k _ h1 h2=>?_,(λd a=>nomatch a)},{(λd a=>nomatch a),(λd a=>nomatch a),(λd a=>nomatch a),List.Pairwise.nil,(λd a=>nomatch a)}}
 ·unfold az
  rw[ww,yq,q0 hi]
  simp
 ·rw[z]at h2
  omega
theorem nj{b:Type}:∀{l:List b} {i j:Nat} {x:b},l.Nodup->l[i]?=some x->l[j]?=some x->i=j
 |[],_,_,_,_,h,_=>nomatch h
 |a::l,0,0,_,_,_,_=>rfl
 |a::l,0,j+1,x,nd,h1,h2=>by
  cases h1;exact absurd (List.mem_of_getElem? (by simpa using h2)) (List.nodup_cons.mp nd).1
 |a::l,i+1,0,x,nd,h1,h2=>by
  cases h2;exact absurd (List.mem_of_getElem? (by simpa using h1)) (List.nodup_cons.mp nd).1
 |a::l,i+1,j+1,x,nd,h1,h2=>congrArg (·+1) (nj (List.nodup_cons.mp nd).2 (by simpa using h1) (by simpa using h2))
theorem IK{b:Type}:∀{l:List b} {i:Nat} {x:b},l.Nodup->x∉l->(l.set i x).Nodup
 |[],_,_,nd,_=>nd
 |a::l,0,x,nd,h=>wf.mpr {λm=>h (ql _ m),(wf.mp nd).2}
 |a::l,i+1,x,nd,h=>wf.mpr {λm=>by
   rcases gv m with m|m
   ·exact(wf.mp nd).1 m
   ·exact h (by rw[m];exact qo),IK (wf.mp nd).2 λm=>h (ql _ m)}
abbrev nV(n:Nat):V:=.int (n:Int)
abbrev eJ(r:List Nat):List V:=r.map nV
def ip(d:Dd):List Key:=[.inl (d.c7:Int),.inl (d.num:Int)]
def eM(H:Hp)(ws:List Str)(v:V)(d:Dd):Prop:=∃q w a b x,v=.ref q/\ws[d.c7]?=some w/\H q=some (.tup [.str w,nV d.num,.ref a,b,x])/\H a=some (.tup (eJ d.hd))/\DT H b d.br/\DT H x (.tuple d.wt)
def eM.mono(h:eM H ws v d)(s:ag H H'):eM H' ws v d:=by
 obtain⟨q,w,c,b,x,e,h1,h2,g,a,f⟩:=h;exact{q,w,c,b,x,e,h1,s _ _ h2,s _ _ g,a.same s,f.same s}
def HQ{H:Hp}{a b:Addr}{xs:List V}{o:HO}(d:H a=some (.tup xs))(c:H b=some o)(f:∀ys,o≠.tup ys):a≠b:=λe=>by
 subst e;rw[d]at c;exact f xs (qD c).symm
theorem eM.wr(h:eM H ws v d)(e:H a=some o)(c:∀ys,o≠.tup ys):eM (upd H a o') ws v d:=by
 obtain⟨q,w,g,b,x,k,h1,h2,f,j,i⟩:=h;exact{q,w,g,b,x,k,h1,by rw[aP (HQ h2 e c)];exact h2,by rw[aP (HQ f e c)];exact f,j.wr e c,i.wr e c}
def fT(H:Hp)(ws:List Str)(des:List V)(ds:List Dd):Prop:=des.length=ds.length/\∀(i:Nat) (d:Dd),ds[i]?=some d->∃v,des[i]?=some v/\eM H ws v d
theorem fT.mono(h:fT H ws des ds)(s:ag H H'):fT H' ws des ds:={h.1,λi d e=>let⟨v,a,b⟩:=h.2 i d e;{v,a,b.mono s}}
theorem fT.wr(h:fT H ws des ds)(e:H a=some o)(f:∀ys,o≠.tup ys):fT (upd H a o') ws des ds:={h.1,λi d c=>let⟨v,x,b⟩:=h.2 i d c;{v,x,b.wr e f}}
def fT.snoc(h:fT H ws des ds)(b:eM H ws v d):fT H ws (des++[v]) (ds++[d]):=by
 refine{by simp[h.1],λi d' e=>?_}
 by_cases hi:i<ds.length
 ·rw[ym hi]at e
  obtain⟨x,h1,h2⟩:=h.2 i d' e;exact{x,by rw[ym (by rw[h.1];exact hi)];exact h1,h2}
 ·rw[j4 ()]at e
  have a:i - ds.length=0:=by
   have:=(zr.mp e).1
   simp at this
   omega
  rw[a]at e;cases e;exact{v,by rw[j4 (by rw[h.1];omega),h.1,a];rfl,b}
structure fK(H0 H:Hp)(kp tp dp:Addr)(ws:List Str)(kn:List (List Nat))(td ds:List Dd)(ks:List Addr)(kvs:List (List Key×V))(des:List V):Prop where
 same:ag H0 H
 jG:H kp=some (.lst (ks.map V.ref))
 iq:ks.length=kn.length
 rows:∀i k,ks[i]?=some k->H k=some (.lst (eJ (az kn i)))
 nd:ks.Nodup
 kk:kp∉ks
 kd:kp≠dp
 dk:dp∉ks
 fk:H0 kp=none
 ft:H0 tp=none
 fd:H0 dp=none
 fr:∀k∈ks,H0 k=none
 l9:H tp=some (.dT kvs)
 tab:∀d∈td,∃q,eQ kvs (ip d)=some (.ref q)/\H q=some (.lst (eJ d.hd))/\q≠kp/\q≠dp/\q∉ks
 kC:kvs.length≤td.length
 dat:H dp=some (.lst des)
 fQ:fT H ws des ds
section
variable {H0 H H':Hp}{kp tp dp:Addr}{ws:List Str}{kn:List (List Nat)}{td ds:List Dd}{ks:List Addr}{kvs:List (List Key×V)}{des:List V}
theorem fK.mono(h:fK H0 H kp tp dp ws kn td ds ks kvs des)(s:ag H H'):fK H0 H' kp tp dp ws kn td ds ks kvs des where
 same:=h.same.trans s
 jG:=s _ _ h.jG
 iq:=h.iq
 rows:=λi k e=>s _ _ (h.rows i k e)
 nd:=h.nd
 kk:=h.kk
 kd:=h.kd
 dk:=h.dk
 fk:=h.fk
 ft:=h.ft
 fd:=h.fd
 fr:=h.fr
 l9:=s _ _ h.l9
 tab:=λd f=>let⟨q,a,b,c⟩:=h.tab d f;{q,a,s _ _ b,c}
 kC:=h.kC
 dat:=s _ _ h.dat
 fQ:=h.fQ.mono s
def fK.tk(h:fK H0 H kp tp dp ws kn td ds ks kvs des)(b:k∈ks):tp≠k:=λe=>by
 obtain⟨i,hi,a⟩:=vj.mp b;have:=h.rows i k (by rw[qm hi,a]);rw[←e,h.l9]at this;cases this
def fK.S4(h:fK H0 H kp tp dp ws kn td ds ks kvs des):tp≠kp:=λe=>by
 have:=h.jG;rw[←e,h.l9]at this;cases this
def fK.SH(h:fK H0 H kp tp dp ws kn td ds ks kvs des):tp≠dp:=λe=>by
 have:=h.dat;rw[←e,h.l9]at this;cases this
def Co:∀ys,(HO.lst xs)≠.tup ys:=λys e=>by cases e
def BZ:∀ys,(HO.dT xs)≠.tup ys:=λys e=>by cases e
def fK.row(h:fK H0 H kp tp dp ws kn td ds ks kvs des)(e:ks[i]?=some k):fK H0 (upd H k (.lst (eJ r))) kp tp dp ws (kn.set i r) td ds ks kvs des:=by
 have hm:k∈ks:=qx e;have hi:i<ks.length:=(zr.mp e).1;refine{h.same.wr (h.fr k hm),?_,by rw[vq];exact h.iq,λj g c=>?_,h.nd,h.kk,h.kd,h.dk,h.fk,h.ft,h.fd,h.fr,?_,λd m=>?_,h.kC,?_,h.fQ.wr (h.rows i k e) Co}
 ·rw[aP (λz=>h.kk (by rw[z];exact hm))];exact h.jG
 ·by_cases q:i=j
  ·subst q
   have:g=k:=by rw[e]at c;exact(qD c).symm
   subst this;rw[aN];show _=some (HO.lst (eJ ((kn.set i r).getD i [])));rw[aE (by rw[←h.iq];exact hi)]
  ·have f:g≠k:=λz=>by
    subst z;exact q (nj h.nd e c)
   rw[aP f];show _=some (HO.lst (eJ ((kn.set i r).getD j [])));rw[jY q];exact h.rows j g c
 ·rw[aP (h.tk hm)];exact h.l9
 ·obtain⟨q,a,b,c1,c2,l⟩:=h.tab d m
  exact{q,a,by rw[aP (λz=>l (by rw[z];exact hm))];exact b,c1,c2,l}
 ·rw[aP (λz=>h.dk (by rw[z];exact hm))];exact h.dat
def fK.swap(h:fK H0 H kp tp dp ws kn td ds ks kvs des)(hi:i<kn.length)(f:H p=none):fK H0 (upd (upd H p (.lst (eJ r))) kp (.lst ((ks.set i p).map V.ref))) kp tp dp ws (kn.set i r) td ds (ks.set i p) kvs des:=by
 have g:=h.mono (ag.new (o:=.lst (eJ r)) f)
 have l:i<ks.length:=by rw[h.iq];exact hi
 have ne:∀{a o},H a=some o->p≠a:=λe z=>by subst z;rw[f]at e;cases e
 have t:p∉ks:=λm=>by
  obtain⟨j,u,s⟩:=vj.mp m;exact ne (h.rows j p (by rw[qm u,s])) rfl
 have mem:∀{x},x∈ks.set i p->x∈ks\/x=p:=λm=>gv m
 have y:H0 p=none:=by
  cases e:H0 p with
  |none=>rfl
  |some o=>rw[h.same _ _ e]at f;cases f
 refine{g.same.wr h.fk,aN,by rw[vq,vq];exact h.iq,λj n c=>?_,?_,λm=>?_,h.kd,λm=>?_,h.fk,h.ft,h.fd,λk m=>?_,?_,λd w=>?_,h.kC,?_,g.fQ.wr g.jG Co}
 ·by_cases q:i=j
  ·subst q
   rw[ja l]at c;cases c;rw[aP (ne h.jG),aN];show _=some (HO.lst (eJ ((kn.set i r).getD i [])));rw[aE hi]
  ·rw[yb q]at c
   have hm:n∈ks:=qx c;rw[aP (λz=>h.kk (by rw[←z];exact hm))];show _=some (HO.lst (eJ ((kn.set i r).getD j [])));rw[jY q];exact g.rows j n c
 ·exact IK h.nd t
 ·rcases mem m with m|m
  ·exact h.kk m
  ·exact ne h.jG m.symm
 ·rcases mem m with m|m
  ·exact h.dk m
  ·exact ne h.dat m.symm
 ·rcases mem m with m|m
  ·exact h.fr k m
  ·rw[m];exact y
 ·rw[aP h.S4];exact g.l9
 ·obtain⟨q,a,b,c1,c2,v⟩:=h.tab d w
  refine{q,a,?_,c1,c2,λm=>?_}
  ·rw[aP c1,aP (λz=>ne b z.symm)];exact b
  ·rcases mem m with m|m
   ·exact v m
   ·exact ne b m.symm
 ·rw[aP (λz=>h.kd z.symm)];exact g.dat
def fK.put(h:fK H0 H kp tp dp ws kn td ds ks kvs des){d:Dd}{q:Addr}(f:H q=some (.lst (eJ d.hd)))(o:q≠kp)(j:q≠dp)(g:q∉ks)(un:∀e∈td,ip e≠ip d) :
  fK H0 (upd H tp (.dT (putK kvs (ip d) (.ref q)))) kp tp dp ws kn (td++[d]) ds ks (putK kvs (ip d) (.ref q)) des:=by
 have n:q≠tp:=λz=>by subst z;rw[h.l9]at f;cases f
 refine{h.same.wr h.ft,?_,h.iq,λi k e=>?_,h.nd,h.kk,h.kd,h.dk,h.fk,h.ft,h.fd,h.fr,aN,λe l=>?_,?_,?_,h.fQ.wr h.l9 BZ}
 ·rw[aP (λz=>h.S4 z.symm)];exact h.jG
 ·rw[aP (λz=>h.tk (qx e) z.symm)];exact h.rows i k e
 ·rcases zf.mp l with m|m
  ·obtain⟨q',a,b,c⟩:=h.tab e m
   refine{q',by rw[KL,qq (un e m)];exact a,?_,c};rw[aP (λz=>by subst z;rw[h.l9]at b;cases b)];exact b
  ·rw[zh.mp m]
   exact{q,by rw[KL,q0 rfl],by rw[aP n];exact f,o,j,g}
 ·have:=AB kvs (ip d) (.ref q)
  have:=h.kC;rw[qu,zy];omega
 ·rw[aP (λz=>h.SH z.symm)];exact h.dat
def fK.add(h:fK H0 H kp tp dp ws kn td ds ks kvs des)(f:eM H ws v d):fK H0 (upd H dp (.lst (des++[v]))) kp tp dp ws kn td (ds++[d]) ks kvs (des++[v]):=by
 refine{h.same.wr h.fd,?_,h.iq,λi k e=>?_,h.nd,h.kk,h.kd,h.dk,h.fk,h.ft,h.fd,h.fr,?_,λe c=>?_,h.kC,aN,(h.fQ.snoc f).wr h.dat Co}
 ·rw[aP h.kd];exact h.jG
 ·rw[aP (λz=>h.dk (by rw[←z];exact qx e))];exact h.rows i k e
 ·rw[aP h.SH];exact h.l9
 ·obtain⟨q,a,b,c1,c2,g⟩:=h.tab e c
  exact{q,a,by rw[aP c2];exact b,c1,c2,g}
def fK.HI(h:fK H0 H kp tp dp ws kn (td++[d]) ds ks kvs des)(e:ip d2=ip d)(a:d2.hd=d.hd):fK H0 H kp tp dp ws kn (td++[d2]) ds ks kvs des :=
 {h.same,h.jG,h.iq,h.rows,h.nd,h.kk,h.kd,h.dk,h.fk,h.ft,h.fd,h.fr,h.l9,λx b=>by
  rcases zf.mp b with m|m
  ·exact h.tab x (vp _ m)
  ·rw[zh.mp m,e,a]
   exact h.tab d (we _ (zh.mpr rfl)),by have:=h.kC;rw[qu,zy]at this ⊢;exact this,h.dat,h.fQ}
def fK.guard(h:fK H0 H kp tp dp ws kn td ds ks kvs des)(j:H p=none)(s:ag H H')(e:H' p=some o):fK (upd H0 p o) H' kp tp dp ws kn td ds ks kvs des:=by
 have ne:∀{a u},H a=some u->a≠p:=λ{a u} d z=>by rw[z,j]at d;cases d
 have g:=h.mono s;refine{λb u q=>?_,g.jG,g.iq,g.rows,g.nd,g.kk,g.kd,g.dk,?_,?_,?_,λk c=>?_,g.l9,g.tab,g.kC,g.dat,g.fQ}
 ·by_cases z:b=p
  ·subst z
   rw[aN]at q;rw[e];exact q
  ·rw[aP z]at q
   exact g.same b u q
 ·rw[aP (ne h.jG)];exact h.fk
 ·rw[aP (ne h.l9)];exact h.ft
 ·rw[aP (ne h.dat)];exact h.fd
 ·obtain⟨i,hi,f⟩:=vj.mp c
  rw[aP (ne (h.rows i k (by rw[qm hi,f])))];exact h.fr k c
def fK.weak(s:ag H0 H1)(h:fK H1 H kp tp dp ws kn td ds ks kvs des):fK H0 H kp tp dp ws kn td ds ks kvs des :=
 {s.trans h.same,h.jG,h.iq,h.rows,h.nd,h.kk,h.kd,h.dk,s.free h.fk,s.free h.ft,s.free h.fd,λk a=>s.free (h.fr k a),h.l9,h.tab,h.kC,h.dat,h.fQ}
def fK.rowAt(h:fK H0 H kp tp dp ws kn td ds ks kvs des)(hi:i<kn.length):∃k,ks[i]?=some k/\H k=some (.lst (eJ (az kn i)))/\kR (ks.map V.ref) (i:Int)=some (.ref k):=by
 have a:i<ks.length:=by rw[h.iq];exact hi
 exact{ks[i],qm a,h.rows i _ (qm a),bj (by rw[zj,qm a];rfl)}
end
def f9{r:List Nat}{i:Nat}(h:i<r.length):kR (eJ r) (i:Int)=some (nV (bf r i)):=bj (by
 rw[zj,qm h];unfold bf
 rw[ww,qm h];rfl)
def yP{a:Type}{xs:List a}{j:Nat}{v:a}(h:kR xs (j:Int)=some v):kR xs (0+(j:Int))=some v:=by rw[Int.zero_add];exact h
def lS(h:i<n):tG n (i:Int)=some i:=by
 unfold tG;rw[q0 (),q0 ()]
 simp
def mT(r:List Nat)(i x:Nat):(eJ r).set i (nV x)=eJ (r.set i x):=by
 unfold eJ;rw[jj]
def ot(a b:Nat):(if(b:Int)>(a:Int) then(b:Int) else(a:Int))=((max a b:Nat):Int):=by
 split <;> omega
def oX(m:Nat):(List.replicate ((m:Int).toNat) [V.int 0]).flatten=eJ (List.replicate m 0):=by
 rw[Int.toNat_natCast]
 induction m with
 |zero=>rfl
 |succ m a =>
  rw[w6,yj,a,w6];rfl
def uV(h:¬(a.c7=b.c7/\a.num=b.num)):ip a≠ip b:=λe=>by
 unfold ip at e;injection e with e1 e2;injection e2 with e2 _;injection e1 with e1;injection e2 with e2;exact h {(),()}
def jB(h:i<m):az (List.replicate m (List.replicate m 0)) i=List.replicate m 0:=by
 unfold az;rw[ww,yq,q0 h];rfl
end Hs
namespace My
open PySem L2 PyProof.Rows
def ar(h:Nat.ble n 1000=true):n≤sizeLine:=qj (aC (ze h))
def TX{x m:Int}{j:Nat}(c:0<m)(h1:m≤2147483647)(d:j<31):-(2 ^ 64)<x % m+(0+(j:Int))+2/\x % m+(0+(j:Int))+2<2 ^ 64:=by
 have a:=dE x c;have b:=dQ x c;omega
def P6:∀c∈("abcdefghijklmnopqrstuvwxyz":Str).cps.toList,97≤c/\c≤122:=∅
def J2{a:Type}{xs:List a}{i:Int}{v:a}(h:kR xs i=some v):v∈xs:=by
 unfold kR at h
 cases e:tG xs.length i with
 |none=>rw[e]at h;cases h
 |some j=>rw[e]at h;exact qx h
def vM(z:Str)(c:Nat):(z++{#[c]}:Str).cps.toList=z.cps.toList++[c]:=by
 show(z.cps++#[c]).toList=_
 simp
def QL(z:Str):(aJ z none (some 7)).cps.toList=z.cps.toList.take 7:=by
 unfold aJ;show(z.cps.toList.drop 0).take (min 7 z.length - 0)=_;rw[yd,Nat.sub_zero]
 by_cases h:7≤z.length
 ·rw[jk h]
 ·have hl:z.cps.toList.length=z.length:=by simp;rfl
  rw[Nat.min_eq_right (),vm (),vm ()]
def Po(h:a8 z)(b:97≤c/\c≤122):a8 (aJ z none (some 7)++{#[c]}):=by
 have e:(aJ z none (some 7)++⟨#[c]⟩:Str).cps.toList=z.cps.toList.take 7++[c]:=by rw[vM,QL]
 have sz:(aJ z none (some 7)++⟨#[c]⟩:Str).cps.size=(z.cps.toList.take 7).length+1:=by rw[←zt,e,qu,zy]
 refine{(),?_,λd a=>?_}
 ·rw[sz,wx];omega
 ·rw[e]at a
  rcases zf.mp a with q|q
  ·exact h.2.2 d (gw q)
  ·rw[zh.mp q];exact b
def LD(h:a8 z):(PyData.str z).canLay0=true:=by
 show PyData.strOk z=true;unfold PyData.strOk;rw[←Array.all_toList,zk];intro c a;have:=h.2.2 c a;exact qs ()
structure RL(H:Hp)(p:Addr)(ws:List Str):Prop where
 at':H p=some (.lst (ws.map V.str))
 pos:0<ws.length
 bg:ws.length≤6
 wd:∀w∈ws,a8 w
def RL.mono(r:RL H p ws)(s:ag H H'):RL H' p ws:={s _ _ r.at',r.pos,r.bg,r.wd}
def RL.len(r:RL H p ws):(0:Int)<((ws.map V.str).length:Int)/\((ws.map V.str).length:Int)<1073741824:=by
 have a:=r.pos;have b:=r.bg;rw[qf];omega
structure DR(H:Hp)(p:Addr)(ns:List Int)(n:Nat):Prop where
 at':H p=some (.lst (List.map V.int ns))
 len:n≤ns.length
 bg:ns.length≤100
def DR.mono(r:DR H p a n)(s:ag H H'):DR H' p a n:={s _ _ r.at',r.len,r.bg}
def DR.get(r:DR H p a n)(k:Nat)(h:k<n):∃i,kR (List.map V.int a) (k:Int)=some (.int i):=by
 have b:k<a.length:=zo h r.len;exact{a[k],bj (by rw[zj,qm b];rfl)}
inductive AU(vs:List V)(H:Hp)(Q:VK)(_:XK):Prop
 |mk(i:_)(n:Nat)(_:vs=[.int i,.int n])(_:n≤30)(_:∀H' p ns,ag H H'->H p=none->DR H' p ns n->ns.length=n->Q (.ref p) H')
inductive AW(vs:List V)(H:Hp)(Q:VK)(_:XK):Prop
 |mk(i:_)(_:vs=[.int i])(_:∀z:Str,a8 z->Q (.str z) H)
inductive Ge(vs:List V)(H:Hp)(Q:VK)(_:XK):Prop
 |mk(i:_)(_:vs=[.int i])(_:∀H' p ws,ag H H'->H p=none->RL H' p ws->2≤ws.length->ws.Nodup->Q (.ref p) H')
inductive GR(P:List Str->PyData->Prop)(vs:List V)(H:Hp)(Q:VK)(_:XK):Prop
 |mk(i p ws:_)(_:vs=[.int i,.ref p])(_:RL H p ws)(_:∀H' v d,ag H H'->DT H' v d->P ws d->Q v H')
def tupP(P:List Str->List PyData->Prop)(ws:List Str)(d:PyData):Prop:=∃ds,d=.tuple ds/\P ws ds
def Ej:Sp:=GR (tupP eC)
def Bc:Sp:=GR (tupP dr)
def B_:Sp:=GR (tupP nh)
def FP:Sp:=GR gG
def An:Sp:=GR iD
def BI:Sp:=GR xO
inductive DN(vs:List V)(H:Hp)(Q:VK)(_:XK):Prop
 |mk(d p ws ns:_)(_:vs=[.ref d,.ref p])(_:RL H p ws)(_:DR H d ns 1)(_:∀H' v sg,ag H H'->DT H' v (.tuple sg)->1≤sg.length->sg.length≤12->(∀x∈sg,iD ws x)->Q v H')
inductive GO(vs:List V)(H:Hp)(Q:VK)(_:XK):Prop
 |mk(d p ws ns:_)(_:vs=[.ref d,.ref p])(_:RL H p ws)(_:DR H d ns 1)(_:∀H' v (nn:List (List PyData)),ag H H'->DT H' v (.tuple (nn.map .tuple))->1≤nn.length->nn.length≤12->(∀x∈nn,nh ws x)->nn.Nodup->Q v H')
inductive CM(vs:List V)(H:Hp)(Q:VK)(_:XK):Prop
 |mk(i d p ws ns:_)(_:vs=[.int i,.ref d,.ref p])(_:RL H p ws)(_:DR H d ns 6)(_:∀H' v wt,ag H H'->DT H' v (.tuple wt)->(∀num,bY ws num wt)->Q v H')
inductive DZ(vs:List V)(H:Hp)(Q:VK)(_:XK):Prop
 |mk(i d p ws ns:_)(_:vs=[.int i,.ref d,.ref p])(_:RL H p ws)(_:DR H d ns 6)(_:∀H' v wt,ag H H'->DT H' v (.tuple wt)->(∀num,bY ws num wt)->Q v H')
inductive A5(vs:List V)(H:Hp)(Q:VK)(_:XK):Prop
 |mk(d p ws ns n:_)(_:vs=[.ref d,.ref p,.int n])(_:RL H p ws)(_:DR H d ns 8)(_:∀H' v wt,ag H H'->DT H' v (.tuple wt)->bY ws n wt->Q v H')
section
variable {K:PySem.W.Frag}{vs:List V}{H:Hp}{Q:VK}{E:XK}
end
inductive E3(vs:List V)(H:Hp)(Q:VK)(_:XK):Prop
 |mk(sp ns most:_)(_:vs=[.ref sp,.int most])(_:au H sp (List.map V.int ns))(_:ns.length≤63)(_:∀H' p rp dp ws ds des,ag H H'->H p=none->H' p=some (.tup [.ref rp,.ref dp])->RL H' rp ws->2≤ws.length->ws.Nodup->H dp=none->H' dp=some (.lst des)->Hs.fT H' ws des ds->Hs.Wh ws.length ds->(∀d∈ds,xO ws d.br/\bY ws d.num d.wt)->ds.length≤ns.length - 1->Q (.ref p) H')
def uv(b:Bool):(0:Int)≤(if b=true then 1 else 0):=by cases b <;> decide
def rW(b:Bool):(if b=true then 1 else 0:Int)<(([x,y]:List V).length:Int):=by cases b <;> simp
def rR{a:List Int}{lo hi:Option Int}{x:V}(h:x∈bR (List.map V.int a) lo hi):∃m,x=V.int m:=by
 unfold bR at h;obtain⟨n,_,e⟩:=qk.mp (jm (gw h));exact{n,e.symm}
def oF(z:Str):Option Nat:=z.cps.toList.getLast?
def m4(ws:List Str)(i:Nat)(w:Str):Prop:=w∉ws\/∃S:List Str,S.Nodup/\(∀x∈S,x∈ws)/\i≤S.length+1/\(∀x∈S,∃j,j+1<i/\oF x=some (97+j))/\(i=0\/oF w=some (97+(i - 1)))
def QZ(ws:List Str)(w:Str):m4 ws 0 w:=.inr {[],vy,(λ_ z=>nomatch z),(),(λ_ z=>nomatch z),.inl rfl}
def E4(z:Str)(c:Nat):oF (z++{#[c]})=some c:=by
 unfold oF;show((z.cps++#[c]).toList).getLast?=some c
 simp
def Pe(h:m4 ws i w)(b:w∈ws):m4 ws (i+1) (z++{#[97+i]}):=by
 rcases h with h|⟨S,nd,sub,len,lst,lw⟩
 ·exact absurd b h
 ·right
  rcases lw with rfl|lw
  ·exact⟨[],List.nodup_nil,(λ_ z=>nomatch z),by simp,(λ_ z=>nomatch z),.inr (E4 _ _)⟩
  ·by_cases hi:i=0
   ·subst hi
    exact⟨[],List.nodup_nil,(λ_ z=>nomatch z),by simp,(λ_ z=>nomatch z),.inr (E4 _ _)⟩
   ·refine⟨w::S,wf.mpr ⟨λm=>?_,nd⟩,λx a=>?_,by rw[zi];omega,λx a=>?_,.inr (E4 _ _)⟩
    ·obtain⟨j,c,e⟩:=lst w m
     rw[lw]at e;have:=qD e;omega
    ·rcases qr.mp a with rfl|a
     ·exact b
     ·exact sub x a
    ·rcases qr.mp a with rfl|a
     ·exact⟨i - 1,(),lw⟩
     ·obtain⟨j,c,e⟩:=lst x a
      exact{j,(),e}
def RN(h:m4 ws 8 w)(hl:ws.length≤6):w∉ws:=by
 rcases h with h|⟨S,nd,sub,len,_,_⟩
 ·exact h
 ·have:=gg nd sub
  omega
def Fg(h:c<8)(e:("abcdefgh":Str).cps[c]?=some ch):ch=97+c:=by
 have q:("abcdefgh":Str).cps=#[97,98,99,100,101,102,103,104]:=∅
 rw[q]at e
 have a:c=0\/c=1\/c=2\/c=3\/c=4\/c=5\/c=6\/c=7:=()
 rcases a with rfl|rfl|rfl|rfl|rfl|rfl|rfl|rfl <;> (simp at e;omega)
def Qz(ws:List Str):(ws.map V.str).all hV=true:=by
 rw[wy];exact zk.mpr λ_ _=>rfl
def o9(w:Str)(ws:List Str):pY (.str w) (ws.map V.str)=decide (w∈ws):=by
 unfold pY
 induction ws with
 |nil=>rfl
 |cons x ws a =>
  rw[qw,yi,a];show(x==w||decide (w∈ws))=decide (w∈x::ws)
  by_cases e:x=w
  ·subst e;simp
  ·have b:¬w=x:=λz=>e z.symm
   simp[e,b]
def R5{ws:List Str}{w:Str}(nd:ws.Nodup)(h:w∉ws):(ws++[w]).Nodup:=DM nd h
def PF(a:List Int)(lo hi:Option Int):bR (List.map V.int a) lo hi=List.map V.int ((a.drop (HT.bV a.length 0 lo)).take (HT.bV a.length a.length hi - HT.bV a.length 0 lo)):=by
 unfold bR;rw[qf,List.map_take,j5]
def DR.from(r:DR H d a n)(k:Nat)(h:k≤n)(e:H' q=some (.lst (bR (List.map V.int a) (some (k:Int)) none))):DR H' q (a.drop k) (n - k):=by
 have hl:=r.len;refine{?_,by rw[vg];omega,by have:=r.bg;rw[vg];omega};rw[e,PF,HT.cL,HT.cG,jk (),vm (by rw[vg];exact qi _)]
end My
namespace L2
open PySem PySem.Spec PySem.W PyProof.Rows My
theorem Ks:∀ws:List Str,oa H (ws.map V.str) (ws.map PyData.str)
 |[]=>.nil
 |w::ws=>.cons (.str w) (Ks ws)
theorem MU:∀{ws:List Str},(∀w∈ws,a8 w)->PyData.canLayAll0 (ws.map PyData.str)=true
 |[],_=>by first|rfl|(unfold PyData.canLayAll0;rfl)
 |w::ws,h=>by
  show PyData.canLayAll0 (.str w::ws.map PyData.str)=true;unfold PyData.canLayAll0;rw[LD (h w qo),MU λx a=>h x (ql _ a)];rfl
def u9{z:Str}{ws:List Str}(h:z∈ws):ws[ws.idxOf z]?=some z:=by
 induction ws with
 |nil=>exact absurd h (by simp)
 |cons w ws b =>
  by_cases e:w=z
  ·subst e;simp[List.idxOf_cons]
  ·have h':z∈ws:=(qr.mp h).resolve_left λx=>e x.symm
   have a:(w==z)=false:=beq_eq_false_iff_ne.mpr e;rw[List.idxOf_cons,a];simpa using b h'
def NJ{z:Str}{ws:List Str}{m:Nat}(h:m<ws.idxOf z):ws[m]?≠some z:=by
 intro e;have:=List.not_of_lt_findIdx (p:=(·==z)) (xs:=ws) h;have hm:m<ws.length:=(zr.mp e).1;have a:ws[m]=z:=(zr.mp e).2;rw[a]at this
 simp at this
def Kp(a b:Str):PyData.eqv (.str a) (.str b)=decide (a=b):=by
 cases e:PyData.eqv (.str a) (.str b) with
 |true=>exact(qs (PyData.str.inj ((tZ _ _ rfl rfl).mp e))).symm
 |false=>exact(decide_eq_false λh=>by rw[(tZ _ _ rfl rfl).mpr (congrArg PyData.str h)]at e;exact Bool.noConfusion e).symm
def Im(hw:RL H p ws)(b:z∈ws)(q:Q (.int ((ws.idxOf z:Nat):Int)) H):lY 61 (.ref p) [.str z] H Q :=
 {.str z,.str z,p,ws.map PyData.str,ws.map V.str,ws.idxOf z,Y,Y,.str z,au.of hw.at',Ks ws,LD (hw.wd z b),MU hw.wd,(by show PyData.depth (.str z)≤61;simp[PyData.depth]),{.str z,by rw[List.getElem?_map,u9 b];rfl,by rw[Kp];simp},λm d hm a=>by
  rw[zj]at a
  cases e:ws[m]? with
  |none=>rw[e]at a;exact nomatch a
  |some w =>
   rw[e]at a;have a:PyData.str w=d:=qD a;subst a;rw[Kp]
   exact decide_eq_false λx=>NJ hm (x▸e),q}
end L2
namespace L2
open PySem PySem.Spec PySem.W PyProof.Rows
section
variable {X:Cx}
inductive KA(x y:V)(H:Hp)(Q:VK):Prop
 |mk(a b xs ys:_)(_:x=.ref a)(_:y=.ref b)(_:H a=some (.tup xs))(_:H b=some (.tup ys))(_:xs.length+ys.length≤sizeLine)(_:∀p H',ag H H'->H' p=some (.tup (xs++ys))->Q (.ref p) H')
def PC:df X (binaryOp .Add) KA:=by
 intro pins s σ H x y v u Q I B m h;obtain⟨a,b,xs,ys,rfl,rfl,A,j,D,q⟩:=h
 by_cases z:xs=[]
 ·subst z
  cases B;cases m;obtain⟨e,E,p1,_⟩:=I.tuple (aI.of A);obtain⟨c,J,p2,_⟩:=I.tuple (aI.of j);obtain⟨⟨cls,dd,t,C⟩,o,w,n,p⟩:=id p1;obtain⟨⟨r,l,k,i⟩,d,f,n2,g⟩:=id p2
  simp only at w p f g
  subst w p f g;have G:e=[]:=E.i4.mpr rfl
  exact concat_meets {_,o,Y} {_,d,Y} noFill_tuple_add seq_tuple_add PySem.F.slot_tuple_add PySem.F.entry_tuple_add (PySem.F.args_tuple_add_2 _ _)
   (tuple_addW0 a b e.toArray c.toArray n n2 dd l C i (by simp[G])) {o,d,{.ref b,H,I,Y,q b H (ag.refl _) j}}
 ·exact N0 pins s σ H _ _ v u Q I B m ⟨a,b,xs,ys,Y,Y,A,j,z,D,q⟩
end
end L2
namespace Stb
open PySem SetTable
def Mk(m:Nat):Prop:=m=7\/m=31\/m=127
def F(M:Nat):Nat->Nat
 | 0=>0
 |n+1=>(F M n * 5+1) % M
def Bk:∀j,j<8->∃a,a<8/\F 8 a=j:=∅
def Px:∀j,j<32->∃a,a<32/\F 32 a=j:=∅
def RM:∀j,j<128->∃a,a<128/\F 128 a=j:=∅
def zK(h:Mk m):∀j,j<m+1->∃a,a<m+1/\F (m+1) a=j:=by
 rcases h with rfl|rfl|rfl
 ·exact Bk
 ·exact Px
 ·exact RM
def Ew(h:Mk m):F (m+1) (m+1)=0:=by
 rcases h with rfl|rfl|rfl <;> decide +kernel
def lp(m:Nat):Nat->Nat×Nat->Nat×Nat
 | 0,x=>x
 |r+1,x=>lp m r (leap m x.1 x.2)
def KJ(m r a:Nat)(x:Nat×Nat):lp m (r+a) x=lp m a (lp m r x):=by
 induction r generalizing x with
 |zero=>rw[yy];rfl
 |succ r b=>rw[Nat.succ_add];exact b _
theorem xK:∀(r:Nat) (x:Nat×Nat),x.1<m+1->(lp m r x).1<m+1
 | 0,_,h=>h
 |r+1,x,_=>xK r _ (yn _ (yo _))
theorem IS(m:Nat):∀(r:Nat) (x:Nat×Nat),(lp m r x).2=x.2 / 32 ^ r
 | 0,x=>by rw[Nat.pow_zero,Nat.div_one];rfl
 |r+1,x=>by
  show(lp m r (leap m x.1 x.2)).2=_;rw[IS m r,show(leap m x.1 x.2).2=x.2 / 32 from rfl,Nat.div_div_eq_div_mul,Nat.pow_succ,jw]
theorem DW(m:Nat):∀(r a:Nat),lp m r (F (m+1) a,0)=(F (m+1) (a+r),0)
 | 0,_=>rfl
 |r+1,a=>by
  show lp m r (leap m (F (m+1) a) 0)=_
  have:leap m (F (m+1) a) 0=(F (m+1) (a+1),0):=by
   show((F (m+1) a * 5+1+0 / 32) % (m+1),0 / 32)=_;rw[Nat.zero_div,j6];rfl
  rw[this,DW m r (a+1),Nat.add_right_comm,j7]
def M0(h:Mk m)(n:Nat):F (m+1) (m+1+n)=F (m+1) n:=by
 induction n with
 |zero=>exact Ew h
 |succ n a =>
  show(F (m+1) (m+1+n) * 5+1) % (m+1)=_;rw[a];rfl
def reach(h:Mk m)(hi:i<m+1)(e:q<2 ^ 64)(g:j<m+1):∃r,r≤m+13/\(lp m r (i,q)).1=j:=by
 have h1:=xK 13 (i,q) hi
 have h2:(lp m 13 (i,q)).2=0:=by
  rw[IS];exact Nat.div_eq_of_lt (zo e ⋯)
 obtain⟨a,l,f⟩:=zK h _ h1;obtain⟨b,k,c⟩:=zK h _ g;have d:lp m 13 (i,q)=(F (m+1) a,0):=Prod.ext f.symm h2
 by_cases q:a≤b
 ·refine{13+(b - a),(),?_}
  rw[KJ,d,DW];show F (m+1) (a+(b - a))=j;rw[Nat.add_sub_cancel' q,c]
 ·refine{13+(m+1 - a+b),(),?_}
  rw[KJ,d,DW];show F (m+1) (a+(m+1 - a+b))=j;rw[show a+(m+1 - a+b)=m+1+b from (),M0 h,c]
def cZ(t:SetTable):Nat->Probe->Probe
 | 0,p=>p
 |n+1,p=>cZ t n (t.advance p)
def ua(t:SetTable)(n a:Nat)(p:Probe):cZ t (n+a) p=cZ t a (cZ t n p):=by
 induction n generalizing p with
 |zero=>rw[yy];rfl
 |succ n b=>rw[Nat.succ_add];exact b _
def at'(m i q:Nat):Probe:={ j:=i,more:=runEnd m i - i,i,perturb:=q,dummy:=none }
theorem A6(t:SetTable):∀(c k:Nat) (p:Probe),p.more=c+k->cZ t c p={ p with j:=p.j+c,more:=k }
 | 0,k,p,h=>by
  have:p.more=k:=()
  show p={ p with j:=p.j+0,more:=k };rw[←this];rfl
 |c+1,k,p,h=>by
  show cZ t c (t.advance p)=_
  have e:t.advance p={ p with j:=p.j+1,more:=p.more - 1 }:=by
   unfold advance;rw[q0 ()]
  rw[e,A6 t c k _ (by show p.more - 1=c+k;omega)];show({ p with j:=p.j+1+c,more:=k }:Probe)={ p with j:=p.j+(c+1),more:=k };rw[show p.j+1+c=p.j+(c+1) from ()]
def D5(m i:Nat):runEnd m i - i≤9:=by
 unfold runEnd
 split <;> omega
def JY(t:SetTable)(i q:Nat):cZ t (runEnd t.mask i - i+1) (at' t.mask i q)=at' t.mask (leap t.mask i q).1 (leap t.mask i q).2:=by
 rw[ua,A6 t (runEnd t.mask i - i) 0 (at' t.mask i q) (by rw[j6];rfl)];show t.advance { at' t.mask i q with j:=_,more:=0 }=_;unfold advance;rw[qq (by show ¬(0>0);omega)];rfl
theorem G4(t:SetTable):∀(r i q:Nat),∃n,n≤10 * r/\cZ t n (at' t.mask i q)=at' t.mask (lp t.mask r (i,q)).1 (lp t.mask r (i,q)).2
 | 0,i,q=>{0,qi _,Y}
 |r+1,i,q=>by
  obtain⟨n,a,e⟩:=G4 t r (leap t.mask i q).1 (leap t.mask i q).2;have:=D5 t.mask i;refine{runEnd t.mask i - i+1+n,(),?_};rw[ua,JY,e];rfl
def JN(h:Int):bits h<2 ^ 64:=by
 unfold bits;have h1:(0:Int)≤h % (2 ^ 64:Int):=Int.emod_nonneg _ ⋯;have h2:h % (2 ^ 64:Int)<2 ^ 64:=Int.emod_lt_of_pos _ ⋯;omega
def comes{t:SetTable}(hm:Mk t.mask)(h:Int)(b:j<t.mask+1):∃n,n<10 * turns t.mask/\(cZ t n (t.probeStart h)).j=j:=by
 have hi:bits h % (t.mask+1)<t.mask+1:=yn _ (yo _);obtain⟨r,d,a⟩:=reach hm hi (JN h) b;obtain⟨n,c,e⟩:=G4 t r (bits h % (t.mask+1)) (bits h);refine{n,by unfold turns;omega,?_};show(cZ t n (at' t.mask (bits h % (t.mask+1)) (bits h))).j=j;rw[e];exact a
theorem Ly(t:SetTable):∀(n:Nat) (p:Probe),(cZ t n p).dummy=p.dummy
 | 0,_=>rfl
 |n+1,p=>by
  show(cZ t n (t.advance p)).dummy=_;rw[Ly t n];unfold advance
  split <;> rfl
def QH{t:SetTable}(a:t.dummies=#[])(h:j∉t.place.toList):t.slot j=.empty:=by
 unfold slot
 have h1:¬(t.place[below t.place j]?==some j)=true:=λz=>by
  have z:=beq_iff_eq.mp z;exact h (qx (by rw[wu];exact z))
 have h2:¬(has t.dummies j)=true:=by rw[a];unfold has;simp
 simp only[h1,h2]
 rfl
def oP{t:SetTable}(h:t.slot j=.live i):i<t.place.size:=by
 unfold slot at h;dsimp only at h
 split at h
 ·rename_i h1
  injection h with h;rw[←h];exact(vf.mp (beq_iff_eq.mp h1)).1
 ·split at h <;> cases h
def j_{t:SetTable}(a:t.dummies=#[]):t.slot j≠.dummy:=by
 unfold slot;dsimp only
 split
 ·simp
 ·rw[qq (by rw[a];unfold has;simp)]
  simp
def lC{l:List Nat}{M:Nat}(h:l.length<M):∃j,j<M/\j∉l:=by
 refine Classical.byContradiction λz=>?_;have:(List.range M).length≤l.length:=L2.gg List.nodup_range λx a=>Classical.byContradiction λy=>z {x,w5.mp a,y};rw[yc]at this;omega
structure Way(t:SetTable)(h:Int)(N:Nat):Prop where
 bg:N<10 * turns t.mask
 last:t.slot (cZ t N (t.probeStart h)).j=.empty
 first:∀n,n<N->t.slot (cZ t n (t.probeStart h)).j≠.empty
def BO{t:SetTable}(hm:Mk t.mask)(m:t.dummies=#[])(d:t.place.size<t.mask+1)(h:Int):∃N,Way t h N:=by
 obtain⟨j,i,g⟩:=lC (l:=t.place.toList) (M:=t.mask+1) (by simpa using d);obtain⟨n,a,e⟩:=comes hm h i;have c:∃n,n<10 * turns t.mask/\t.slot (cZ t n (t.probeStart h)).j=.empty:={n,a,by rw[e];exact QH m g};clear a e n;obtain⟨n,h1,h2⟩:=c
 induction n using Nat.strongRecOn with
 |_ n f =>
  by_cases q:∃k,k<n/\t.slot (cZ t k (t.probeStart h)).j=.empty
  ·obtain⟨k,b,e⟩:=q
   exact f k b () e
  ·exact{n,h1,h2,λk b e=>q {k,b,e}}
theorem M':∀(r f i q:Nat),r<f->owner.getD (lp m r (i,q)).1 (some 0)=none->∃j,layClean.free m owner f i q=some j/\owner.getD j (some 0)=none
 |_,0,_,_,h,_=>absurd h (yz _)
 |r,f+1,i,q,h,a=>by
  unfold layClean.free
  cases e:(List.range (runEnd m i+1 - i)).find? λk=>(owner.getD (i+k) (some 0)).isNone with
  |some k =>
   have:=j8 e;exact{i+k,Y,Option.isNone_iff_eq_none.mp this}
  |none =>
   cases r with
   |zero =>
    have b:(0:Nat)∈List.range (runEnd m i+1 - i):=w5.mpr (by unfold runEnd;split <;> omega);have:=gx.mp e 0 b;have a:owner.getD i (some 0)=none:=a;rw[j6,a]at this;exact absurd rfl this
   |succ r =>
    dsimp only;exact M' r f (leap m i q).1 (leap m i q).2 () a
theorem MP:∀{l:List (Option Nat)} {j:Nat},l[j]?=some none->((l.set j (some v)).filterMap id).Perm (v::l.filterMap id)
 |[],_,h=>by cases h
 |x::l,0,h=>by
  cases h;exact .refl _
 |x::l,j+1,h=>by
  have a:=MP (v:=v) (l:=l) (j:=j) (by simpa using h);rw[List.set_cons_succ]
  cases x with
  |none=>exact a
  |some y=>exact(a.cons y).trans (.swap _ _ _)
structure Lay(m k:Nat)(owner:Array (Option Nat)):Prop where
 size:owner.size=m+1
 perm:(owner.toList.filterMap id).Perm (List.range k)
def Qu(hm:Mk m)(L:Lay m k owner)(v:k<m+1)(h:Int):∃j,layClean.free m owner (turns m) (bits h % (m+1)) (bits h)=some j/\Lay m (k+1) (owner.setIfInBounds j (some k)):=by
 have f:∃j,j<m+1/\owner.getD j (some 0)=none:=by
  refine Classical.byContradiction λz=>?_
  have h1:owner.toList.length≤(owner.toList.filterMap id).length:=by
   have:∀l:List (Option Nat),(∀x∈l,x≠none)->l.length≤(l.filterMap id).length:=λl=>by
    induction l with
    |nil=>intro _;exact qi _
    |cons x l n =>
     intro c
     cases x with
     |none=>exact absurd rfl (c none qo)
     |some y=>exact Nat.succ_le_succ (n λx hm=>c x (ql _ hm))
   refine this _ λx c e=>?_;obtain⟨i,hi,p⟩:=ye c
   have a:i<owner.size:=by simpa using hi
   refine z {i,by rw[←L.size];exact a,?_};rw[yf,zv a]
   have:owner[i]=none:=by
    have:=p.trans e;simpa using this
   rw[this];rfl
  have h2:=L.perm.length_eq;have w:=L.size
  simp at h1 h2
  omega
 obtain⟨t,d,o⟩:=f;obtain⟨r,u,q⟩:=reach hm (yn (bits h) (yo m)) (JN h) d;obtain⟨j,s,b⟩:=M' (m:=m) (owner:=owner) r (turns m) (bits h % (m+1)) (bits h) (by unfold turns;omega) (by rw[q];exact o)
 have g:j<owner.size:=by
  refine Classical.byContradiction λz=>?_;rw[yf,ka ()]at b;cases b
 have hl:owner.toList[j]?=some none:=by
  rw[yf,zv g]at b;rw[wu,zv g];exact congrArg some b
 refine{j,s,by rw[Array.size_setIfInBounds];exact L.size,?_};rw[Array.toList_setIfInBounds];refine(MP hl).trans ?_;rw[j9];exact(L.perm.cons k).trans (kb k _).symm
end Stb
namespace L2
open PySem PySem.Spec PySem.W PyProof.Rows
section
variable {P:Program}{w:World}{A:Around}{E:Value->Shared->Prop}{s:Shared}
abbrev fh(P:Program)(w:World)(ks:List Key):Int:=(tupleKind (ay P w)).hash ks
abbrev FI(P:Program)(w:World)(h:Heap)(ks:List Key)(v:Value):Prop:=∃a,v=.ref a/\(tupleKind (ay P w)).is h ks a
def Qc:∀{v:Value} (n:Nat) {s':Shared} {Q:Bool->Shared->Prop},carriedByValue v=true->(∀b,Q b s')->wpAny (model P w) A (hashByValue n v) Q E s':=by
 intro v n s' Q a h
 cases v <;> first|(cases n <;> exact qA (h _))|(exact absurd a (by simp[carriedByValue]))
def RC(i:(tupleKind (ay P w)).is s.heap ks a)(h:∀b,Q b s):wpAny (model P w) A (hashByValue 8 (.ref a)) Q E s:=by
 obtain⟨o,items,n,f,g,k,hi⟩:=i;have j:s.TypeIs (.ref a) "tuple":={o,f,g};unfold hashByValue;refine qc (wpAny_specialOf j F.slot_tuple_hash.lookup ?_);show wpAny _ _ (seqItems? (.ref a) >>= _) _ _ s;refine qc (wpAny_seqItems f k ?_);refine qc ?_;show wpAny _ _ (forIn items _ _) _ _ s;rw[←j2];refine wpAny_forIn_list _ (λrest r s'=>(r.1=none\/r.1=some false)/\s'=s/\∀v∈rest,carriedByValue v=true) _ ?_ ?_ _ _ {.inl rfl,Y,hi.byValue}
 ·rintro v rest r s' ⟨d,rfl,c⟩
  refine qc (Qc _ (c v qo) λb=>?_)
  cases b with
  |true =>
   simp only[Bool.not_true,Bool.false_eq_true,if_false]
   exact qA {.inl rfl,Y,λu e=>c u (ql _ e)}
  |false =>
   simp only[Bool.not_false,if_true]
   exact qA (qA (h _))
 ·rintro⟨l,m⟩ s' ⟨d,rfl,_⟩
  simp only at d
  rcases d with rfl|rfl
  ·exact qA (h _)
  ·exact qA (h _)
def Pc:∀{v:Value} (n:Nat) {s':Shared} {Q:Bool->Shared->Prop},carriedByValue v=true->Q false s'->wpAny (model P w) A (ofAClassStatement n v) Q E s':=by
 intro v n s' Q a h
 cases v <;> first|(cases n <;> exact qA h)|(exact absurd a (by simp[carriedByValue]))
def MO(g:(tupleKind (ay P w)).is s.heap ks a)(h:Q false s):wpAny (model P w) A (ofAClassStatement 8 (.ref a)) Q E s:=by
 obtain⟨o,items,n,e,f,j,hi⟩:=g;have i:s.TypeIs (.ref a) "tuple":={o,e,f};unfold ofAClassStatement;refine qc (wpAny_typeOf i ?_);dsimp only;rw[q0 ⋯];refine qc (qA ?_)
 simp only[Bool.not_true,Bool.false_eq_true,if_false]
 refine qc (wpAny_seqItems e j ?_);dsimp only;refine qc ?_;show wpAny _ _ (forIn items _ _) _ _ s;rw[←j2];refine wpAny_forIn_list _ (λrest r s'=>r.1=none/\s'=s/\∀v∈rest,carriedByValue v=true) _ ?_ ?_ _ _ {Y,Y,hi.byValue}
 ·rintro v rest r s' ⟨c,rfl,b⟩
  refine qc (Pc _ (b v qo) ?_)
  simp only[Bool.false_eq_true,if_false]
  exact qA {Y,Y,λu d=>b u (ql _ d)}
 ·rintro⟨k,l⟩ s' ⟨c,rfl,_⟩
  simp only at c
  subst c;exact qA h
def Ry(j:(tupleKind (ay P w)).is s.heap ks a)(k:∀y∈ys,∃f,FI P w s.heap f y)(h:Q false s):wpAny (model P w) A (searchCouldBeSeen (.ref a) ys) Q E s:=by
 unfold searchCouldBeSeen;refine qc ?_;refine wpAny_forIn_list _ (λrest r s'=>r.1=none/\s'=s/\∀y∈rest,∃f,FI P w s.heap f y) _ ?_ ?_ _ _ {Y,Y,k}
 ·rintro v rest r s' ⟨g,rfl,c⟩
  obtain⟨f,b,rfl,i⟩:=c v qo;dsimp only
  by_cases e:(a==b)=true
  ·rw[e]
   simp only[Bool.true_or,if_true]
   exact qA {Y,Y,λu d=>c u (ql _ d)}
  ·have l:(a==b||carriedByValue (.ref a)&&carriedByValue (.ref b))=false:=by simp[Bool.eq_false_iff.mpr e,carriedByValue]
   rw[l]
   simp only[Bool.false_eq_true,if_false]
   refine qc (I_ (m:=7) j ?_)
   simp only[Bool.not_true,Bool.false_eq_true,if_false]
   refine qc (I_ (m:=7) i ?_)
   simp only[Bool.not_true,Bool.false_eq_true,if_false]
   refine qc (MO j ?_)
   simp only[Bool.false_eq_true,if_false]
   refine qc (MO i ?_)
   simp only[Bool.false_eq_true,if_false]
   exact qA {Y,Y,λu d=>c u (ql _ d)}
 ·rintro⟨n,o⟩ s' ⟨g,rfl,_⟩
  simp only at g
  subst g;exact qA h
end
def Tk(t:SetTable)(n:Nat):Prop:=t.dummies=#[]/\t.place.size=n/\(t.mask=7/\n≤4\/t.mask=31/\n≤18\/t.mask=127/\n≤76)
def Tk.mk{t:SetTable}{n:Nat}(h:Tk t n):Stb.Mk t.mask:=by
 rcases h.2.2 with h|h|h
 ·exact .inl h.1
 ·exact .inr (.inl h.1)
 ·exact .inr (.inr h.1)
theorem Tk.fits{t:SetTable}(h:Tk t n):t.fits n=true:=by
 unfold SetTable.fits SetTable.fill;rw[h.1,h.2.1,beq_self_eq_true,zu];refine qs ?_;show n+0≤t.mask;have:=h.2.2;omega
def Tk.odd{t:SetTable}(h:Tk t n):t.gaveWay=false:=by
 unfold SetTable.gaveWay;rcases h.2.2 with h|h|h <;> rw[h.1] <;> rfl
section
variable {P:Program}{w:World}{A:Around}{E:Value->Shared->Prop}{s:Shared}
def vC{a:Type}(xs:Array a)(p:Nat)(x:a):(SetTable.insertAt xs p x).size=xs.size+1:=by
 unfold SetTable.insertAt
 simp only[Array.size_append,Array.size_push,Array.size_extract]
 omega
def FI.ext(x:FI P w h ks v)(k:∀b o,h.get? b=some o->o.cls=.type "tuple"->h'.get? b=some o):FI P w h' ks v:=by
 obtain⟨a,e,o,c,n,h1,h2,f,d⟩:=x;exact{a,e,o,c,n,k _ _ h1 h2,h2,f,d}
def HC{a:Addr}{o:Obj}{es es1:Array (Int×Value)}{b:Nat}{t t1:SetTable}{h:Heap}(d:h.get? a=some o)(c:o.data=.set es b t):(h.update a (Obj.putSet es1 t1)).get? a=some { o with data:=.set es1 (b+1) t1 }:=by
 have:=Heap.get?_update_self (Obj.putSet es1 t1) d (by rw[putSet_of es1 t1 c];rfl);rw[putSet_of es1 t1 c]at this;exact this
theorem MM{c:Type}:∀l:List c,(List.range l.length).filterMap (λi=>l[i]?)=l
 |[]=>rfl
 |x::l=>by
  rw[zi,List.range_succ_eq_map,kc (f:=λi=>(x::l)[i]?) (a:=0) (b:=x) rfl,jc]
  congr 1
  have:((λ(i:Nat)=>(x::l)[i]?)∘Nat.succ)=λ(i:Nat)=>l[i]?:=by
   funext i
   exact jn
  rw[this];exact MM l
def Ra{a:Type}(es:Array a):(List.range es.size).filterMap (λi=>es[i]?)=es.toList:=by
 have h:=MM es.toList;rw[zt]at h
 have e:(λ(i:Nat)=>es.toList[i]?)=λ(i:Nat)=>es[i]?:=by
  funext i
  rw[wu]
 rw[e]at h;exact h
end
section
variable {P:Program}{w:World}{A:Around}{R:Result->Shared->Prop}{s:Shared}{E:Value->Shared->Prop}
def LI(P:Program)(w:World)(h:Heap)(items:Array Value)(kk:List (List Key)):Prop:=items.size=kk.length/\∀(i:Nat) v ks,items[i]?=some v->kk[i]?=some ks->FI P w h ks v
def C9{h:Heap}{a b:Addr}{o o':Obj}{T U:String}(e:h.get? a=some o)(c:o.cls=.type T)(f:h.get? b=some o')(d:o'.cls=.type U)(n:T≠U):a≠b:=λz=>by
 rw[z,f]at e;cases e;rw[c]at d;injection d with d;exact n d
theorem LI.ext(x:LI P w h items kk)(k:∀b o,h.get? b=some o->o.cls=.type "tuple"->h'.get? b=some o):LI P w h' items kk:={x.1,λi v ks c a=>FI.ext (x.2 i v ks c a) k}
end
def wD(a:Addr)(n:Nat):HO:=.ext λh=>∃o es b t,h.get? a=some o/\o.ExactSet/\o.data=.set es b t/\es.size=n/\t.fits n=true
section
variable {X:Cx}
inductive lT(xs:List V)(H:Hp)(Q:VK):Prop
 |mk(p n:_)(_:xs=[.ref p])(_:n≤1000)(_:H p=some (wD p n))(_:Q (.int (n:Nat)) H)
def Rq:cu X (.builtin "len") lT:=by
 intro pins s σ H xs j Q I r h;obtain⟨p,n,rfl,i,d,q⟩:=h;obtain⟨u,rfl,a⟩:=vals1 r;cases a;obtain⟨⟨o,es,k,t,h1,h2,f,g,c⟩,_⟩:=I.bP p _ d;subst g;exact call_len_set h1 h2 f c () {.int _,H,I.kept (t':=s.toks+1+1) λb o e=>e,{_,Y},q}
end
def SZ(h:Heap)(a:Addr)(n:Nat):Prop:=∃o es b t,h.get? a=some o/\o.ExactSet/\o.data=.set es b t/\es.size=n/\t.fits n=true
section
variable {prog:Program}{w:World}{A:Around}{E:Value->Shared->Prop}{s:Shared}
def O5(X:A.handled=none)(Z:A.units+4<cLine)(hl:s.heap.IsTuple l items)(v:∀(s':Shared) (led:Bool) (R:Result->Shared->Prop),s'.heap=(s.heap.push { cls:=.type "set",dict:=none,data:=.set #[] 0 (.fresh 0 0 led) }).push { cls:=.type "tuple_iterator",data:=.fields #[.ref l,.int 0 0] }->(∀h' tk,(∀b o,b≠↑s->b≠↑s+1->s'.heap.get? b=some o->h'.get? b=some o)->SZ h' ↑s n->R (.ok (.ret .none)) { s' with heap:=h',toks:=tk })->codeAny (model prog w) A.in1.in1 (.builtin "set.update.loop" {[.ref ↑s,.ref (↑s+1)],[]}) R s')(h:∀(h':Heap) (tk:Nat),SZ h' ↑s n->(∀b o,b<↑s->s.heap.get? b=some o->h'.get? b=some o)->Q (.ref ↑s) { s with heap:=h',toks:=tk }) :
  wpAny (model prog w) A (call (.type "set") [.ref l]) Q E s:=by
 obtain⟨c,tl,J⟩:=F.called_set.mro;have B:=F.called_set.made;have L:=F.called_set.sub;refine wpAny_call (codeAny_of_tree ?_);show wpAny _ _ (callAny (.type "set") _) _ _ _;refine qA {Code.quiet_builtin _ ∅,codeAny_builtin F.entry_type_call ?_};rw[Around.under_plain (weight_type_call_type "set" [.ref l] []) rfl];have h1:=F.called_set.notType;have h2:=F.called_set.canCreate;have P:=F.typeCall_set_1 (.ref l)
 repeat (any_goals (first|assumption|wp_step))
 refine codeAny_mono (code_set_new_1 (.ref l) (E:=E) (Q₁:=λobj g=>∃led:Bool,obj=.ref ↑s/\g={ s with heap:=s.heap.push { cls:=.type "set",dict:=none,data:=.set #[] 0 (.fresh 0 0 led) } }) λled=>{led,Y,Y}) λr g x=>?_
 cases r with
 |error e=>exact x
 |ok fl =>
  cases fl with
  |ret obj =>
   obtain⟨led,rfl,rfl⟩:=x;have T:(s.heap.push { cls:=.type "set",dict:=none,data:=.set #[] 0 (.fresh 0 0 led) }).get? ↑s=some { cls:=.type "set",dict:=none,data:=.set #[] 0 (.fresh 0 0 led) }:=qF _ rfl;have U:Shared.TypeIs { s with heap:=s.heap.push { cls:=.type "set",dict:=none,data:=.set #[] 0 (.fresh 0 0 led) } } (.ref ↑s) "set":={_,T,Y};have V:=F.called_set.init.lookup;have N:=F.called_set.init.bind (.ref ↑s)
   repeat (any_goals (first|assumption|wp_step))
   refine codeAny_mono (codeAny_call_builtin (R:=wants (λr f=>r=.none/\∃h' tk,f={ s with heap:=h',toks:=tk }/\SZ h' ↑s n/\(∀b o,b<↑s->s.heap.get? b=some o->h'.get? b=some o)) E) F.called_set.init.plain F.entry_set_init (check_set_init_1 U ?_)) λp f a=>?_
   ·obtain⟨W,t,u,K,m⟩:=hl
    obtain⟨H,k,z,d⟩:=W
    simp only at u m
    subst u;subst m;have q:(s.heap.push { cls:=.type "set",dict:=none,data:=.set #[] 0 (.fresh 0 0 led) }).get? l=some { cls:=.type "tuple",dict:=k,data:=.seq items K,slots:=d }:=qE _ t;have G:=F.sub_tuple_set;have M:=F.sub_tuple_frozenset
    have S:(Value.type "tuple"==Value.type "dict")=false:=⋯
    have C:(s.heap.push { cls:=.type "set",dict:=none,data:=.set #[] 0 (.fresh 0 0 led) }).IsTuple l items:={_,q,Y,K,Y};unfold Builtin.«set.__init__» noKeywords Builtin.Frozenset.updateFrom;generalize y:pyIter=PI
    wp_walk
    subst y;refine wpAny_pyIter_tuple C ?_;refine qc (wpAny_runValue ?_);have O:l<↑s:=qC t;have hsz:(s.heap.push { cls:=.type "set",dict:=none,data:=.set #[] 0 (.fresh 0 0 led) }).objs.size=↑s+1:=Heap.size_push ..;rw[hsz];have k0:∀b o,s.heap.get? b=some o->((s.heap.push { cls:=.type "set",dict:=none,data:=.set #[] 0 (.fresh 0 0 led) }).push { cls:=.type "tuple_iterator",data:=.fields #[.ref l,.int 0 0] }).get? b=some o:=λb o e=>qE _ (qE _ e);refine v _ led _ rfl ?_
    ·intro h' tk kp j
     refine qA ?_;show wpAny _ _ (ret Value.none) _ _ _;refine qA {Y,h',tk,Y,j,λb o I e=>?_};exact kp b o (qp I) (qp (vi I)) (k0 b o e)
   ·cases p with
    |error e=>exact a
    |ok i =>
     cases i with
     |ret r =>
      obtain⟨rfl,h',tk,rfl,j,D⟩:=a
      repeat (any_goals (first|assumption|wp_step))
      exact h _ _ j D
     |_=>exact a.elim
  |_=>exact x.elim
end
end L2
namespace L2
open PySem PySem.Spec PySem.W PyProof.Rows My
def Sj(c:Nat):(!decide (({#[c]}:Str).cps.toList<("a":Str).cps.toList))=decide (97≤c):=by
 have e:("a":Str).cps.toList=[97]:=∅
 rw[e];show(!decide ([c]<[97]))=decide (97≤c)
 by_cases h:97≤c
 ·rw[qs h,decide_eq_false (by simp[List.cons_lt_cons_iff];omega)];rfl
 ·rw[decide_eq_false h,qs (by simp[List.cons_lt_cons_iff];omega)];rfl
def Q2(c:Nat):(!decide (("z":Str).cps.toList<({#[c]}:Str).cps.toList))=decide (c≤122):=by
 have e:("z":Str).cps.toList=[122]:=∅
 rw[e];show(!decide ([122]<[c]))=decide (c≤122)
 by_cases h:c≤122
 ·rw[qs h,decide_eq_false (by simp[List.cons_lt_cons_iff];omega)];rfl
 ·rw[decide_eq_false h,qs (by simp[List.cons_lt_cons_iff];omega)];rfl
def B1(c:Nat):(!(Builtin.Str.occurrences (" .,":Str) {#[c]} 0 (" .,":Str).length 1).isEmpty)=decide (({#[c]}:Str)∈([" ",".",","]:List Str)):=by
 rw[PySem.StrLaws.found_one]
 have e:(" .,":Str).cps.toList=[32,46,44]:=∅
 have d:(" ":Str)=⟨#[32]⟩:=∅
 have b:(".":Str)=⟨#[46]⟩:=∅
 have a:(",":Str)=⟨#[44]⟩:=∅
 rw[e,d,b,a,decide_eq_decide]
 simp[List.mem_cons]
def LA{z:Str}(h:z.length=1):∃c,z={#[c]}:=by
 obtain⟨⟨l⟩⟩:=z
 match l,h with
 |[c],_=>exact{c,Y}
def fU{x:V}{xs:List V}:kR (x::xs) 0=some x:=by simp[kR,tG]
def Sb{x:V}{xs:List V}:¬(HT.bV (x::xs).length 0 (some 1)=0/\HT.bV (x::xs).length (x::xs).length none=(x::xs).length):=λe=>by have:=e.1;simp[HT.bV]at this
def HE:bR (x::xs) (some 1) none=xs:=by simp[bR,HT.bV]
theorem Mg(ws:List Str):∀(fs:List Fm) (ds:List Th),all2 ws fs ds=(List.zipWith (l6 ws) fs ds).all id
 |[],_=>by cases ‹List Th› <;> rfl
 |_::_,[]=>rfl
 |f::fs,d::ds=>by show(l6 ws f d&&all2 ws fs ds)=_;rw[Mg ws fs ds];rfl
def Q5{fs:List Fm}(h1:fs[i]?=some f)(h2:ds[i]?=some d):(List.zipWith (l6 ws) fs ds).take (i+1)=(List.zipWith (l6 ws) fs ds).take i++[l6 ws f d]:=by
 rw[vd,List.getElem?_zipWith,h1,h2];rfl
def MT{fs:List Fm}(h:cF z=some fs):(z,fs)∈nQ:=by
 unfold cF at h
 cases e:nQ.find? λp=>decide (p.1=z) with
 |none=>rw[e]at h;exact nomatch h
 |some p =>
  rw[e]at h;have h1:=y0 e;have h2:=j8 e;have h2:p.1=z:=qB h2;have a:p.2=fs:=qD h;rw[←h2,←a];exact h1
def Hk{fs:List Fm}(h:cF z=some fs):fs.length≤5:=by
 have a:∀p∈nQ,p.2.length≤5:=∅
 exact a _ (MT h)
def Se{fs:List Fm}(h:cF z=some fs)(a:z∈(["back","again"]:List Str)):fs=[.num]:=by
 have c:cF "back"=some [.num]:=by rfl
 have b:cF "again"=some [.num]:=by rfl
 rcases qr.mp a with rfl|a
 ·rw[c]at h;exact(qD h).symm
 ·rw[zh.mp a,b]at h;exact(qD h).symm
def Bz{f:Th->V}{ds:List Th}{i:Nat}{d:Th}(h:ds[i]?=some d):(ds.take (i+1)).map f=(ds.take i).map f++[f d]:=by
 rw[vd,h,zm];rfl
def KC(h:¬((1:Int)≤(z.length:Int)/\(z.length:Int)≤8)):bp z=false:=by
 unfold bp;rw[decide_eq_false (),wz]
def Sf(h1:(1:Int)≤(z.length:Int))(h2:(z.length:Int)≤8):bp z=z.cps.toList.all lH:=by
 unfold bp;rw[qs (),zu]
inductive Nw(ws:List Str)(H:Hp):V->Th->Prop
 |off {v:V} {d:Th} (h:∀ds,d=.tup ds->ds.length≤12->ds.all (fE ws)=true->(ds.map oj).Nodup):Nw ws H v d
 |two {p:Addr} {x:V} {d:Th} (h:H p=some (.tup [x,x])):Nw ws H (.ref p) (.tup [d,d])
def Ru{fs:List Fm}(h:cF z=some fs)(hi:fs[i]?=some .pX):z = "out" /\ i=1/\fs.length=2:=by
 have a:∀p∈nQ,∀i<5,p.2[i]?=some .pX->p.1 = "out" /\ i=1/\p.2.length=2:=∅
 exact a _ (MT h) i (zo (zr.mp hi).1 (Hk h)) hi
def Sn(h:fE ws d=true):∃z i j,d=.tup [.str z,.int i,.int j]:=by
 unfold fE at h
 split at h
 ·rename_i a b c
  have h:((cO a&&dA 1 b)&&CF ws a&&dA 0 c)=true:=h
  simp only[Bool.and_eq_true]at h
  cases a with
  |str z =>
   cases b with
   |int i =>
    cases c with
    |int j=>exact{z,i,j,Y}
    |_=>exact Bool.noConfusion h.2
   |_=>exact Bool.noConfusion h.1.1.2
  |_=>exact Bool.noConfusion h.1.1.1
 ·exact Bool.noConfusion h
def HN(t:TV H y d)(h:fE ws d=true):GK H (.tup (oj d)) y:=by
 obtain⟨z,i,j,rfl⟩:=Sn h
 cases t with
 |tup h t =>
  obtain⟨_,_,_,_,_,_,rfl,e,ta,tb,tc⟩:=t.three rfl;cases e;cases ta;cases tb;cases tc;exact{_,Y,h}
def dz:List Str:=["aa","bb","cc","dd","ee","ff","gg"]
def MC:∀z∈dz,a8 z:=by
 intro z a
 have:∀z∈dz,0<z.cps.size/\z.cps.size≤8/\∀c∈z.cps.toList,97≤c/\c≤122:=∅
 exact this z a
def Qm{ws:List Str}(h:ws.length≤6):∃z∈dz,z∉ws:=by
 obtain⟨j,a,b⟩:=Stb.lC (l:=ws.map λw=>dz.idxOf w) (M:=7) (by rw[qf];omega);refine{dz[j]'a,vk a,λhm=>b (qk.mpr {_,hm,?_})}
 have:∀j (h:j<7),dz.idxOf (dz[j]'h)=j:=∅
 exact this j a
def i7(ws:List Str):Str:=(dz.filter λz=>decide (z∉ws)).headD ""
def Ii(h:ws.length≤6):a8 (i7 ws)/\i7 ws∉ws:=by
 obtain⟨z0,c,d⟩:=Qm h;have hm:z0∈dz.filter λz=>decide (z∉ws):=y8.mpr {c,qs d};unfold i7
 cases e:dz.filter λz=>decide (z∉ws) with
 |nil=>rw[e]at hm;exact nomatch hm
 |cons a l =>
  have b:a∈dz.filter λz=>decide (z∉ws):=by rw[e];exact qo
  have b:=y8.mp b;exact{MC a b.1,qB b.2}
theorem Cg{ws:List Str}:∀l:List Str,(l.map V.str).filterMap (λv=>if v∈ws.map V.str then none else some v)=(l.filter λz=>decide (z∉ws)).map V.str
 |[]=>rfl
 |z::l=>by
  rw[qw,vo,List.filter_cons]
  by_cases h:z∈ws
  ·have h1:V.str z∈ws.map V.str:=qk.mpr {z,h,Y}
   rw[q0 h1,qq (by simpa using h)];exact Cg l
  ·have h1:V.str z∉ws.map V.str:=λx=>by
    obtain⟨y,a,e⟩:=qk.mp x;exact h (V.str.inj e▸a)
   rw[qq h1,q0 (qs h),Cg l];rfl
def h_(h:a8 z):bp z=true:=by
 unfold bp;rw[qs (show 1≤z.length/\z.length≤8 from{h.1,h.2.1}),zu,zk];intro c a;have:=h.2.2 c a;unfold lH;rw[qs this.1,qs this.2];rfl
def e_(h:a8 z):z.length≤1000:=qg (bK h) ⋯
def ag.Ni(s:ag H H')(h:H' q=none):H q=none:=by
 cases e:H q with
 |none=>rfl
 |some o=>rw[s _ _ e]at h;exact nomatch h
def uY{A B:Prop}(h:a=b)(x:A):if decide (V.str a=V.str b)=true then A else B:=by
 subst h;rw[qs rfl];exact x
def wX{A B:Prop}(h:decide (a=b)=false)(x:B):if decide (V.str a=V.str b)=true then A else B:=by
 rw[decide_eq_false λe=>of_decide_eq_false h (V.str.inj e)];exact x
def vJ(x y:Str):(x++y).length=x.length+y.length:=B2 x y
def KP{fs:List Fm}(h:cF z=some fs):bX ws n (.tup (.str z::ts))=(decide (ts.length=fs.length)&&(all2 ws fs ts&&(!decide (z∈(["back","again"]:List Str))||gJ n ts))):=by
 show(match cF z with|some fs=>_|none=>false)=_;rw[h]
inductive MD(w:World)(K:PySem.W.Frag)(a:Addr)(kvs:List (Str×Addr)):Prop
 |mk{es:Array DictEntry}{ep:Nat}(z1:K.lookup a=some ⟨.type "dict",none,.dict es ep,#[]⟩)(z2:es.toList.map (λe=>(e.hash,fZ e.key,fZ e.val))=kvs.map λp=>(wN w (.inr p.1),some (V.str p.1),some (V.ref p.2)))
def MD.SX{P:Program}{w:World}{K:PySem.W.Frag}{a:Addr}{kvs:List (Str×Addr)}(h:MD w K a kvs)(c:(kvs.map (·.1)).Nodup)(b:(a==sysModules)=false):uK P w K a kvs:=by
 obtain⟨z1,z2⟩:=h;exact uK.of z1 z2 c b {Y,Y,Y}
mutual
def cU:PyData->Th
 |.none=>.a'
 |.bool b=>.bl b
 |.int i=>.int i
 |.str z=>.str z
 |.tuple xs=>.tup (aQ xs)
 |_=>.NF
def aQ:List PyData->List Th
 |[]=>[]
 |d::ds=>cU d::aQ ds
end
mutual
def gB:PyData->Bool
 |.str z=>decide (z.length≤1000)
 |.tuple xs=>fG xs
 |_=>true
def fG:List PyData->Bool
 |[]=>true
 |d::ds=>gB d&&fG ds
end
mutual
theorem DT.tv:∀{v:V} {d:PyData},DT H v d->gB d=true->TV H v (cU d)
 |_,_,.a',_=>.a'
 |_,_,.bl b,_=>.bl b
 |_,_,.int i,_=>.int i
 |_,_,.str z,h=>.str (qB h)
 |_,_,.tup e t,h=>.tup e (c8.tv t h)
theorem c8.tv:∀{xs:List V} {ds:List PyData},c8 H xs ds->fG ds=true->kU H xs (aQ ds)
 |_,_,.nil,_=>.nil
 |_,_,.cons h t,o=>by
  have o:=(qv _ _).mp o;exact .cons (DT.tv h o.1) (c8.tv t o.2)
end
theorem tw:∀{ds:List PyData},(∀d∈ds,gB d=true)->fG ds=true
 |[],_=>rfl
 |d::ds,h=>by
  show(gB d&&fG ds)=true;rw[h d qo,tw λx a=>h x (ql _ a)];rfl
theorem fv:∀ds:List PyData,aQ ds=ds.map cU
 |[]=>rfl
 |d::ds=>congrArg (cU d::·) (fv ds)
section
variable {ws:List Str}(hw:∀w∈ws,a8 w)
include hw
theorem wk(h:w∈ws):decide (w.length≤1000)=true:=qs (e_ (hw w h))
theorem nS(h:eC ws p):fG p=true/\a_ ws (.tup (aQ p))=true:=by
 obtain⟨w,n,rfl,h1,h2,a⟩:=h;refine{?_,?_}
 ·show(decide (w.length≤1000)&&true)=true
  rw[wk hw h1];rfl
 ·show((bp w&&decide (1≤n/\n≤1000000))&&decide (w∈ws))=true
  rw[h_ (hw w h1),qs {h2,a},qs h1];rfl
theorem jN(h:dr ws p):fG p=true/\du ws (.tup (aQ p))=true:=by
 rcases h with rfl|h
 ·exact⟨∅,Y⟩
 ·have:=nS hw h
  exact{this.1,by unfold du;rw[this.2,jo]}
theorem u7(h:nh ws p):fG p=true/\fE ws (.tup (aQ p))=true:=by
 obtain⟨w,n,i,rfl,h1,h2,c,a,b⟩:=h;refine{?_,?_}
 ·show(decide (w.length≤1000)&&true)=true
  rw[wk hw h1];rfl
 ·show(((bp w&&decide (1≤n/\n≤1000000))&&decide (w∈ws))&&decide (0≤i/\i≤1000000))=true
  rw[h_ (hw w h1),qs {h2,c},qs h1,qs {a,b}];rfl
theorem wK(h:gG ws d):gB d=true/\fS ws (cU d)=true:=by
 obtain⟨ds,z,rfl,h1,h2⟩:=h;have:=u7 hw h1;refine{?_,?_}
 ·show(fG ds&&(decide (z.length≤1000)&&true))=true
  rw[this.1];rcases h2 with rfl|rfl <;> decide +kernel
 ·show(fE ws (.tup (aQ ds))&&cH ["ahead","behind"] (.str z))=true
  rw[this.2];rcases h2 with rfl|rfl <;> decide +kernel
theorem HP(h:iD ws d):gB d=true/\eI ws (cU d)=true:=by
 rcases h with⟨c,rfl,f⟩|⟨z,rfl,a⟩|⟨ds,rfl,g⟩
 ·have i:∀c∈("abcdefghijklmnopqrstuvwxyz .,":Str).cps.toList,gB (.str ⟨#[c]⟩)=true/\dJ (.str ⟨#[c]⟩)=true:=∅
  exact i c f
 ·refine{?_,?_}
  ·show(decide (("picture":Str).length≤1000)&&(decide (z.length≤1000)&&true))=true
   rw[qs (e_ a)];decide +kernel
  ·show((if cH ["picture"] (.str "picture") then bp z else cH ["refer"] (.str "picture")&&(eZ (.str z)||iv (.str z)))&&(cH ["picture"] (.str "picture")||du ws (.str z)))=true
   have e:cH ["picture"] (.str "picture")=true:=∅
   rw[e,q0 rfl,h_ a];rfl
 ·have:=jN hw g
  refine{?_,?_}
  ·show(decide (("refer":Str).length≤1000)&&(fG ds&&true))=true
   rw[this.1];decide +kernel
  ·have h2:=this.2
   have e:cH ["picture"] (.str "refer")=false:=∅
   have b:cH ["refer"] (.str "refer")=true:=∅
   have hm:(eZ (.tup (aQ ds))||iv (.tup (aQ ds)))=true:=by
    unfold du at h2;rcases vn _ _|>.mp h2 with h3|h3
    ·rw[h3];rfl
    ·have:iv (.tup (aQ ds))=true:=by
      unfold a_ at h3
      split at h3
      ·rename_i e;rw[e];exact((qv _ _).mp h3).1
      ·exact nomatch h3
     rw[this,jo]
   show((if cH ["picture"] (.str "refer") then cO (.tup (aQ ds)) else cH ["refer"] (.str "refer")&&(eZ (.tup (aQ ds))||iv (.tup (aQ ds))))&&(cH ["picture"] (.str "refer")||du ws (.tup (aQ ds))))=true;rw[e,b,qq ⋯,hm,h2];rfl
theorem C7(h:xO ws d):gB d=true/\bN ws (cU d)=true:=by
 rcases h with rfl|⟨w,z,rfl,h1,h2⟩
 ·exact⟨Y,Y⟩
 ·refine⟨?_,?_⟩
  ·show(decide (w.length≤1000)&&(decide (z.length≤1000)&&true))=true
   rw[wk hw h1,qs (e_ h2)];rfl
  ·show((bp w&&decide (w∈ws))&&bp z)=true
   rw[h_ (hw w h1),h_ h2,qs h1];rfl
theorem cf{t:Th}{fs:List Fm}(h:l6 ws f t=true)(r:all2 ws fs ts=true):all2 ws (f::fs) (t::ts)=true:=by
 show(l6 ws f t&&all2 ws fs ts)=true;rw[h,r];rfl
theorem fM{fs:List Fm}(h:cF z=some fs)(hl:ts.length=fs.length)(a:all2 ws fs ts=true)(b:z∈(["back","again"]:List Str)->gJ n ts=true):bX ws n (.tup (.str z::ts))=true:=by
 rw[KP h,qs hl,a]
 by_cases e:z∈(["back","again"]:List Str)
 ·rw[b e,jo];rfl
 ·rw[decide_eq_false e];rfl
inductive yE(ws:List Str)(n:Int):List PyData->Prop
 |mk (z:Str) (fs:List Fm) (ds:List PyData) (h1:fG ds=true) (h2:cF z=some fs) (h3:(aQ ds).length=fs.length) (h4:bX ws n (.tup (.str z::aQ ds))=true) (h5:∀(i:Nat) d,fs[i]?=some .pX->(aQ ds)[i]?=some d->∀H v,Nw ws H v d):yE ws n (.str z::ds)
theorem Rx(f:nh ws a)(c:nh ws b)(h:oj (cU (.tuple a))=oj (cU (.tuple b))):a=b:=by
 obtain⟨w,n,i,rfl,_⟩:=f;obtain⟨e,g,d,rfl,_⟩:=c;have h:([.inr w,.inl n,.inl i]:List Key)=[.inr e,.inl g,.inl d]:=h
 simp at h
 rw[h.1,h.2.1,h.2.2]
theorem Ml{d g:Type}{f:d->g}:∀{l:List d},l.Nodup->(∀a∈l,∀b∈l,f a=f b->a=b)->(l.map f).Nodup
 |[],_,_=>vy
 |a::l,nd,h=>by
  have nd:=wf.mp nd;refine wf.mpr {λm=>?_,Ml nd.2 λx j y i=>h x (ql _ j) y (ql _ i)};obtain⟨b,c,e⟩:=qk.mp m;exact nd.1 (h b (ql _ c) a qo e▸c)
theorem NK(P:n≤1000000)(h:bY ws n wt):yE ws n wt:=by
 have g:∀{fs:List Fm},(.pX∉fs)->∀(ts:List Th) (i:Nat) d,fs[i]?=some .pX->ts[i]?=some d->∀H v,Nw ws H v d:=λJ ts i d h1 _=>absurd (qx h1) J
 have f:∀{a b:Bool},a=true->b=true->(a&&b)=true:=λh1 h2=>by rw[h1,h2];rfl
 cases h with
 |nothing=>exact{"nothing",[],[],Y,Y,Y,fM hw rfl rfl rfl (λh=>absurd h ∅),g ⋯ _}
 |part p h =>
  have h:=jN hw h;exact{"part",[.part],_,f h.1 rfl,Y,Y,fM hw rfl rfl (cf hw h.2 rfl) (λh=>absurd h ∅),g ⋯ _}
 |move m p h1 h2 =>
  have h1:=nS hw h1;have h2:=jN hw h2;exact{"move",[.name,.part],_,f h1.1 (f h2.1 rfl),Y,Y,fM hw rfl rfl (cf hw h1.2 (cf hw h2.2 rfl)) (λh=>absurd h ∅),g ⋯ _}
 |cut m h1 =>
  have h1:=nS hw h1;exact{"cut",[.name],_,f h1.1 rfl,Y,Y,fM hw rfl rfl (cf hw h1.2 rfl) (λh=>absurd h ∅),g ⋯ _}
 |put p b u h1 h2 j l r =>
  have h1:=jN hw h1
  have E:gB b=true/\o6 ws (cU b)=true:=by
   rcases h2 with rfl|⟨m,rfl,hm⟩
   ·exact⟨Y,Y⟩
   ·have:=u7 hw hm;exact{this.1,this.2}
  have hs:fG u=true:=tw λd o=>(HP hw (r d o)).1
  have C:dF ws (.tup (aQ u))=true:=by
   show(decide (1≤(aQ u).length/\(aQ u).length≤12)&&(aQ u).all (eI ws))=true;rw[fv,qf,qs {j,l},zu,zk];intro x D;obtain⟨d,o,rfl⟩:=qk.mp D;exact(HP hw (r d o)).2
  exact{"put",[.part,.vu,.signs],_,f h1.1 (f E.1 (f hs rfl)),Y,Y,fM hw rfl rfl (cf hw h1.2 (cf hw E.2 (cf hw C rfl))) (λh=>absurd h ∅),g ⋯ _}
 |out p q h1 h2 j l r =>
  have h1:=jN hw h1
  have hs:fG (q.map PyData.tuple)=true:=tw λd o=>by
   obtain⟨m,hm,rfl⟩:=qk.mp o;exact(u7 hw (l m hm)).1
  have B:((aQ (q.map PyData.tuple)).map oj).Nodup:=by
   rw[fv,zq,zq];exact Ml hw r λa O b E e=>Rx hw (l a O) (l b E) e
  have C:gP ws (.tup (aQ (q.map PyData.tuple)))=true:=by
   show(decide (1≤(aQ (q.map PyData.tuple)).length/\(aQ (q.map PyData.tuple)).length≤12)&&((aQ (q.map PyData.tuple)).all (fE ws)&&decide (((aQ (q.map PyData.tuple)).map oj).Nodup)))=true;rw[qs B];rw[fv,qf,qf,qs {h2,j},zu,ge,zk];intro x D;obtain⟨d,o,rfl⟩:=qk.mp D;obtain⟨m,hm,rfl⟩:=qk.mp o;exact(u7 hw (l m hm)).2
  refine{"out",[.part,.pX],_,f h1.1 (f hs rfl),Y,Y,fM hw rfl rfl (cf hw h1.2 (cf hw C rfl)) (λh=>absurd h ∅),λi d hi o H v=>?_};have F:=(Ru (z:="out") rfl hi).2.1;subst F;cases o
  exact .off λds e _ _=>by cases e;exact B
 |mark p K N z v h1 h2 j l r =>
  have h1:=jN hw h1;have h2:=wK hw h2;have j:=wK hw j
  have A:gB v=true/\Ep (cU v)=true:=by
   rcases r with rfl|⟨y,rfl,hy⟩
   ·exact⟨Y,Y⟩
   ·exact⟨qs (e_ hy),h_ hy⟩
  exact⟨"mark",[.part,.side,.side,.word,.won],_,f h1.1 (f h2.1 (f j.1 (f (qs (e_ l)) (f A.1 rfl)))),Y,Y,fM hw rfl rfl (cf hw h1.2 (cf hw h2.2 (cf hw j.2 (cf hw (h_ l) (cf hw A.2 rfl))))) (λh=>absurd h ∅),g ⋯ _⟩
 |note p K N z h1 h2 j l =>
  have h1:=jN hw h1;have h2:=wK hw h2;have j:=wK hw j;exact{"note",[.part,.side,.side,.word],_,f h1.1 (f h2.1 (f j.1 (f (qs (e_ l)) rfl))),Y,Y,fM hw rfl rfl (cf hw h1.2 (cf hw h2.2 (cf hw j.2 (cf hw (h_ l) rfl)))) (λh=>absurd h ∅),g ⋯ _}
 |line p z v h1 h2 j =>
  have h1:=jN hw h1
  have s:gB (.str z)=true/\cH ["row","column"] (.str z)=true:=by rcases h2 with rfl|rfl <;> decide +kernel
  have A:gB v=true/\kS ws (cU v)=true:=by
   rcases j with rfl|⟨m,rfl,hm⟩
   ·exact⟨Y,Y⟩
   ·have:=nS hw hm;exact{this.1,this.2}
  exact{"line",[.part,.way,.line],_,f h1.1 (f s.1 (f A.1 rfl)),Y,Y,fM hw rfl rfl (cf hw h1.2 (cf hw s.2 (cf hw A.2 rfl))) (λh=>absurd h ∅),g ⋯ _}
 |lW p m h1 h2 =>
  have h1:=jN hw h1;have h2:=nS hw h2;exact{"strike",[.part,.name],_,f h1.1 (f h2.1 rfl),Y,Y,fM hw rfl rfl (cf hw h1.2 (cf hw h2.2 rfl)) (λh=>absurd h ∅),g ⋯ _}
 |cell p a b z h1 h2 j l =>
  have h1:=jN hw h1;have h2:=nS hw h2;have j:=nS hw j
  have s:gB (.str z)=true/\nG (.str z)=true:=by
   rcases l with rfl|l
   ·decide +kernel
   ·refine⟨qs (e_ l),?_⟩
    show(bp z||_)=true;rw[h_ l];rfl
  exact{"cell",[.part,.name,.name,.GS],_,f h1.1 (f h2.1 (f j.1 (f s.1 rfl))),Y,Y,fM hw rfl rfl (cf hw h1.2 (cf hw h2.2 (cf hw j.2 (cf hw s.2 rfl)))) (λh=>absurd h ∅),g ⋯ _}
 |leave p w t y h1 h2 j =>
  have h1:=jN hw h1
  have I:fP ws (.str w)=true:=by
   show(bp w&&decide (w∈ws))=true;rw[h_ (hw w h2),qs h2];rfl
  have L:∀t∈(["read","note","write","give"]:List Str),gB (.str t)=true:=∅
  exact{"leave",[.part,.hand,.leave,.truth],_,f h1.1 (f (wk hw h2) (f (L t j) rfl)),Y,Y,fM hw rfl rfl (cf hw h1.2 (cf hw I (cf hw (qs j) (cf hw rfl rfl)))) (λh=>absurd h ∅),g ⋯ _}
 |back k m h1 h2 j =>
  have hm:dA 1 (.int m)=true:=qs {h2,()};have hl:gJ n [.int m]=true:=qs j;rcases h1 with rfl|rfl
  ·exact⟨"back",[.num],_,Y,Y,Y,fM hw rfl rfl (cf hw hm rfl) (λ_=>hl),g ⋯ _⟩
  ·exact⟨"again",[.num],_,Y,Y,Y,fM hw rfl rfl (cf hw hm rfl) (λ_=>hl),g ⋯ _⟩
 |jF k z h1 h2 =>
  rcases h1 with rfl|rfl
  ·exact⟨"bring",[.word],_,f (qs (e_ h2)) rfl,Y,Y,fM hw rfl rfl (cf hw (h_ h2) rfl) (λh=>absurd h ∅),g ⋯ _⟩
  ·exact⟨"drop",[.word],_,f (qs (e_ h2)) rfl,Y,Y,fM hw rfl rfl (cf hw (h_ h2) rfl) (λh=>absurd h ∅),g ⋯ _⟩
 |lO cs h1 h2 =>
  have G:fG (cs.map PyData.int)=true:=tw λd o=>by
   obtain⟨c,_,rfl⟩:=qk.mp o;rfl
  have C:bu ws (.tup (aQ (cs.map PyData.int)))=true:=by
   show(decide ((aQ (cs.map PyData.int)).length=ws.length)&&(aQ (cs.map PyData.int)).all (dA 0))=true;rw[fv,qf,qf,qs h1,zu,zk];intro x D;obtain⟨d,o,rfl⟩:=qk.mp D;obtain⟨c,M,rfl⟩:=qk.mp o;exact qs (h2 c M)
  exact{"pour",[.counts],_,f G rfl,Y,Y,fM hw rfl rfl (cf hw C rfl) (λh=>absurd h ∅),g ⋯ _}
end
def JS{row:List Nat}(c:Hs.o7 m ds row)(g:j<m):Hs.bf row j≤ds.length:=by
 have:=gg (S:=(List.range (Hs.bf row j)).map λk=>(j,k+1)) (ws:=ds.map λe=>(e.c7,e.num)) ?_ ?_
 ·simpa using this
 ·rw[List.nodup_iff_pairwise_ne,List.pairwise_map]
  exact List.nodup_range.imp (λh e=>h (by simpa using e))
 ·intro x f
  obtain⟨k,a,rfl⟩:=qk.mp f;have a:=w5.mp a;obtain⟨e,d,i,b,_⟩:=c j (k+1) g () ();exact qk.mpr {e,d,by rw[i,b]}
def E8(W:Hs.Wh m ds)(c:d∈ds):d.num≤ds.length+1/\∀j,j<m->Hs.bf d.hd j≤ds.length:=by
 have a:=JS (W.past d c) (W.c7 d c);have b:=W.own d c;exact{(),λj e=>JS (W.past d c) e}
end L2
namespace L2
open PySem PySem.Spec PySem.W PyProof.Rows PySem.Builtin PySem.Builtin.Str
inductive E7(x:V)(xs:List V)(H:Hp)(Q:VK):Prop
 |mk(z:Str)(c:Nat)(h0:x=.str z)(h1:xs=[.str ⟨#[c]⟩])(h2:z.length≤10000)(h3:∀p H',H p=none->ag H H'->H' p=some (.lst ((Txt.split z ⟨#[c]⟩).map V.str))->Q (.ref p) H')
theorem Hx:∀(tk:Nat) (xs:List Str),aF (xs.map V.str) (strsFrom tk xs)
 |_,[]=>.nil
 |tk,x::r=>.cons {_,Y} (Hx (tk+1) r)
def pH:w_ X "str.split" E7:=by
 intro pins s σ H x xs v g Q I l k h;obtain⟨z,c,rfl,rfl,m,q⟩:=h;obtain⟨t,rfl⟩:=l;obtain⟨u,rfl,j⟩:=vals1 k;obtain⟨t2,rfl⟩:=j;have i:H ↑s=none:=I.bP.fresh (qi _)
 have oO:(10001:Nat)≤sizeLine:=by rw[sizeLine_eq];decide
 have f:∀(ys:List Str) (g:List Value) (tk:Nat),Txt.split z ⟨#[c]⟩=ys->aF (ys.map V.str) g->ys.length≤sizeLine->EP X pins σ Q (.ref ↑s) { s with heap:=s.heap.push { cls:=.type "list",data:=.seq g.toArray },toks:=tk }:=λys g tk e r hl=>by
  refine{.ref ↑s,upd H ↑s (.lst (ys.map V.str)),I.laid (t':=tk) (λb u e=>qE _ e) (qi _) {by rw[qf];exact hl,g,0,r,qF _ rfl},Y,q _ _ i (ag.new i) ?_};rw[aN,e]
 cases h1:(decide (z.length<(⟨#[c]⟩:Str).length)||decide (strKind z<strKind ⟨#[c]⟩))
 ·cases a:(occurrences z ⟨#[c]⟩ 0 z.length (z.length+1)).isEmpty
  ·have es:Txt.split z ⟨#[c]⟩=partsBetween z (occurrences z ⟨#[c]⟩ 0 z.length (z.length+1)) (⟨#[c]⟩:Str).length:=(qq (ne_true_of_eq_false h1)).trans (qq (ne_true_of_eq_false a))
   have d:(partsBetween z (occurrences z ⟨#[c]⟩ 0 z.length (z.length+1)) (⟨#[c]⟩:Str).length).length≤sizeLine:=by
    have:=split_weight z {#[c]} (qi 1);rw[es]at this;omega
   refine call_meets F.slot_str_split (typeIs_str _ _ _) F.entry_str_split (F.args_str_split_2 _ _) (meets_str_split_sep z {#[c]} t t2 h1 rfl a () d) ?_;exact f _ _ _ es (Hx _ _) d
  ·refine call_meets F.slot_str_split (typeIs_str _ _ _) F.entry_str_split (F.args_str_split_2 _ _) (meets_str_split_not_found z {#[c]} t t2 h1 rfl a) ?_
   exact f [z] _ _ ((qq (ne_true_of_eq_false h1)).trans (q0 a)) (.cons {_,Y} .nil) (qg (show 1≤10001 from ⋯) oO)
 ·refine call_meets F.slot_str_split (typeIs_str _ _ _) F.entry_str_split (F.args_str_split_2 _ _) (meets_str_split_cannot_occur z {#[c]} t t2 h1) ?_
  exact f [z] _ _ (q0 h1) (.cons {_,Y} .nil) (qg (show 1≤10001 from ⋯) oO)
inductive r4(f:Str->Str->Bool)(x:V)(xs:List V)(H:Hp)(Q:VK):Prop
 |mk(z y:Str)(h0:x=.str z)(h1:xs=[.str y])(h2:Q (.bl (f z y)) H)
def K8:w_ X "str.startswith" (r4 Txt.startswith):=by
 intro pins s σ H x xs v c Q I b a h;obtain⟨z,y,rfl,rfl,q⟩:=h;obtain⟨t,rfl⟩:=b;obtain⟨u,rfl,t2,rfl⟩:=vals1 a;exact SC.startswith {.bl _,H,I,Y,q}
def D6:w_ X "str.endswith" (r4 Txt.endswith):=by
 intro pins s σ H x xs v c Q I b a h;obtain⟨z,y,rfl,rfl,q⟩:=h;obtain⟨t,rfl⟩:=b;obtain⟨u,rfl,t2,rfl⟩:=vals1 a;exact SC.endswith {.bl _,H,I,Y,q}
inductive yG(xs:List V)(H:Hp)(Q:VK):Prop
 |mk(n:Int)(h0:xs=[.str (toString n)])(h1:0≤n)(h2:n<10 ^ 10)(h3:Q (.int n) H)
def Ph:cu X (.type "int") yG:=by
 intro pins s σ H xs b Q I a h;obtain⟨n,rfl,h1,h2,q⟩:=h;obtain⟨u,rfl,t2,rfl⟩:=vals1 a;exact KIN.call_num h1 h2 {.int n,H,I.tok _,{_,Y},q}
def jl(c:Nat):List (List Nat)->List Nat
 |[]=>[]
 |[a]=>a
 |a::b::r=>a++c::jl c (b::r)
theorem Ek:∀{xs ys:List (List Nat)},xs≠[]->ys≠[]->(∀x∈xs,c∉x)->(∀y∈ys,c∉y)->jl c xs=jl c ys->xs=ys
 |[],_,h,_,_,_,_=>absurd rfl h
 |_,[],_,h,_,_,_=>absurd rfl h
 |[a],[b],_,_,_,_,e=>by rw[show a=b from e]
 |[a],b::d::r,_,_,ha,_,e=>by
  have e:a=b++c::jl c (d::r):=e;exact absurd (by rw[e];simp) (ha a List.mem_cons_self)
 |a::b::r,[d],_,_,_,hd,e=>by
  have e:a++c::jl c (b::r)=d:=e;exact absurd (by rw[←e];simp) (hd d List.mem_cons_self)
 |a::b::r,d::f::t,_,_,ha,hd,e=>by
  have e:a++c::jl c (b::r)=d++c::jl c (f::t):=e;have h1:=ha a qo;have h2:=hd d qo
  have i:∀{p q:List Nat} {u v:List Nat},c∉p->c∉q->p++c::u=q++c::v->p=q/\u=v:=by
   intro p
   induction p with
   |nil =>
    intro q u v _ j e
    cases q with
    |nil=>exact{Y,(List.cons.inj e).2}
    |cons x q=>exact absurd (qr.mpr (.inl (List.cons.inj e).1)) j
   |cons x p n =>
    intro q u v m j e
    cases q with
    |nil=>exact absurd (qr.mpr (.inl (List.cons.inj e).1.symm)) m
    |cons y q =>
     have e:=List.cons.inj e;obtain⟨g,k⟩:=n (λh=>m (ql _ h)) (λh=>j (ql _ h)) e.2;exact{by rw[e.1,g],k}
  obtain⟨g,k⟩:=i h1 h2 e;rw[g,Ek (wg _ _) (wg _ _) (λx l=>ha x (ql _ l)) (λx l=>hd x (ql _ l)) k]
theorem iQ:∀ws:List Str,(Str.join {#[c]} ws).cps.toList=jl c (ws.map λw=>w.cps.toList)
 |[]=>rfl
 |[a]=>rfl
 |a::b::r=>by
  show(a++{#[c]}++Str.join {#[c]} (b::r):Str).cps.toList=a.cps.toList++c::jl c ((b::r).map λw=>w.cps.toList);rw[←iQ (b::r)];show(a.cps++#[c]++(Str.join {#[c]} (b::r)).cps).toList=_
  simp
def fy(n:ws≠[])(h:∀w∈ws,c∉w.cps.toList):Txt.split (Txt.join {#[c]} ws) {#[c]}=ws:=by
 have m:Txt.join ⟨#[c]⟩ ws=Str.join ⟨#[c]⟩ ws:=StrLaws.glued_eq_join _ _;rw[m];have e:=StrLaws.join_split (Str.join {#[c]} ws) {#[c]};have i:=StrLaws.split_free (Str.join {#[c]} ws) c
 have j:Txt.split (Str.join ⟨#[c]⟩ ws) ⟨#[c]⟩≠[]:=by
  unfold Txt.split
  split
  ·exact wg _ _
  ·split
   ·exact wg _ _
   ·intro h
    have:=congrArg List.length h;rw[length_partsBetween]at this;exact nomatch this
 generalize Txt.split (Str.join ⟨#[c]⟩ ws) ⟨#[c]⟩=vs at e i j;have g:=congrArg (λz:Str=>z.cps.toList) e
 have g:jl c (vs.map λw=>w.cps.toList)=jl c (ws.map λw=>w.cps.toList):=by rw[←iQ,←iQ];exact g
 have inj:∀{a ts:List Str},(a.map λw=>w.cps.toList)=(ts.map λw=>w.cps.toList)->a=ts:=by
  intro a
  induction a with
  |nil=>intro ts h;cases ts with
   |nil=>rfl
   |cons _ _=>cases h
  |cons u a k=>intro ts h;cases ts with
   |nil=>cases h
   |cons t ts =>
    have h:=List.cons.inj h
    have l:u=t:=by
     obtain⟨⟨u⟩⟩:=u;obtain⟨⟨t⟩⟩:=t;have:u=t:=h.1;rw[this]
    rw[l,k h.2]
 have b:=λd=>inj (Ek (xs:=vs.map λw=>w.cps.toList) (ys:=ws.map λw=>w.cps.toList) d (by simpa using n) (λx f=>by
  obtain⟨w,hw,rfl⟩:=qk.mp f
  exact i w hw) (λx f=>by
  obtain⟨w,hw,rfl⟩:=qk.mp f
  exact h w hw) g)
 exact b (by simpa using j)
def OI(a b:Addr)(xs ys:Array Value):Meets (Builtin.«zip.__new__» {[.type "zip",.ref a,.ref b],[]}) (λ_ R s=>s.heap.IsTuple a xs/\s.heap.IsList b ys ∧
      R (.ok (.ret (.ref (BC "tuple_iterator" "list_iterator" s.heap a b).objs.size))) { s with heap:=uQ "tuple_iterator" "list_iterator" s.heap a b }) :=
 .of_wp λprog w A R s h=>by
  obtain⟨e,g,d,tk,f⟩:=s;obtain⟨a1,a2,h⟩:=h;have c:=sub_zip;have i:Heap.IsTuple (Shared.heap ⟨e,g,d,tk,f⟩) a xs:=a1;have j:Heap.IsList (Shared.heap ⟨e.push (Dj "tuple_iterator" a),g,d,tk,f⟩) b ys:=Heap.IsList.push a2 _
  wp_walk using wpAny_pyIter_tuple i,wpAny_pyIter_list j
  exact{_,Y,h}
def Ri(e:Gl X "zip")(hm:X.mg "zip"=none)(d:PA X [a,b] ta)(hs:starEach [a,b] X.env=(false,eval a X.env)::starEach [b] X.env:=by rfl)(c:(backTo pos (starEach [b] X.env)).any (·.1)=false:=by rfl):PI X (.Tuple es k tp) (.Call (.Name "zip" p) [a,b] [] pos) (r2 true false ta):=MA (t1:=true) (t2:=false) OI e hm d hs c
end L2
namespace L2
open PySem PySem.Spec PyProof.Rows
def cT:PyData->Str
 |.str z=>z
 |.int i=>toString i
 |_=>""
def Nb(i:Int):Prop:=0≤i/\i≤1000001
def Flat1(d:PyData):Prop:=(∃z:Str,d=.str z/\z.length≤8)\/∃i,d=.int i/\Nb i
def f_:List PyData->Str
 |.str h::r=>if h = "" then "." else Txt.join "." ((PyData.str h::r).map cT)
 |_=>""
def cw(ds:List PyData):Prop:=ds=[.str "",.int 0]\/∃(h:Str) (r:List PyData),ds=.str h::r/\h≠"" /\ PyData.strOk h=true/\h.length≤8/\r.length≤2/\∀x∈r,∃i,x=.int i/\Nb i
section
variable {H:Hp}
def uw(h:DT H v d)(f:Flat1 d):((∃z,v=.str z)\/∃i:Int,v=.int i/\i.natAbs.log2<1920)/\FF v=cT d:=by
 rcases f with⟨z,rfl,_⟩|⟨i,rfl,hi⟩
 ·rw[d_ h];exact{.inl {z,Y},Y}
 ·rw[Mo h]
  refine{.inr {i,Y,?_},Y}
  have:i.natAbs≤1000001:=by have:=hi.1;have:=hi.2;omega
  by_cases a:i.natAbs=0
  ·rw[a];decide
  ·have:=(Nat.log2_lt a (k:=1920)).mpr (jh this (by
    have:(1000001:Nat)<2 ^ 20:=⋯
    exact zo this (Nat.pow_le_pow_right ⋯ ⋯)))
   exact this
end
def BW(f:Flat1 d):(cT d).length≤8:=by
 rcases f with⟨z,rfl,a⟩|⟨i,rfl,hi⟩
 ·exact a
 ·obtain⟨n,rfl⟩:=Int.eq_ofNat_of_zero_le hi.1
  have h2:=hi.2;show(Str.ofString (toString ((n:Nat):Int))).length≤_;rw[PySem.ofString_length];show n.repr.length≤8;exact(ke ⋯).mpr ()
theorem pQ:∀{ds:List PyData},(∀d∈ds,Flat1 d)->((ds.map cT).map (·.length)).sum≤8 * ds.length
 |[],_=>qi _
 |d::ds,h=>by
  have a:=BW (h d (by simp));have b:=pQ (ds:=ds) λx c=>h x (ql _ c);rw[qw,qw,List.sum_cons,zi];omega
def cw.flat(h:cw ds):ds.length≤3/\∀d∈ds,Flat1 d:=by
 rcases h with rfl|⟨h,r,rfl,_,_,hl,hr,hx⟩
 ·refine⟨⋯,λd a=>?_⟩
  simp only[List.mem_cons,List.not_mem_nil,or_false]at a
  rcases a with rfl|rfl
  ·exact .inl ⟨"",Y,⋯⟩
  ·exact .inr ⟨0,Y,⋯,⋯⟩
 ·refine⟨by rw[zi];omega,λd a=>?_⟩
  rcases qr.mp a with rfl|a
  ·exact .inl ⟨h,Y,hl⟩
  ·obtain⟨i,e,hi⟩:=hx d a
   exact .inr {i,e,hi}
def cz:PyData->Str
 |.tuple ds=>Txt.join "." (ds.map cT)
 |_=>"-"
def CD(d:PyData):Prop:=d=.none\/∃a b:Str,d=.tuple [.str a,.str b]/\a.length≤8/\b.length≤8
def nr(d:PyData):Prop:=∃(ds:List PyData) (z:Str),d=.tuple [.tuple ds,.str z]/\cw ds/\(z = "ahead" \/ z = "behind")
def GI:PyData->Str
 |.tuple [.tuple ds,.str z]=>f_ ds++(if z = "ahead" then("<":Str) else ">")
 |_=>""
def sW(d:PyData):Prop:=(∃z:Str,d=.str z/\z.length≤8/\PyData.strOk z=true)\/(∃z:Str,d=.tuple [.str "picture",.str z]/\z.length≤8/\PyData.strOk z=true)\/∃ds,d=.tuple [.str "refer",.tuple ds]/\cw ds
def Cd:PyData->Str
 |.str z=>if z = " " then "_" else z
 |.tuple [.str k,.str z]=>"*"++z
 |.tuple [.str k,.tuple ds]=>"#"++f_ ds
 |_=>""
def my(a:Str)(ys:List Str):(Txt.join a ys).length≤(ys.map (·.length)).sum+ys.length * a.length:=by
 show(Builtin.Str.glued a ys).length≤_;rw[StrLaws.glued_eq_join];exact StrLaws.join_length_le a ys
def MB:f_ [.str "",.int 0] = ".":=by
 show(if("":Str) = "" then(".":Str) else Txt.join "." ([PyData.str "",PyData.int 0].map cT)) = ".";rw[q0 rfl]
def wC{h:Str}{r:List PyData}(a:h≠""):f_ (.str h::r)=Txt.join "." ((PyData.str h::r).map cT):=by
 show(if h = "" then(".":Str) else _)=_;rw[qq a]
def mG(h:cw ds):(f_ ds).length≤40:=by
 obtain⟨fl,c⟩:=h.flat;rcases h with rfl|⟨h,r,rfl,h0,_⟩
 ·rw[MB];decide
 ·rw[wC h0]
  have a:=my "." ((PyData.str h::r).map cT);have b:=pQ c;have d:(".":Str).length=1:=rfl;rw[d,qf]at a;omega
theorem Cp:∀{r:List PyData},(∀x∈r,∃i,x=.int i/\Nb i)->PyData.canLayAll0 r=true
 |[],_=>rfl
 |x::r,h=>by
  obtain⟨i,rfl,_⟩:=h x (by simp);show(true&&PyData.canLayAll0 r)=true;rw[Cp λy a=>h y (ql _ a)];rfl
def Rf(a:cw ds):PyData.canLayAll0 ds=true:=by
 rcases a with rfl|⟨h,r,rfl,h0,bP,h8,hr,hi⟩
 ·decide +kernel
 ·show(PyData.strOk h&&PyData.canLayAll0 r)=true
  rw[bP,Cp hi];rfl
inductive gV:PyData->Prop
 |a':gV .none
 |bl (b:Bool):gV (.bool b)
 |int (i:Int):Nb i->gV (.int i)
 |str (z:Str):z.length≤8->gV (.str z)
 |cnt (i:Int) (r:List PyData):r.length≤9->(∀x∈PyData.int i::r,Flat1 x)->gV (.tuple (.int i::r))
 |side (d:PyData):nr d->gV d
 |name (ds:List PyData):cw ds->gV (.tuple ds)
def i5:PyData->Str
 |.none=>"-"
 |.bool b=>if b=true then "yes" else "no"
 |.int i=>toString i
 |.str z=>if z = "" then "!" else z
 |.tuple (.int i::r)=>Txt.join "," ((PyData.int i::r).map cT)
 |.tuple [.tuple ds,.str z]=>GI (.tuple [.tuple ds,.str z])
 |.tuple ds=>f_ ds
 |_=>""
def P0(h:nr d):(GI d).length≤50:=by
 obtain⟨ds,z,rfl,a,b⟩:=h;have:=mG a;show(f_ ds++(if z = "ahead" then("<":Str) else ">"):Str).length≤50;rw[Str.length_append]
 have:(if z = "ahead" then("<":Str) else ">").length=1:=by split <;> rfl
 omega
def RY(h:sW d):(Cd d).length≤50:=by
 rcases h with⟨z,rfl,c,a⟩|⟨z,rfl,c,a⟩|⟨ds,rfl,b⟩
 ·show(if z = " " then("_":Str) else z).length≤50
  split
  ·decide
  ·omega
 ·show("*"++z:Str).length≤50
  rw[Str.length_append];have:("*":Str).length=1:=rfl;omega
 ·show("#"++f_ ds:Str).length≤50
  rw[Str.length_append];have:("#":Str).length=1:=rfl;have:=mG b;omega
def fu(h:cw ds):i5 (.tuple ds)=f_ ds:=by
 rcases h with rfl|⟨h,r,rfl,_⟩ <;> rfl
def vG{ds:List PyData}(h:ds.length≤10)(f:∀x∈ds,Flat1 x):(Txt.join "," (ds.map cT)).length≤100:=by
 have a:=my "," (ds.map cT);have b:=pQ f;have c:(",":Str).length=1:=rfl;rw[c,qf]at a;omega
def KW(h:gV d):(i5 d).length≤100:=by
 cases h with
 |a'=>decide
 |bl b=>cases b <;> decide
 |int i hi=>exact qg (BW (.inr {i,Y,hi})) ⋯
 |str z e =>
  show(if z = "" then("!":Str) else z).length≤100
  split
  ·decide
  ·omega
 |cnt i r f c=>exact vG (ds:=.int i::r) (by rw[zi];omega) c
 |side d hs =>
  have:=P0 hs;obtain⟨ds,z,rfl,a,e⟩:=hs;exact qg this ⋯
 |name ds a =>
  rw[fu a];exact qg (mG a) ⋯
def IW(h:nr d):i5 d=GI d:=by
 obtain⟨ds,z,rfl,a,b⟩:=h;rfl
def iV{k:Str}(h:k≠""):i5 (.str k)=k:=by
 show(if k = "" then("!":Str) else k)=k;rw[qq h]
def rn(d:PyData):Prop:=d=.none\/∃z:Str,d=.str z/\z≠"" /\ z.length≤8
def rn.th(h:rn d):gV d:=by
 rcases h with rfl|⟨z,rfl,_,hz⟩
 ·exact .a'
 ·exact .str z hz
inductive Wt:List PyData->List Str->Prop
 |names (k:Str) (ns:List (List PyData)):k = "part" \/ k = "move" \/ k = "cut" \/ k = "strike"->ns.length≤2->(∀n∈ns,cw n)->Wt (.str k::ns.map .tuple) (k::ns.map f_)
 |put (p:List PyData) (b:PyData) (sg:List PyData):cw p->(b=.none\/∃n,b=.tuple n/\cw n)->sg.length≤12->(∀d∈sg,sW d)->Wt [.str "put",.tuple p,b,.tuple sg] ((["put",f_ p,i5 b]:List Str)++sg.map Cd)
 |out (p:List PyData) (ns:List (List PyData)):cw p->ns.length≤12->(∀n∈ns,cw n)->Wt [.str "out",.tuple p,.tuple (ns.map .tuple)] ((["out",f_ p]:List Str)++ns.map f_)
 |mark (k:Str) (p:List PyData) (s1 s2:PyData) (r:List PyData):k = "mark" \/ k = "note"->cw p->nr s1->nr s2->r.length≤2->(∀d∈r,rn d)->Wt (.str k::.tuple p::s1::s2::r) (k::f_ p::GI s1::GI s2::r.map i5)
 |line (p:List PyData) (z:Str) (v:PyData):cw p->z = "row" \/ z = "column"->(v=.none\/∃n,v=.tuple n/\cw n)->Wt [.str "line",.tuple p,.str z,v] ["line",f_ p,z,i5 v]
 |cell (p a b:List PyData) (z:Str):cw p->cw a->cw b->z.length≤8->Wt [.str "cell",.tuple p,.tuple a,.tuple b,.str z] ["cell",f_ p,f_ a,f_ b,if z = "" then "!" else z]
 |leave (p:List PyData) (w t:Str) (y:Bool):cw p->w≠""->w.length≤8->t≠""->t.length≤8->Wt [.str "leave",.tuple p,.str w,.str t,.bool y] ["leave",f_ p,w,t,if y=true then "yes" else "no"]
 |lO (i:Int) (r:List PyData):r.length≤9->(∀x∈PyData.int i::r,Flat1 x)->Wt [.str "pour",.tuple (.int i::r)] ["pour",Txt.join "," ((PyData.int i::r).map cT)]
 |bg (k:Str) (r:List PyData):k = "back" \/ k = "again" \/ k = "bring" \/ k = "drop" \/ k = "nothing"->r.length≤1->(∀x∈r,Flat1 x/\x≠.str "")->Wt (.str k::r) (k::r.map cT)
def Ls(h:Flat1 x)(b:x≠.str ""):gV x/\i5 x=cT x:=by
 rcases h with⟨z,rfl,a⟩|⟨i,rfl,hi⟩
 ·exact⟨.str z a,iV λe=>b (by rw[e])⟩
 ·exact⟨.int i hi,Y⟩
def x9(h:b=.none\/∃n,b=.tuple n/\cw n):gV b:=by
 rcases h with rfl|⟨n,rfl,hn⟩
 ·exact .a'
 ·exact .name n hn
def Wt.plain(h:Wt ds ws):(∃(p:List PyData) (b:PyData) (q:List PyData),ds=[.str "put",.tuple p,b,.tuple q]/\ws=(["put",f_ p,i5 b]:List Str)++q.map Cd/\cw p/\(b=.none\/∃n,b=.tuple n/\cw n)/\q.length≤12/\∀d∈q,sW d)\/(∃(p:List PyData) (m:List (List PyData)),ds=[.str "out",.tuple p,.tuple (m.map .tuple)]/\ws=(["out",f_ p]:List Str)++m.map f_/\cw p/\m.length≤12/\∀n∈m,cw n)\/((∃k r,ds=.str k::r/\k≠"put" /\ k≠"out")/\(∀d∈ds,gV d)/\ws=ds.map i5/\ds.length≤12):=by
 have two:∀{k:Str} {r:List PyData},k.length≤8->(∀d∈r,gV d)->∀d∈PyData.str k::r,gV d:=λl g d c=>by
  rcases qr.mp c with rfl|c
  ·exact .str _ l
  ·exact g d c
 cases h with
 |put p b q h1 h2 u I=>exact .inl ⟨_,_,_,Y,Y,h1,h2,u,I⟩
 |out p m h1 h2 u=>exact .inr (.inl {_,_,Y,Y,h1,h2,u})
 |names k m l hl D =>
  have e:k.length≤8/\k≠"" /\ k≠"put" /\ k≠"out":=by rcases l with rfl|rfl|rfl|rfl <;> decide +kernel
  refine .inr (.inr {{_,_,Y,e.2.2},two e.1 λd c=>?_,?_,by rw[zi,qf];omega})
  ·obtain⟨n,j,rfl⟩:=qk.mp c
   exact .name n (D n j)
  ·rw[qw,iV e.2.1,zq]
   refine congrArg _ (y7 λn j=>?_);exact(fu (D n j)).symm
 |mark k p J K r l f h1 h2 hl g =>
  have e:k.length≤8/\k≠"" /\ k≠"put" /\ k≠"out":=by rcases l with rfl|rfl <;> decide +kernel
  refine .inr (.inr {{_,_,Y,e.2.2},two e.1 λd c=>?_,?_,by simp only[List.length_cons];omega})
  ·simp only[List.mem_cons]at c
   rcases c with rfl|rfl|rfl|c
   ·exact .name p f
   ·exact .side _ h1
   ·exact .side _ h2
   ·exact(g d c).th
  ·rw[qw,qw,qw,qw,iV e.2.1,fu f,IW h1,IW h2]
 |line p z v f s G =>
  have o:z.length≤8/\z≠"":=by rcases s with rfl|rfl <;> decide +kernel
  refine .inr (.inr {{_,_,Y,∅,∅},two ⋯ λd c=>?_,?_,ze rfl})
  ·simp only[List.mem_cons,List.not_mem_nil,or_false]at c
   rcases c with rfl|rfl|rfl
   ·exact .name p f
   ·exact .str _ o.1
   ·exact x9 G
  ·rw[qw,qw,qw,qw,iV ∅,fu f,iV o.2]
   rfl
 |cell p a b z f F C s =>
  refine .inr (.inr {{_,_,Y,∅,∅},two ⋯ λd c=>?_,?_,ze rfl})
  ·simp only[List.mem_cons,List.not_mem_nil,or_false]at c
   rcases c with rfl|rfl|rfl|rfl
   ·exact .name p f
   ·exact .name a F
   ·exact .name b C
   ·exact .str _ s
  ·rw[qw,qw,qw,qw,qw,iV ∅,fu f,fu F,fu C]
   rfl
 |leave p w t y f hw B H A =>
  refine .inr (.inr {{_,_,Y,∅,∅},two ⋯ λd c=>?_,?_,ze rfl})
  ·simp only[List.mem_cons,List.not_mem_nil,or_false]at c
   rcases c with rfl|rfl|rfl|rfl
   ·exact .name p f
   ·exact .str _ B
   ·exact .str _ A
   ·exact .bl y
  ·rw[qw,qw,qw,qw,qw,iV ∅,fu f,iV hw,iV H]
   rfl
 |lO i r hl g =>
  refine .inr (.inr {{_,_,Y,∅,∅},two ⋯ λd c=>?_,?_,ze rfl})
  ·simp only[List.mem_cons,List.not_mem_nil,or_false]at c
   rw[c];exact .cnt i r hl g
  ·rw[qw,qw,iV ∅]
   rfl
 |bg k r l hl g =>
  have e:k.length≤8/\k≠"" /\ k≠"put" /\ k≠"out":=by rcases l with rfl|rfl|rfl|rfl|rfl <;> decide +kernel
  refine .inr (.inr {{_,_,Y,e.2.2},two e.1 λd c=>(Ls (g d c).1 (g d c).2).1,?_,by rw[zi];omega});rw[qw,iV e.2.1];refine congrArg _ (y7 λx E=>?_);exact(Ls (g x E).1 (g x E).2).2.symm
def pw{ws:List Str}{c:Nat}(h:∀w∈ws,w.length≤c):(ws.map (·.length)).sum≤c * ws.length:=by
 induction ws with
 |nil=>exact qi _
 |cons w ws e =>
  have a:=h w (by simp);have b:=e λx d=>h x (ql _ d);rw[qw,List.sum_cons,zi,Nat.mul_succ];omega
def Wt.len(h:Wt ds ws):ws.length≤15/\∀w∈ws,w.length≤100:=by
 rcases h.plain with⟨p,b,g,_,rfl,c,e,hl,hs⟩|⟨p,f,_,rfl,c,hl,hs⟩|⟨_,h1,rfl,i⟩
 ·refine⟨by rw[qu,qf];show 3+_≤15;omega,λw hw=>?_⟩
  rcases zf.mp hw with hw|hw
  ·simp only[List.mem_cons,List.not_mem_nil,or_false]at hw
   rcases hw with rfl|rfl|rfl
   ·decide
   ·exact qg (mG c) ⋯
   ·exact KW (x9 e)
  ·obtain⟨d,a,rfl⟩:=qk.mp hw
   exact qg (RY (hs d a)) ⋯
 ·refine{by rw[qu,qf];show 2+_≤15;omega,λw hw=>?_}
  rcases zf.mp hw with hw|hw
  ·simp only[List.mem_cons,List.not_mem_nil,or_false]at hw
   rcases hw with rfl|rfl
   ·decide
   ·exact qg (mG c) ⋯
  ·obtain⟨d,a,rfl⟩:=qk.mp hw
   exact qg (mG (hs d a)) ⋯
 ·refine{by rw[qf];omega,λw hw=>?_}
  obtain⟨d,a,rfl⟩:=qk.mp hw;exact KW (h1 d a)
def Hf{a:Type}{xs:List a}{j:Nat}{x:a}(h:xs[j]?=some x):xs.take (j+1)=xs.take j++[x]:=by
 rw[List.take_succ,h];rfl
def mD{fr:List (Str×Nat)}(f:PyData->Str)(u:H a=some (.tup xs))(q:c8 H xs ds)(w:ds.length≤100)(hs:∀x d H' (e:V->Hp->Prop) (l:Hp->Prop),d∈ds->DT H' x d->ag H H'->(∀k,ag H' k->e (.str (f d)) k) →
   g x (bD own fr σ) H' λc H2=>tt c H2 λb o=>if b=true then te c o e else l o)(v:∀H' p,ag H H'->H p=none->H' p=some (.lst ((ds.map f).map V.str))->Q (.ref p) H'):uH own fr g tt te σ Q (Nr a) H:=by
 have hl:=mH q;refine tK (xs:=xs) (qj (aC ())) (λi ys H'=>ys=((ds.map f).take i).map V.str/\ag H H') {Y,ag.refl H} (λ_ _ H' q'=>aI.of (q'.2 _ _ u)) (λj x ys H' e l h t k1 k0=>?_) λH' p ys P _ n=>?_
 ·obtain⟨rfl,s⟩:=t
  obtain⟨d,m,dv⟩:=DA (c8.same s q) h;refine hs x d H' e l (qx m) dv s λk r=>k1 _ _ {?_,s.trans r};rw[Hf (x:=f d) (by rw[zj,m];rfl),zm];rfl
 ·obtain⟨rfl,s⟩:=P
  rw[vm (by rw[qf,hl];exact qi _)];exact v _ p (s.trans (ag.new n)) (s.free n) aN
end L2
namespace L2
open PySem PySem.Spec PySem.W PyProof.Rows My
inductive Rm where
 |number|plain|name|part|fD|snN|side|plainN|dD|truth|counts
 deriving DecidableEq
def iP:List (Str×List Rm):=[("nothing",[]),("part",[.part]),("move",[.name,.part]),("cut",[.name]),("put",[.part,.snN]),("out",[.part]),("mark",[.part,.side,.side,.plain,.plainN]),("note",[.part,.side,.side,.plain]),("line",[.part,.plain,.fD]),("strike",[.part,.name]),("cell",[.part,.name,.name,.dD]),("leave",[.part,.plain,.plain,.truth]),("back",[.number]),("again",[.number]),("bring",[.plain]),("drop",[.plain]),("pour",[.counts])]
def dP(z:Str):Option (List Rm):=(iP.find? λp=>decide (p.1=z)).map (·.2)
def Qh(d:PyData)(z:Str):Prop:=∃n,d=.int n/\Nb n/\z=toString n
def cj(d:PyData)(z:Str):Prop:=d=.str z/\a8 z
def ij(d:PyData)(z:Str):Prop:=∃w n,d=.tuple [.str w,.int n]/\a8 w/\Nb n/\z=Txt.join "." [w,toString n]
def uL(d:PyData)(z:Str):Prop:=∃w n i,d=.tuple [.str w,.int n,.int i]/\a8 w/\Nb n/\Nb i/\z=Txt.join "." [w,toString n,toString i]
def jT(d:PyData)(z:Str):Prop:=(d=.tuple [.str "",.int 0]/\z = ".")\/ij d z
def xy(d:PyData)(z:Str):Prop:=∃ds y s,d=.tuple [ds,.str s]/\uL ds y/\((s = "ahead" /\ z=y++"<")\/(s = "behind" /\ z=y++">"))
def fz(d:PyData)(z:Str):Prop:=∃cs:List Int,cs≠[]/\cs.length≤10/\d=.tuple (cs.map PyData.int)/\(∀c∈cs,Nb c)/\z=Txt.join "," (cs.map λc=>(toString c:Str))
def Ny(P:PyData->Str->Prop)(d:PyData)(z:Str):Prop:=(d=.none/\z = "-")\/P d z
def vA:Rm->PyData->Str->Prop
 |.number=>Qh|.plain=>cj|.name=>ij|.part=>jT|.fD=>Ny ij|.snN=>Ny uL|.side=>xy|.plainN=>Ny cj
 |.dD=>λd z=>(d=.str "" /\ z = "!")\/cj d z
 |.truth=>λd z=>∃b,d=.bool b/\z=if b=true then("yes":Str) else "no"
 |.counts=>fz
def lB(d:PyData)(z:Str):Prop:=(∃c,d=.str {#[c]}/\c∈("abcdefghijklmnopqrstuvwxyz .,":Str).cps.toList/\z=if({#[c]}:Str) = " " then("_":Str) else{#[c]})\/(∃w,d=.tuple [.str "picture",.str w]/\a8 w/\z = "*"++w)\/∃p y,d=.tuple [.str "refer",p]/\jT p y/\z = "#"++y
def Nx(d:PyData)(z:Str):Prop:=(d=.none/\z = "-")\/∃a b,d=.tuple [.str a,.str b]/\a8 a/\a8 b/\z=Txt.join "." [a,b]
inductive F2(P:PyData->Str->Prop):List PyData->List Str->Prop
 |nil:F2 P [] []
 |cons {d:PyData} {z:Str} {ds:List PyData} {zs:List Str}:P d z->F2 P ds zs->F2 P (d::ds) (z::zs)
inductive F3:List Rm->List PyData->List Str->Prop
 |nil:F3 [] [] []
 |cons {r:Rm} {d:PyData} {z:Str} {rs:List Rm} {ds:List PyData} {zs:List Str}:vA r d z->F3 rs ds zs->F3 (r::rs) (d::ds) (z::zs)
theorem F2.len:∀{ds:List PyData} {zs:List Str},F2 P ds zs->ds.length=zs.length
 |_,_,.nil=>rfl
 |_,_,.cons _ t=>congrArg (·+1) t.len
theorem F2.at:∀{ds:List PyData} {zs:List Str} {i:Nat} {z:Str},F2 P ds zs->zs[i]?=some z->∃d,ds[i]?=some d/\P d z
 |_,_,0,_,.cons h _,e=>by cases e;exact{_,Y,h}
 |_,_,i+1,_,.cons _ t,e=>t.at (i:=i) e
theorem F2.mem:∀{ds:List PyData} {zs:List Str},F2 P ds zs->z∈zs->∃d,P d z
 |_,_,.cons h t,e=>by
  rcases qr.mp e with rfl|e
  ·exact⟨_,h⟩
  ·exact t.mem e
theorem F2.map:∀{ds:List PyData},(∀d∈ds,P d (f d))->F2 P ds (ds.map f)
 |[],_=>.nil
 |d::ds,h=>.cons (h d qo) (F2.map λx a=>h x (ql _ a))
theorem F3.len:∀{rs:List Rm} {ds:List PyData} {zs:List Str},F3 rs ds zs->ds.length=rs.length/\zs.length=rs.length
 |_,_,_,.nil=>{Y,Y}
 |_,_,_,.cons _ t=>{congrArg (·+1) t.len.1,congrArg (·+1) t.len.2}
theorem F3.mem:∀{rs:List Rm} {ds:List PyData} {zs:List Str},F3 rs ds zs->z∈zs->∃r d,vA r d z
 |_,_,_,.cons h t,e=>by
  rcases qr.mp e with rfl|e
  ·exact⟨_,_,h⟩
  ·exact t.mem e
inductive mv(k:Str):List PyData->List Str->Prop
 |put (sg:List PyData) (zs:List Str) (hk:k = "put") (h:F2 lB sg zs) (h3:zs.length≤12):mv k [.tuple sg] zs
 |out (sg:List PyData) (zs:List Str) (hk:k = "out") (h:F2 uL sg zs) (h3:zs.length≤12):mv k [.tuple sg] zs
 |no (h1:k≠"put") (h2:k≠"out"):mv k [] []
inductive gT:List PyData->List Str->Prop
 |mk (k:Str) (rs:List Rm) (ds:List PyData) (zs:List Str) (es:List PyData) (ys:List Str) (h1:dP k=some rs) (h4:F3 rs ds zs) (h5:mv k es ys):gT (.str k::(ds++es)) (k::(zs++ys))
def eW(z:Str):Prop:=∀c∈z.cps.toList,c≠32/\c<16 ^ 8
def kB{n:Int}(h:0≤n):∀c∈(toString n:Str).cps.toList,48≤c/\c≤57:=by
 obtain⟨m,rfl⟩:=Int.eq_ofNat_of_zero_le h;intro c b;have e:(toString ((m:Nat):Int):Str).cps.toList=(Nat.toDigits 10 m).map Char.toNat:=KIN.signs_num m;rw[e]at b;obtain⟨ch,a,e⟩:=qk.mp b;have r:=digit_range (Nat.isDigit_of_mem_toDigits ⋯ ⋯ a);rw[←e];exact r
theorem Ms:∀{xs:List (List Nat)},c∈jl s xs->c=s\/∃x∈xs,c∈x
 |[],h=>nomatch h
 |[a],h=>.inr {a,qo,h}
 |a::b::r,h=>by
  rcases zf.mp (show c∈a++s::jl s (b::r) from h) with h|h
  ·exact .inr ⟨a,qo,h⟩
  ·rcases qr.mp h with h|h
   ·exact .inl h
   ·rcases Ms h with h|⟨x,hx,h⟩
    ·exact .inl h
    ·exact .inr ⟨x,ql _ hx,h⟩
def sP(h:c∈(Txt.join {#[s]} ws).cps.toList):c=s\/∃w∈ws,c∈w.cps.toList:=by
 rw[show Txt.join {#[s]} ws=Str.join {#[s]} ws from StrLaws.glued_eq_join _ _,iQ]at h;rcases Ms h with h|⟨x,hx,h⟩
 ·exact .inl h
 ·obtain⟨w,hw,rfl⟩:=qk.mp hx
  exact .inr {w,hw,h}
def uh(hs:s≠32/\s<16 ^ 8)(h:∀w∈ws,eW w):eW (Txt.join {#[s]} ws):=λc a=>by
 rcases sP a with rfl|⟨w,hw,a⟩
 ·exact hs
 ·exact h w hw c a
def lP(h:a8 z):eW z:=λc a=>by have:=h.2.2 c a;exact{(),()}
def oR(h:Nb n):eW (toString n):=λc a=>by have:=kB h.1 c a;exact{(),()}
def sx(h1:eW x)(h2:eW y):eW (x++y):=λc a=>by
 have a:c∈(x.cps++y.cps).toList:=a;rw[wm]at a;rcases zf.mp a with h|h
 ·exact h1 c h
 ·exact h2 c h
def iU(h:(z.cps.toList.all λc=>decide (c≠32/\c<16 ^ 8))=true):eW z:=λc a=>qB (zk.mp h c a)
def uL.fr(h:uL d z):eW z:=by
 obtain⟨w,n,i,_,h1,h2,b,rfl⟩:=h;refine uh ⋯ λx a=>?_
 simp only[List.mem_cons,List.not_mem_nil,or_false]at a
 rcases a with rfl|rfl|rfl
 ·exact lP h1
 ·exact oR h2
 ·exact oR b
def ij.fr(h:ij d z):eW z:=by
 obtain⟨w,n,_,h1,h2,rfl⟩:=h;refine uh ⋯ λx a=>?_
 simp only[List.mem_cons,List.not_mem_nil,or_false]at a
 rcases a with rfl|rfl
 ·exact lP h1
 ·exact oR h2
theorem jT.fr(h:jT d z):eW z:=by
 rcases h with⟨_,rfl⟩|h
 ·exact iU ∅
 ·exact h.fr
def fz.fr(h:fz d z):eW z:=by
 obtain⟨cs,_,_,_,h1,rfl⟩:=h;refine uh ⋯ λx a=>?_;obtain⟨c,b,rfl⟩:=qk.mp a;exact oR (h1 c b)
def MX(h:vA r d z):eW z:=by
 have a:eW "-":=iU ∅
 cases r with
 |number=>obtain⟨n,_,h,rfl⟩:=h;exact oR h
 |plain=>exact lP h.2
 |name=>exact ij.fr h
 |part=>exact jT.fr h
 |fD=>rcases h with⟨_,rfl⟩|h;exact a;exact ij.fr h
 |snN=>rcases h with⟨_,rfl⟩|h;exact a;exact uL.fr h
 |side =>
  obtain⟨ds,y,s,_,h1,h2⟩:=h;rcases h2 with⟨_,rfl⟩|⟨_,rfl⟩
  ·exact sx h1.fr (iU ∅)
  ·exact sx h1.fr (iU ∅)
 |plainN=>rcases h with⟨_,rfl⟩|h;exact a;exact lP h.2
 |dD=>rcases h with⟨_,rfl⟩|h;exact iU ∅;exact lP h.2
 |truth=>obtain⟨b,_,rfl⟩:=h;cases b <;> exact iU ∅
 |counts=>exact fz.fr h
theorem lB.fr(h:lB d z):eW z:=by
 rcases h with⟨c,_,a,rfl⟩|⟨w,_,h,rfl⟩|⟨p,y,_,h,rfl⟩
 ·have b:∀c∈("abcdefghijklmnopqrstuvwxyz .,":Str).cps.toList,((if(⟨#[c]⟩:Str) = " " then("_":Str) else⟨#[c]⟩).cps.toList.all λc=>decide (c≠32/\c<16 ^ 8))=true:=∅
  exact iU (b c a)
 ·exact sx (iU ∅) (lP h)
 ·exact sx (iU ∅) h.fr
def Nx.fr(h:Nx d z):eW z:=by
 rcases h with⟨_,rfl⟩|⟨a,b,_,h1,h2,rfl⟩
 ·exact iU ∅
 ·refine uh ⋯ λx c=>?_
  simp only[List.mem_cons,List.not_mem_nil,or_false]at c
  rcases c with rfl|rfl
  ·exact lP h1
  ·exact lP h2
def vI(h:dP z=some rs):(z,rs)∈iP:=by
 unfold dP at h
 cases e:iP.find? λp=>decide (p.1=z) with
 |none=>rw[e]at h;exact nomatch h
 |some p =>
  rw[e]at h;have h1:=y0 e;have h2:=j8 e;have h2:p.1=z:=qB h2;have a:p.2=rs:=qD h;rw[←h2,←a];exact h1
theorem gT.fr(h:gT ds zs):∀z∈zs,eW z:=by
 cases h with
 |mk k rs ds zs es ys h1 f b =>
  intro z a;rcases qr.mp a with rfl|a
  ·have g:∀p∈iP,(p.1.cps.toList.all λc=>decide (c≠32/\c<16 ^ 8))=true:=∅
   exact iU (g _ (vI h1))
  ·rcases zf.mp a with a|a
   ·obtain⟨r,d,h⟩:=f.mem a
    exact MX h
   ·cases b with
    |put e _ _ h2 =>
     obtain⟨d,h⟩:=h2.mem a;exact lB.fr h
    |out e _ _ h2 =>
     obtain⟨d,h⟩:=h2.mem a;exact uL.fr h
    |no=>exact nomatch a
def iN(a:ws≠[])(h:∀w∈ws,46∉w.cps.toList):Txt.split (Txt.join "." ws) "."=ws:=fy (c:=46) a h
def m8(h:a8 z):46∉z.cps.toList:=λa=>by have:=h.2.2 _ a;omega
def SA(h:Nb n):44∉(toString n:Str).cps.toList:=λa=>by have:=kB h.1 _ a;omega
def n4(h:Nb n):(toString n:Str).length≤7:=by
 obtain⟨m,rfl⟩:=Int.eq_ofNat_of_zero_le h.1;have h2:=h.2;show(Str.ofString (toString ((m:Nat):Int))).length≤_;rw[PySem.ofString_length];show m.repr.length≤7;exact(ke ⋯).mpr ()
def RV:∀d:Nat,d<10->(Nat.digitChar d).toNat=48->d=0:=⋯
def Q9(m:Nat):((Nat.toDigits 10 m).map Char.toNat)[0]?=some 48->m=0:=by
 induction m using Nat.strongRecOn with
 |_ m a =>
  by_cases h:m<10
  ·rw[Nat.toDigits_of_lt_base h]
   exact λe=>RV m h (qD e)
  ·have hm:m % 10<10:=yn m ⋯
   have t:Nat.toDigits 10 (m / 10)++Nat.toDigits 10 (m % 10)=Nat.toDigits 10 (10 * (m / 10)+m % 10):=Nat.toDigits_append_toDigits ⋯ () hm;rw[Nat.div_add_mod]at t;intro e;rw[←t,zm]at e
   have hl:0<((Nat.toDigits 10 (m / 10)).map Char.toNat).length:=by rw[qf];exact toDigits_len_ge 10 _
   rw[ym hl]at e;have:=a (m / 10) () e;omega
def le_0(c:Nat):(!decide (({#[c]}:Str).cps.toList<("0":Str).cps.toList))=decide (48≤c):=by
 have e:("0":Str).cps.toList=[48]:=∅
 rw[e];show(!decide ([c]<[48]))=decide (48≤c)
 by_cases h:48≤c
 ·rw[qs h,decide_eq_false (by simp[List.cons_lt_cons_iff];omega)];rfl
 ·rw[decide_eq_false h,qs (by simp[List.cons_lt_cons_iff];omega)];rfl
def Q1(c:Nat):(!decide (("9":Str).cps.toList<({#[c]}:Str).cps.toList))=decide (c≤57):=by
 have e:("9":Str).cps.toList=[57]:=∅
 rw[e];show(!decide ([57]<[c]))=decide (c≤57)
 by_cases h:c≤57
 ·rw[qs h,decide_eq_false (by simp[List.cons_lt_cons_iff];omega)];rfl
 ·rw[decide_eq_false h,qs (by simp[List.cons_lt_cons_iff];omega)];rfl
def mE(y:Str)(a c:Nat):Txt.endswith (y++{#[a]}) {#[c]}=decide (a=c):=by
 show(decide (0+1≤(y++{#[a]}:Str).length)&&Builtin.Str.subAt (y++{#[a]}) {#[c]} ((y++{#[a]}:Str).length - 1))=_;have hl:(y++⟨#[a]⟩:Str).length=y.length+1:=vJ y {#[a]};have d:(y++⟨#[a]⟩:Str).cps.toList=y.cps.toList++[a]:=vM y a;rw[hl,qs (),zu,StrLaws.subAt_eq,d,jp]
 have b:y.length=y.cps.toList.length:=by simp;rfl
 rw[b,List.drop_left]
 by_cases h:a=c
 ·subst h;rw[qs rfl];simp;rfl
 ·rw[decide_eq_false h]
  show(([a].take 1)==[c])=false
  simp[h]
def ui(a:Nat)(y:Str)(c:Nat):Txt.startswith ({#[a]}++y) {#[c]}=decide (a=c):=by
 show(decide (0+1≤({#[a]}++y:Str).length)&&Builtin.Str.subAt ({#[a]}++y) {#[c]} 0)=_;have hl:(⟨#[a]⟩++y:Str).length=1+y.length:=vJ {#[a]} y
 have b:(⟨#[a]⟩++y:Str).cps.toList=a::y.cps.toList:=by
  show(#[a]++y.cps).toList=_
  simp
 rw[hl,qs (),zu,StrLaws.subAt_eq,b];show((a::y.cps.toList).take 1==[c])=_
 by_cases h:a=c
 ·subst h;simp
 ·simp[h]
def Ga(y:Str)(a:Nat):aJ (y++{#[a]}) none (some (-1))=y:=by
 have hl:(y++⟨#[a]⟩:Str).length=y.length+1:=vJ y {#[a]};have c:(y++⟨#[a]⟩:Str).cps.toList=y.cps.toList++[a]:=vM y a
 have b:y.length=y.cps.toList.length:=by simp;rfl
 have d:HT.bV (y.length+1) (y.length+1) (some (-1))=y.length:=by
  show(if(-1:Int)<0 then((-1:Int)+((y.length+1:Nat):Int)).toNat else min (-1:Int).toNat (y.length+1))=_;rw[q0 ⋯];omega
 unfold aJ;rw[hl,d,c,HT.cG,yd,Nat.sub_zero,b,List.take_left]
def HV(a:Nat)(y:Str):aJ ({#[a]}++y) (some 1) none=y:=by
 have hl:(⟨#[a]⟩++y:Str).length=y.length+1:=by rw[vJ {#[a]} y];exact jd 1 _
 have c:(⟨#[a]⟩++y:Str).cps.toList=a::y.cps.toList:=by
  show(#[a]++y.cps).toList=_
  simp
 have b:y.length=y.cps.toList.length:=by simp;rfl
 have d:HT.bV (y.length+1) 0 (some 1)=1:=by
  rw[show(1:Int)=((1:Nat):Int) from rfl,HT.cL];omega
 unfold aJ;rw[hl,d,c,HT.cG,kf,yd,jp,b,va]
def OQ{xs:List V}{n:Nat}(h:n≤xs.length):bR xs (some (n:Int)) none=xs.drop n:=by
 have e:HT.bV xs.length 0 (some (n:Int))=n:=by rw[HT.cL];omega
 unfold bR;rw[e,HT.cG,vm];rw[vg];omega
theorem c8.app:∀{xs ys:List V} {ds es:List PyData},c8 H xs ds->c8 H ys es->c8 H (xs++ys) (ds++es)
 |_,_,_,_,.nil,h=>h
 |_,_,_,_,.cons a t,h=>.cons a (c8.app t h)
def Pw(h:dP z=some rs):rs.length≤5:=by
 have a:∀p∈iP,p.2.length≤5:=∅
 exact a _ (vI h)
end L2
namespace L2
open PySem PySem.Spec PyProof.Rows
def ba.there(x:ba P w H h a o):∃u,h.get? a=some u:=by
 cases o with
 |lst xs=>obtain⟨_,_,_,_,e⟩:=x;exact{_,e}
 |tup xs=>obtain⟨_,_,_,b,e,_⟩:=x;exact{_,e}
 |dK kvs=>obtain⟨_,_,_,_,o,_,_,e,_⟩:=x;exact{_,e}
 |dT kvs=>obtain⟨_,_,_,_,o,_,_,e,_⟩:=x;exact{_,e}
 |dG kvs=>obtain⟨_,_,_,_,o,_,_,e,_⟩:=x;exact{_,e}
 |set S n=>obtain⟨o,_,_,_,e,_⟩:=x;exact{_,e}
 |ins C dx fs=>obtain⟨_,_,_,e,_⟩:=x;exact{_,e}
 |own y=>exact x
 |xd fs=>obtain⟨d,⟨j,es,g,e,c⟩,r⟩:=x;exact{_,e}
 |Nv lo hi=>obtain⟨_,_,_,e⟩:=x;exact{_,e}
 |m_ b u=>exact{_,x.1}
 |mF ps=>exact{_,x}
 |met f y=>exact{_,x}
 |ext i=>exact x.2.1
def iJ(fs:List Addr)(H:Hp)(D:Addr->Prop)(h1 h2:Heap):Prop:=∀b o,h1.get? b=some o->b∉fs->((∃x,H b=some x)\/D b)->h2.get? b=some o
def Up(fs:List Addr)(h h':Heap):Prop:=∀b∈fs,∀o,h.get? b=some o->(∀vs,o.data≠.fields vs)->∃a,h'.get? b=some { o with slots:=a }
def Up.of{fs:List Addr}(u:h.UpToSlots h'):Up fs h h':=λb _ o e n=>u b o e n
def Up.trans{fs:List Addr}(u:Up fs h h1)(v:Up fs h1 h2):Up fs h h2:=λb c o e n=>by
 obtain⟨d,q⟩:=u b c o e n;obtain⟨a,q'⟩:=v b c _ q n;exact{a,q'}
abbrev In(h:Heap):Addr->Prop:=λb=>∃o,h.get? b=some o
section
variable {P:Program}{w:World}{fs ex:List Addr}{H H':Hp}{h h1 h2:Heap}{D:Addr->Prop}
def Un.over(u:Un fs ex H H' h h1)(k:iJ fs H' D h1 h2)(f:∀b o,h.get? b=some o->b∉ex->D b)(g:∀b∈fs,H b=none)(up:∀b∈fs,∀o,h1.get? b=some o->∃d,h2.get? b=some { o with slots:=d }):Un fs ex H H' h h2 where
 keep b o e n a hx:=k b o (u.keep b o e n a hx) a (.inr (f b o e hx))
 slot b o e n a hx:=by
  obtain⟨d,q⟩:=u.slot b o e n a hx;obtain⟨c,q'⟩:=up b a _ q;exact{c,q'}
 free:=u.free
 there b o e hx:=by
  obtain⟨o',q⟩:=u.there b o e hx
  by_cases a:b∈fs
  ·obtain⟨c,q'⟩:=up b a _ q
   exact{_,q'}
  ·exact{o',k b o' q a (.inr (f b o e hx))}
 dZ:=u.dZ
 fe:=u.fe
 ff:=u.ff
 eP b o xs e n:=k b o (u.eP b o xs e n) (λa=>by rw[g b a]at n;cases n) (.inl {_,u.dZ b xs n})
def eV.over(x:eV P w H' h1)(k:iJ fs H' D h1 h2)(g:∀b∈fs,H' b=none):eV P w H' h2:=λa o e =>
 (x a o e).iR (λb u c q=>by
  have f:∃y,H' b=some y:=by
   rcases c with rfl|c
   ·exact⟨_,e⟩
   ·exact⟨_,c⟩
  refine k b u q (λz=>?_) (.inl f);obtain⟨y,d⟩:=f
  rw[g b z]at d;cases d) (λ_ q=>q) λ_ _ q=>q
end
inductive Tz(l:List Env)(H:Hp)(h0:Heap)(a:Addr)(cls:Value)(h:Heap):Prop
 |mk(B:Heap)(a0:Value)(f:Heap.FlyingW B l a cls a0 h)(k:iJ (eU l) H (In h0) h B)
inductive Flew(P:Program)(w:World)(outer:List Env)(H:Hp)(s:Shared)(E:XK)(e:Value)(s':Shared):Prop
 |mk(a:Addr)(cls:Value)(H':Hp)(he:e=.ref a)(os:s'.os=s.os)(bare:AllBare s'.gens)(un:Un (eU outer) [] H H' s.heap s'.heap)(bP:eV P w H' s'.heap)(fl:Tz outer H' s.heap a cls s'.heap)(q:E cls none H')
abbrev nv(P:Program)(w:World):sL:=λouter H s E e s'=>Flew P w outer H s E e s'
section
variable {X:Cx}{pins:List (Addr×Obj)}{σ:St}{H H':Hp}{s s':Shared}{h' B:Heap}{D:Addr->Prop}{ch:List Addr}
def Inv.n'(I:Inv X pins σ H s)(i:s'.os=s.os)(a:AllBare s'.gens)(un:Un (eU X.stack) ch H H' s.heap s'.heap)(g:eV X.prog X.w H' s'.heap)(k:iJ (eU X.stack) H' D s'.heap B)(j:∀b o,s.heap.get? b=some o->b∉ch->D b)(st:B.StaysIn h')(up:Up (eU X.stack) s'.heap h')(d:∀b∈ch,(b∈X.ex\/X.s₀.heap.objs.size≤b)/\b≠X.env.locals/\(∀x c,X.env.cells.lookup x=some c->c≠b)/\∀p∈X.pn++pins,p.1≠b):Inv X pins σ H' { s' with heap:=h' }:=by
 have J:Inv X pins σ H' s':=I.lx i un g a d;have k2:iJ (eU X.stack) H' D s'.heap h':=λb o e n x=>st b o (k b o e n x);refine I.lx (s':={ s' with heap:=h' }) i (un.over k2 j I.gQ λb h o e=>?_) (g.over k2 J.gQ) a d;obtain⟨_,o',f,l⟩:=J.stack.mem h;rw[e]at f;cases f;exact up b h o e l
def iJ.on(k:iJ (eU l) H' D h1 B)(st:B.StaysIn h')(d:eV P w H' h1)(hl:∀b,b∉eU l'->((∃x,H' b=some x)\/D0 b)->b∉eU l)(c:∀b,D0 b->D b/\∃o',h1.get? b=some o'):iJ (eU l') H' D0 h' B:=λb o e n x=>by
 have g:=hl b n x
 have:∃o',h1.get? b=some o'/\B.get? b=some o':=by
  rcases x with⟨y,a⟩|a
  ·obtain⟨u,i⟩:=(d b y a).there
   exact{u,i,k b u i g (.inl {y,a})}
  ·obtain⟨p,m,h⟩:=c b a
   exact{m,h,k b m h g (.inr p)}
 obtain⟨o',q,f⟩:=this;have j:=st b o' f;rw[e]at j;cases j;exact f
end
section
variable {P:Program}{w:World}{K:PySem.W.Frag}{mg:Str->Option Value}{base:Heap}{N:List Str}{qual:Str}{scope:Scope}{f:Addr}{cd:Value}{A:Around}{outer:List Env}{s₀:Shared}{H₀:Hp}{E:XK}
abbrev dV(P:Program)(w:World)(K:PySem.W.Frag)(mg:Str->Option Value)(base:Heap)(N:List Str)(qual:Str)(scope:Scope)(f:Addr)(cd:Value)(A:Around)(outer:List Env)(s:Shared)(H:Hp)(E:XK):Cx:=kI (nv P w) P w K mg base N qual scope f cd A outer s H E
def Inv.Oj{X:Cx}{pins:List (Addr×Obj)}{σ:St}{H:Hp}{s:Shared}(I:Inv X pins σ H s)(hs:X.stack=X.env::X.outer)(c:X.env.frame=some X.env.locals){b:Addr}(n:b∉X.fs)(x:(∃y,H b=some y)\/∃o',X.s₀.heap.get? b=some o'):b∉eU X.stack:=λz=>by
 rcases qr.mp (I.l3 b z) with e|e
 ·subst e
  rcases x with⟨y,a⟩|⟨o',a⟩
  ·rw[I.free]at a;cases a
  ·exact absurd (zo (qC a) I.ok.above) (wn _)
 ·exact n e
def BL{pins:List (Addr×Obj)}{σ:St}{H H':Hp}{s s':Shared}{B h':Heap}{a:Addr}{cls a0:Value}{D:Addr->Prop}{ch:List Addr}(I:Inv (dV P w K mg base N qual scope f cd A outer s₀ H₀ E) pins σ H s)(v:s'.os=s.os)(h:AllBare s'.gens)(un:Un (eU (envOfC qual scope ↑s₀ f cd::outer)) ch H H' s.heap s'.heap)(g:eV P w H' s'.heap)(k:iJ (eU (envOfC qual scope ↑s₀ f cd::outer)) H' D s'.heap B)(l:∀b o,s.heap.get? b=some o->b∉ch->D b)(j:Heap.FlyingW B outer a cls a0 h')(y:Up (eU (envOfC qual scope ↑s₀ f cd::outer)) s'.heap h')(q:E cls none H')(d:∀b∈ch,↑s₀≤b/\b≠↑s₀/\(∀x c,(envOfC qual scope ↑s₀ f cd).cells.lookup x=some c->c≠b)/\∀p∈pins,p.1≠b) :
  Flew P w outer H₀ s₀ E (.ref a) { s' with heap:=h' }:=by
 have J:=I.n' v h un g k l j.1 y λb i=>{.inr (d b i).1,(d b i).2.1,(d b i).2.2.1,λp u=>(d b i).2.2.2 p (by simpa[kI] using u)}
 refine{a,cls,H',Y,J.os,J.bare,J.base,J.bP,{B,a0,j,?_},q};refine k.on (D0:=In s₀.heap) (l':=outer) j.1 g (λb n x=>J.Oj rfl rfl n x) λb ⟨o,e⟩=>?_;obtain⟨r,m⟩:=I.base.there b o e (by simp[kI]);have t:b∉ch:=λz=>absurd (zo (qC e) (d b z).1) (wn _);exact{l b r m t,un.there b r m t}
def cV:ek (nv P w) (dV P w K mg base N qual scope f cd A outer s₀ H₀ E) E:=by
 intro pins σ H s e s' I g;obtain⟨a,cls,H',rfl,h,c,un,d,⟨B,a0,fl,k⟩,q⟩:=g
 exact wpAny_leaves_onW (show(dV P w K mg base N qual scope f cd A outer s₀ H₀ E).A.frames=some _ from I.ok.frames) rfl fl λh' j i=>BL I h c un d k (λb o e _=>{o,e}) j (.of i) q (λb z=>absurd z (by simp))
abbrev NA:List Value:=[.type "ValueError",.type "Exception",.type "BaseException",.type "object"]
structure XC(K:PySem.W.Frag)(C:Addr):Prop where
 ok:PySem.W.excIn K C NA "ValueError.__new__"=true
def XC.obj(x:XC K C)(X:K.In h):∃tl f nm q bs hdct sn sub ab col dd k0 k1 k2 k3 k5 mN,
  h.get? C=some (excClassObj nm q C f bs tl hdct sn sub ab col dd k0 k1 k2 k3 k5 "ValueError.__new__")/\h.Ns f mN/\mN "__init__"=none/\OwnTail h NA tl:=by
 have q:=x.ok;unfold PySem.W.excIn at q
 split at q
 ·rename_i dd cd e m
  split at q
  ·rename_i C' bm k0 k1 k2 k3 n k5 hm hs
   simp only[Bool.and_eq_true,beq_iff_eq,Bool.not_eq_true']at q
   obtain⟨⟨⟨⟨⟨rfl,rfl⟩,a⟩,g⟩,b⟩,c⟩:=q;obtain⟨nm,bs,o,k,i,p,sn,sub,ab,col,j⟩:=cd;dsimp only at hm a b c;subst hm a
   have d:e=#[k0,k1,k2,k3,some (.builtin "ValueError.__new__"),k5]:=by
    obtain⟨l⟩:=e
    simp only at hs
    rw[hs]
   subst d;exact{bm,k,nm,i,bs,p,sn,sub,ab,col,dd,k0,k1,k2,k3,k5,_,X _ _ m,.of_isNs (PySem.W.isNs_of_in X b),PySem.W.nsMap_none_of_in X b c,PySem.W.tail_of_in X g}
  ·cases q
 ·cases q
inductive uS(C:Addr)(E:XK)(vs:List V)(H1:Hp):Prop
 |mk(_:vs.length≤sizeLine)(_:E (.ref C) none H1)
def Bt(C:Addr)(E:XK)(t:TA):TS:=λ_ σ H=>t σ H λvs H1=>uS C E vs H1
def j'{t:TA}(U:XC K C)(hm:mg x=some (.ref C))(Z:PA (dV P w K mg base N qual scope f cd A outer s₀ H₀ E) (e::es) t)(S:Gl (dV P w K mg base N qual scope f cd A outer s₀ H₀ E) x:=by exact rfl)(Q:(x==("__debug__":Str))=false:=by decide)(j:starEach (e::es) (envOfC qual scope ↑s₀ f cd)=(false,eval e (envOfC qual scope ↑s₀ f cd))::starEach es (envOfC qual scope ↑s₀ f cd):=by rfl)(m:(backTo cpos (starEach es (envOfC qual scope ↑s₀ f cd))).any (·.1)=false:=by rfl) :
  PS (dV P w K mg base N qual scope f cd A outer s₀ H₀ E) (.Raise (some (.Call (.Name x np) (e::es) [] cpos)) none pos) (Bt C E t):=by
 refine{?_};intro pins s σ H D I h;obtain⟨tl,M,nm,q,bs,hdct,sn,sub,ab,col,dd,k0,k1,k2,k3,k5,mN,V,X,v,T⟩:=U.obj I.mod.Eo;have k:=PySem.F.excBase_ValueError
 refine wpAny_Raise_call_subU (C:=C) (nm:=nm) (q:=q) (N:=M) (bs:=bs) (bm:=tl) (hdct:=hdct) (sn:=sn) (sub:=sub) (ab:=ab) (col:=col) (dd:=dd) (k0:=k0) (k1:=k1) (k2:=k2) (k3:=k3) (k5:=k5)
  k k.hasB k (mN:=mN) (T.hasType k.hasBase) (I.ok.hd rfl) (by show(backTo cpos (starEach (e::es) (envOfC qual scope ↑s₀ f cd))).any (·.1)=false;rw[j];show(false||(backTo cpos (starEach es (envOfC qual scope ↑s₀ f cd))).any (·.1))=false;rw[m];rfl) v (pW I S hm {Y,?_} Q)
 have u:=Z cpos pins s σ H _ I h;show wpAny _ _ (evalArgs (.ref C) true (backTo cpos (starEach (e::es) (envOfC qual scope ↑s₀ f cd))) []) _ _ _;have c:wpAny (model P w) (A.deeper (envOfC qual scope ↑s₀ f cd)) (spliced (backTo cpos (starEach (e::es) (envOfC qual scope ↑s₀ f cd)))) _ _ s:=u;rw[j]at c ⊢;refine Calls.evalArgs_plain (bq c λus i ⟨vs,H2,d,r,hl,q⟩=>{Y,by rw[←r.length];exact hl,d.bk _ _ V,X.keeps d.bk,T.keeps d.bk,λh' a l=>?_});have p:∀env∈(envOfC qual scope ↑s₀ f cd::outer),∀b,env.frame=some b->b∈eU (envOfC qual scope ↑s₀ f cd::outer):=λenv j b L=>jb.mpr {env,j,L}
 have G:iJ (eU (envOfC qual scope ↑s₀ f cd::outer)) H2 (In i.heap) h' (PySem.W.hideAll i.heap (eU (envOfC qual scope ↑s₀ f cd::outer))):=λb o e n z=>by
  have:∃o',i.heap.get? b=some o':=by
   rcases z with⟨y,O⟩|z
   ·exact(d.bP b y O).there
   ·exact z
  obtain⟨o',g⟩:=this;have B:=l.keeps b o' g;rw[e]at B;cases B;exact PySem.W.hideAll_get _ g n
 exact wpAny_leaves_madeW (base:=PySem.W.hideAll i.heap (eU (envOfC qual scope ↑s₀ f cd::outer))) (show(dV P w K mg base N qual scope f cd A outer s₀ H₀ E).A.frames=some _ from I.ok.frames) rfl (λb o q=>PySem.W.of_hideAll _ q) (PySem.W.funFrames_hide d.stack p) l λJ t R _ _ x4 =>
  BL (s':={ i with heap:=h' }) d rfl d.bare (Un.kept l.keeps) (d.bP.kept l.keeps) G (λb o e _=>{o,e}) (ch:=[]) R (.of x4) q (λb z=>absurd z (by simp))
end
def Rw(h:env.frame=env'.frame):noteFrame e env=noteFrame e env':=by
 unfold noteFrame PySem.frameOf;rw[h]
section
variable {M:Model}{A:Around}{E:Value->Shared->Prop}{s:Shared}{base:Heap}{l outer:List Env}{env:Env}{L e:Addr}{cls a0 fl:Value}
def qM(base:Heap)(l:List Env)(e:Addr)(cls a0:Value)(h:Heap):Prop:=base.StaysIn h/\base.get? e=none/\h.FunFrames base l/\∃fl,h.TracedAtW base e cls a0 fl
def qM.held(x:Heap.HeldW base l e cls a0 L h):qM base l e cls a0 h:={x.1,x.2.1,x.2.2.1,_,x.2.2.2}
def Qx(m:A.frames=some (env::outer))(u:env.frame=some L)(x:qM base (env::outer) e cls a0 s.heap)(y:∀h',Heap.FlyingW base outer e cls a0 h'->s.heap.UpToSlots h'->Q Unit.unit { s with heap:=h' }):wpAny M A (leaving env (.ref e)) Q E s:=by
 obtain⟨k,h,hl,fl,w⟩:=x;obtain⟨I,vs,T,J,ts,n,⟨j,G⟩,r,h1,t,v,l,g,p⟩:=id w;have c:∀b,b≠T->(s.heap.update T (Obj.mapFields (·.setIfInBounds 3 Value.none))).get? b=s.heap.get? b:=λb d=>Heap.get?_update_other _ _ (Ne.symm d)
 have a:∀b o,s.heap.get? b=some o->(∀vs,o.data≠.fields vs)->b≠T:=λb o d f q=>by
  rw[q,l]at d;injection d with d;subst d;exact f ts g
 subst j
 by_cases d:(fl==rawInt L)=true
 ·unfold leaving
  refine qc ?_;refine(?_:wpAny M A (noteFrame (.ref e) env) _ E s);unfold noteFrame
  simp only[u]
  refine qc (wpAny_field n r h1 ?_);rw[q0 (show(Value.ref T != Value.none)=true from by simp)];refine qc (wpAny_field l g p ?_);rw[q0 d];refine qA ?_;refine wpAny_setFlight_noneW k hl w λh' k1 k2 k3 z=>?_;obtain⟨_,_,k2'⟩:=k2;exact y h' {k1,h,k2',k3} λb o d C=>{o.slots,z b o d C}
 ·unfold leaving noteFrame
  simp only[u]
  refine qc (qc (wpAny_field n r h1 ?_));rw[q0 (show(Value.ref T != Value.none)=true from by simp)];refine qc (wpAny_field l g p ?_);rw[qq d];refine qc (wpAny_setField l g (vf.mp p).1 ?_)
  refine wpAny_newEntryW (base:=base) (a0:=a0) m (hl.of_keeps λb o d f=>{o,(c b (a b o d f)).trans d,Y}) u ((c e (Ne.symm v)).trans n)
   (λb o i=>(c b λq=>by rw[q,t]at i;cases i).trans (k b o i)) h r (vf.mp h1).1 G
   λh' ⟨D,⟨_,_,B⟩,F,H⟩=>y h' {D,h,B,F} λb o d f=>H b o ((c b (a b o d f)).trans d) f
def B7(x:qM base l e cls a0 s.heap)(h:∀h',qM base l e cls a0 h'->s.heap.UpToSlots h'->Q Unit.unit { s with heap:=h' }):wpAny M A (setFlight (.ref e) f) Q E s:=by
 obtain⟨t,r,hl,fl,y,vs,T,B,ts,v,n,w,h1,p,m,u,i,z⟩:=x;have j:3<ts.size:=(vf.mp z).1;have c:∀b,b≠T->(s.heap.update T (Obj.mapFields (·.setIfInBounds 3 (f.elim Value.none λf=>rawInt f)))).get? b=s.heap.get? b:=λb d=>Heap.get?_update_other _ _ (Ne.symm d)
 have a:∀b o,s.heap.get? b=some o->(∀vs,o.data≠.fields vs)->b≠T:=λb o d g q=>by
  rw[q,u]at d;injection d with d;subst d;exact g ts i
 unfold setFlight;refine qc (wpAny_field v w h1 ?_);rw[q0 (show(Value.ref T != Value.none)=true from by simp)];refine wpAny_setField u i j (h _ {λb o k=>(c b λq=>by rw[q,p]at k;cases k).trans (t b o k),r,hl.of_keeps λb o d g=>{o,(c b (a b o d g)).trans d,Y},(f.elim Value.none λf=>rawInt f),?_} λb o d g=>{o.slots,(c b (a b o d g)).trans d});exact{y,vs,T,_,_,(c e (Ne.symm m)).trans v,n,w,h1,p,m,Heap.get?_update_self _ u (Obj.isFreed_of_fields (Obj.data_mapFields i _)),Obj.data_mapFields i _,by simp[j]}
def Sh{d:Type}{a:String}{Q:d->Shared->Prop}(x:qM base l e cls a0 s.heap)(h:∀h',qM base l e cls a0 h'->s.heap.UpToSlots h'->E (.ref e) { s with heap:=h' }):wpAny M A (PySem.passOn a (.ref e) env) Q E s:=by
 obtain⟨_,_,_,fl,g,vs,T,i,ts,c,b,f,h1,_⟩:=id x;unfold PySem.passOn;refine qc (wpAny_field c f h1 ?_);rw[qq (show ¬((Value.ref T==Value.none)=true) from by simp)]
 first
  |exact qc (B7 x λh' y z=>wpAny_throw (h h' y z))
  |(refine qc (qA ?_);exact qc (B7 x λh' y z=>wpAny_throw (h h' y z)))
  |(refine qc (B7 x λh' y z=>?_);exact wpAny_raise (h h' y z))
def qM.hide(x:qM base l e cls a0 h)(M:C∉eU l)(j:∃o,h.get? C=some o/\∀vs,o.data≠.fields vs)(k:∀b o,b≠C->h.get? b=some o->h'.get? b=some o):qM (PySem.W.hideAll base [C]) l e cls a0 h':=by
 obtain⟨s,w,hl,fl,B,vs,T,K,ts,y,f,i,h1,n,v,A,g,H⟩:=x;obtain⟨N,a,d⟩:=j;have sub:∀b o,(PySem.W.hideAll base [C]).get? b=some o->base.get? b=some o:=λb o q=>PySem.W.of_hideAll _ q
 have c:∀b,base.get? b=none->(PySem.W.hideAll base [C]).get? b=none:=λb q=>by
  cases z:(PySem.W.hideAll base [C]).get? b with
  |none=>rfl
  |some o=>rw[sub b o z]at q;cases q
 have u:e≠C:=λz=>by subst z;rw[y]at a;cases a;exact d _ i
 have t:T≠C:=λz=>by subst z;rw[A]at a;cases a;exact d _ g
 refine{λb o q=>k b o (λz=>by subst z;rw[PySem.W.hideAll_none [b] (by simp)]at q;cases q) (s b o (sub b o q)),c _ w,?_,fl,B,vs,T,K,ts,k _ _ u y,f,i,h1,c _ n,v,k _ _ t A,g,H}
 have all:∀l:List Env,(∀b∈eU l,b≠C)->h.FunFrames base l->h'.FunFrames (PySem.W.hideAll base [C]) l:=by
  intro l
  induction l with
  |nil=>intro _ _;trivial
  |cons env r I =>
   intro hs hl;obtain⟨F,⟨L,o,p,G,E,i⟩,D⟩:=hl;have J:L≠C:=hs L (by unfold eU;rw[vo,p];exact qo);exact{F,{L,o,p,c _ G,k _ _ J E,i},I (λb m=>hs b (by unfold eU;rw[vo,p];exact ql _ m)) D}
 exact all l (λb m z=>M (z▸m)) hl
end
section
variable {P:Program}{w:World}{K:PySem.W.Frag}{mg:Str->Option Value}{base:Heap}{N:List Str}{qual:Str}{scope:Scope}{f:Addr}{cd:Value}{A:Around}{outer:List Env}{s₀:Shared}{H₀:Hp}{E:XK}
abbrev RS(X:Cx)(use:Option (Value->Sem Unit))(c:Value->Shared->Prop)(a:Value)(sc:Scope)(cl:List (Str×Addr))(b:Shared):Value->Shared->Prop :=
 notedBy (model X.prog X.w) X.A (compEnvC sc cl (↑b+1) X.env) λe s'=>compPost (model X.prog X.w) X.A X.xe use c a (↑b+1) (.error e) s'
def zJ{pins:List (Addr×Obj)}{σ:St}{H2:Hp}{c:Shared}{use:Option (Value->Sem Unit)}{QQ:Value->Shared->Prop}{D:Value}{N':List Str}{sc:Scope}{cl:List (Str×Addr)}{j:List Addr}(G:Inv (dV P w K mg base N qual scope f cd A outer s₀ H₀ E) pins σ H2 c)(f2:∀b∈j,gW (dV P w K mg base N qual scope f cd A outer s₀ H₀ E) pins H2 b) :
  ek (nv P w) (aU (dV P w K mg base N qual scope f cd A outer s₀ H₀ E) (RS (dV P w K mg base N qual scope f cd A outer s₀ H₀ E) use QQ D sc cl c) N' sc cl c H2 j) E:=by
 intro pins' σ' H s e s' l hq;obtain⟨a,cls,H',rfl,I,d,un,i,⟨B,a0,fl,k⟩,q⟩:=hq;have Q:(A.deeper (envOfC qual scope ↑s₀ f cd)).frames=some (envOfC qual scope ↑s₀ f cd::outer):=G.ok.frames;show wpAny (model P w) (A.deeper (envOfC qual scope ↑s₀ f cd)) (noteFrame (.ref a) (compEnvC sc cl (↑c+1) (envOfC qual scope ↑s₀ f cd))) _ _ s';rw[Rw (env:=compEnvC sc cl (↑c+1) (envOfC qual scope ↑s₀ f cd)) (env':=envOfC qual scope ↑s₀ f cd) rfl];refine wpAny_looks_onW (base:=B) (a0:=a0) Q rfl fl λh1 held h=>?_;have T:=l.n' I d un i k (λb o e _=>{o,e}) held.1 (.of h) (λb z=>absurd z (by simp));obtain⟨m,M,_⟩:=id T.loc
 have F:∀b∈eU (envOfC qual scope ↑s₀ f cd::outer),b<↑c:=λb g=>by
  obtain⟨_,o,t,_⟩:=G.stack.mem g;exact qC t
 have J:↑c+1∉eU (envOfC qual scope ↑s₀ f cd::outer):=λz=>absurd (vi (F _ z)) (wn _);refine{m,M,λh2 hs R _=>?_}
 have r:∃o,h1.get? (↑c+1)=some o/\∀vs,o.data≠.fields vs:=by
  obtain⟨o,es,ep,t,hd,_⟩:=M;exact{o,t,λvs z=>by rw[hd]at z;cases z}
 have X:qM (PySem.W.hideAll B [↑c+1]) (envOfC qual scope ↑s₀ f cd::outer) a cls a0 h2:=(qM.held held).hide J r λb o u e=>hs.extBut b o u e;refine Sh X λh3 x3 v=>?_;refine Qx (base:=PySem.W.hideAll B [↑c+1]) (cls:=cls) (a0:=a0) Q rfl x3 λh4 x4 C=>?_;have uc:Un (eU (envOfC qual scope ↑s₀ f cd::outer)) j H2 H' c.heap s'.heap:=Un.trans l.base (un.mono (λ_ z=>z) λ_ z=>absurd z (by simp))
 have k':iJ (eU (envOfC qual scope ↑s₀ f cd::outer)) H' (λb=>In c.heap b/\b∉j) s'.heap (PySem.W.hideAll B [↑c+1]):=λb o e n x=>by
  refine PySem.W.hideAll_get _ (k b o e n ?_) λz=>?_
  ·rcases x with x|⟨⟨S,x⟩,L⟩
   ·exact .inl x
   ·exact .inr (l.base.there b S x L)
  ·have z:b=↑c+1:=by simpa using z
   subst z;rcases x with⟨y,O⟩|⟨⟨S,x⟩,L⟩
   ·have:H' (↑c+1)=none:=T.free
    rw[this]at O;cases O
   ·exact absurd (vi (qC x)) (wn _)
 refine BL (s':=s') G (I.trans l.os) d uc i k' (λb o e u=>{{o,e},u}) x4 ?_ q λb g=>?_
 ·exact((Up.of h).trans λb g o e _=>{o.slots,hs.extBut b o (λz=>J (z▸g)) e}).trans ((Up.of v).trans (.of C))
 ·obtain⟨_,U,g2,Z,g4,Y⟩:=f2 b g
  refine{?_,U,g4,λp V=>Y p (we _ V)};rcases Z with z|z
  ·exact absurd (show b∈([]:List Addr) from z) (by simp)
  ·exact z
section
variable {elt tg iter:Expr}{ifs:List Expr}{sc:Scope}{pos:Pos}{own:List Str}{fr:List (Str×Nat)}{cl:List (Str×Addr)}{wi:TI}{g:TG}{tt:TT}{te:TE}
def Rh(hi:PI (dV P w K mg base N qual scope f cd A outer s₀ H₀ E) tg iter wi)(S:eR sc)(C:iO (dV P w K mg base N qual scope f cd A outer s₀ H₀ E) sc cl fr)(B:∀xe s H a,PG (aU (dV P w K mg base N qual scope f cd A outer s₀ H₀ E) xe (own++fr.map (·.1)) sc cl s H a) tg g)(j:∀σ,iB g (bD own fr σ))(t:∀xe s H a,pI (aU (dV P w K mg base N qual scope f cd A outer s₀ H₀ E) xe (own++fr.map (·.1)) sc cl s H a) ifs tt)(u:∀xe s H a,ek (nv P w) (aU (dV P w K mg base N qual scope f cd A outer s₀ H₀ E) xe (own++fr.map (·.1)) sc cl s H a) E->PE (aU (dV P w K mg base N qual scope f cd A outer s₀ H₀ E) xe (own++fr.map (·.1)) sc cl s H a) elt te)(hs:∀x,foldedSetIterable iter (envOfC qual scope ↑s₀ f cd) x=pure x:=by intro _;rfl) :
  PE (dV P w K mg base N qual scope f cd A outer s₀ H₀ E) (.ListComp elt [{tg,iter,ifs,0}] sc pos) (Bi own fr wi g tt te):=by
 refine{?_};intro pins s σ H Q I h;rw[eval_ListComp];refine wpAny_comprehension_free (use:=none) rfl hs C.pf S.kind S.NH (bq (hi pins s σ H _ I h) λO M h1=>bq h1 λF b h2=>?_);obtain⟨it,a,L,J,H2,e,n,T,m,f2,z⟩:=h2;subst e
 refine CA (X:=dV P w K mg base N qual scope f cd A outer s₀ H₀ E) (xe:=RS (dV P w K mg base N qual scope f cd A outer s₀ H₀ E) none (EP (dV P w K mg base N qual scope f cd A outer s₀ H₀ E) pins σ Q) (.ref ↑b) sc cl b)
  (RR:=λk q=>compPost (model P w) (dV P w K mg base N qual scope f cd A outer s₀ H₀ E).A (dV P w K mg base N qual scope f cd A outer s₀ H₀ E).xe none (EP (dV P w K mg base N qual scope f cd A outer s₀ H₀ E) pins σ Q) k q) rfl S C (B _) j (t _) (u _ _ _ _ (zJ n f2)) n T m f2 z (λG o ys v c r p i=>?_) λ_ _ f=>f
 have c:=c.eh;obtain⟨D,d,_⟩:=id c.loc;have y:o ↑b=none:=(c.pin (↑b,bB v) (List.mem_append_right _ (by simp))).2.1;exact{D,d,λh' l=>{.ref ↑b,upd o ↑b (.lst ys),n.i3 f2 c r p l,Y,i _ y}}
end
end
section
variable {X:Cx}{k n:Nat}{x:Str}{ps:List Str}{sp:Sp}{p pos:Pos}{e:Expr}{es:List Expr}{t:TA}{E:XK}
structure jH(P:Program)(w:World)(K:PySem.W.Frag)(mg:Str->Option Value)(base:Heap)(k:Nat)(x:Str)(ps:List Str)(sp:Sp):Prop where
 out:∃f fd,fw P w K mg base (nv P w) k f fd ps sp/\mg x=some (.ref f)/\PySem.W.keepIn K (.ref f)=true/\Binds K fd ps []
def iW(F:jH X.prog X.w X.K X.mg X.base k x ps sp)(l:ek (nv X.prog X.w) X E)(g:cg n X.A)(m:PA X (e::es) t)(i:k≤n:=by decide)(h:Gl X x:=by exact rfl)(c:(x==("__debug__":Str))=false:=by exact rfl)(j:mI X e:=by exact λ_=>rfl)(a:(backTo pos (starEach es X.env)).any (·.1)=false:=by exact rfl) :
  PE X (.Call (.Name x p) (e::es) [] pos) (m7 sp [] E t):=by
 obtain⟨f,fd,F,hm,b,d⟩:=F.out;exact Jw F (g.mono i) h hm b d .nil l m c (j _) a
inductive sk(Fs:Addr->Sp->Prop)(E:XK)(t:TA)(σ:St)(Q:VK)(v:V)(H:Hp):Prop
 |mk(f:Addr)(sp:Sp)(h0:v=.ref f)(h1:Fs f sp)(h2:t σ H λvs H2=>sp vs H2 Q E)
def vW(a:Addr->Sp->Prop)(E:XK)(b:TE)(t:TA):TE:=λσ H Q=>b σ H λv H1=>sk a E t σ Q v H1
def TU(B:∀f sp,i f sp->∃k fd ps,k≤n/\fw X.prog X.w X.K X.mg X.base (nv X.prog X.w) k f fd ps sp/\PySem.W.keepIn X.K (.ref f)=true/\Binds X.K fd ps [])(C:ek (nv X.prog X.w) X E)(o:cg n X.A)(a:PE X (.Name x p) g)(G:PA X (e::es) t)(z:mI X e:=by exact λ_=>rfl)(b:(backTo pos (starEach es X.env)).any (·.1)=false:=by exact rfl):PE X (.Call (.Name x p) (e::es) [] pos) (vW i E g t):=by
 refine{?_};intro pins s σ H Q I h;refine wpAny_Call_Name_kw (bq (a pins s σ H _ I h) λu m ⟨v,H1,d,r,f,sp,D,a,q⟩=>?_);subst D;cases r;obtain⟨k,fd,ps,y,F,c,l⟩:=B f sp a;refine PySem.W.callWith_K (h₀:=X.base) d.ok.mod.Eo c (bq (G pos pins m σ H1 _ d q) λL J ⟨vs,H2,j,r,q⟩=>{j.jM,?_}) (z _) b;exact DQ F (o.mono y) l .nil C j r (by rw[yh];exact q)
end
def uM.Tq{P:Program}{w:World}{K:PySem.W.Frag}{mg:Str->Option Value}{base:Heap}{x qual:Str}{st:Stmt}{f:Addr}{fd:FuncData}{N ps:List Str}{k:Nat}{sp:Sp}(F:uM K x qual st f fd)(S:aj N ps (af st))(len:∀vs H Q E,sp vs H Q E->vs.length=ps.length)(b:∀(a:Value) (A:Around) (outer:List Env) (s:Shared) (H:Hp) (vs:List V) (Q:VK) (E:XK),cg k (A.deeper (envOfC qual (af st) ↑s f a))->sp vs H Q E →
   ∃t,kx (dV P w K mg base N qual (af st) f a A outer s H E) (cK st) t/\t { nx:=λ_ H'=>Q .a' H',rt:=Q } (start N vs) H):fw P w K mg base (nv P w) (k+1) f fd ps sp:=by
 obtain⟨n,o,kV,i,l,j,a,m,e,rfl,g,c⟩:=F.ex;exact xh g c S len λA outer s H vs Q E h d=>b a A outer s H vs Q E h d
def fI{P:Program}{w:World}{K:PySem.W.Frag}{mg:Str->Option Value}{base:Heap}{x:Str}{st:Stmt}{N ps:List Str}{k:Nat}{sp:Sp}(F:FO K mg x st)(S:aj N ps (af st))(e:∀{kV c h:Value}{g:Option Addr}{a i:Value}(d:List Value),d.length=ps.length->bindArgs (PySem.W.fnOf x x (eB st) (cK st) (af st) .none kV c h g a i) {d,[]}=pure (ps.zip d))(len:∀vs H Q E,sp vs H Q E->vs.length=ps.length)(b:∀(f:Addr) (a:Value) (A:Around) (outer:List Env) (s:Shared) (H:Hp) (vs:List V) (Q:VK) (E:XK),cg k (A.deeper (envOfC x (af st) ↑s f a))->sp vs H Q E →
   ∃t,kx (dV P w K mg base N x (af st) f a A outer s H E) (cK st) t/\t { nx:=λ_ H'=>Q .a' H',rt:=Q } (start N vs) H):jH P w K mg base (k+1) x ps sp:=by
 obtain⟨f,fd,F,hm⟩:=F.out;exact{f,fd,F.Tq S len (b f),hm,F.kp,F.binds e}
section
variable {P:Program}{w:World}{K:PySem.W.Frag}{mg:Str->Option Value}{base:Heap}{N:List Str}{qual:Str}{scope:Scope}{f:Addr}{cd:Value}{A:Around}{outer:List Env}{s₀:Shared}{H₀:Hp}{E:XK}
def vE(hi:PI (dV P w K mg base N qual scope f cd A outer s₀ H₀ E) (.Name y b) iter wi)(c:∀xe s H a,pI (aU (dV P w K mg base N qual scope f cd A outer s₀ H₀ E) xe [y] sc [] s H a) ifs tt)(e:∀xe s H a,ek (nv P w) (aU (dV P w K mg base N qual scope f cd A outer s₀ H₀ E) xe [y] sc [] s H a) E->PE (aU (dV P w K mg base N qual scope f cd A outer s₀ H₀ E) xe [y] sc [] s H a) elt te)(S:eR sc:=by exact{Y,∅,∅})(C:iO (dV P w K mg base N qual scope f cd A outer s₀ H₀ E) sc [] []:=by exact mj ∅)(d:∀xe s H a,PG (aU (dV P w K mg base N qual scope f cd A outer s₀ H₀ E) xe [y] sc [] s H a) (.Name y b) (cX 0):=by exact λ_ _ _ _=>i_ (SR) rfl (.inl rfl) (.inr rfl))(hs:∀x,foldedSetIterable iter (envOfC qual scope ↑s₀ f cd) x=pure x:=by exact λ_=>rfl) :
  PE (dV P w K mg base N qual scope f cd A outer s₀ H₀ E) (.ListComp elt [{.Name y b,iter,ifs,0}] sc pos) (Bi [y] [] wi (cX 0) tt te):=Rh (own:=[y]) (fr:=[]) hi S C d (λ_=>pE rfl) c e hs
def Sl{fr:List (Str×Nat)}{cl:List (Str×Addr)}(hN:N.Nodup)(hy:N[i]?=some y)(hx:Loc scope y)(hi:PI (dV P w K mg base N qual scope f cd A outer s₀ H₀ E) tg iter wi)(S:eR sc)(C:iO (dV P w K mg base N qual scope f cd A outer s₀ H₀ E) sc cl fr)(hg:∀xe s H m,PG (aU (dV P w K mg base N qual scope f cd A outer s₀ H₀ E) xe (own++fr.map (·.1)) sc cl s H m) tg g)(U:∀σ,iB g (bD own fr σ))(ht:∀xe s H m,pI (aU (dV P w K mg base N qual scope f cd A outer s₀ H₀ E) xe (own++fr.map (·.1)) sc cl s H m) ifs tt)(he:∀xe s H m,ek (nv P w) (aU (dV P w K mg base N qual scope f cd A outer s₀ H₀ E) xe (own++fr.map (·.1)) sc cl s H m) E->PE (aU (dV P w K mg base N qual scope f cd A outer s₀ H₀ E) xe (own++fr.map (·.1)) sc cl s H m) elt te)(hs:∀x,foldedSetIterable iter (envOfC qual scope ↑s₀ f cd) x=pure x:=by intro _;rfl)(O:swapsWith (.ListComp elt [{tg,iter,ifs,0}] sc pos) (some (.Name y n)) l.line (envOfC qual scope ↑s₀ f cd)=pure true:=by rfl) :
  PS (dV P w K mg base N qual scope f cd A outer s₀ H₀ E) (.Assign [.Name y n] (.ListComp elt [{tg,iter,ifs,0}] sc pos) l) (pa (Bi own fr wi g tt te) (cX i)):=by
 refine{?_};intro pins s σ H D I h;show wpAny _ _ (exec _ (envOfC qual scope ↑s₀ f cd)) _ _ s;rw[exec_Assign_Name_used _ _ _ _ O];refine qc (wpAny_standAt (qc ?_));show wpAny _ (A.deeper (envOfC qual scope ↑s₀ f cd)) (do let _ ←comprehension (.ListComp elt [⟨tg,iter,ifs,0⟩] sc pos) sc (envOfC qual scope ↑s₀ f cd) _ (newList []) false (eval iter (envOfC qual scope ↑s₀ f cd)) (some (assign (.Name y n) (envOfC qual scope ↑s₀ f cd)))) _ _ s
 refine qc (bq (wpAny_comprehension_free (use:=some (assign (.Name y n) (envOfC qual scope ↑s₀ f cd))) (Q:=λ_ s'=>SP (dV P w K mg base N qual scope f cd A outer s₀ H₀ E) pins D .next s') rfl hs C.pf S.kind S.NH
  (bq (hi pins s σ H _ I h) λxv s1 h1=>bq h1 λitv j h2=>?_)) λ_ s' hq=>qA (qA hq))
 obtain⟨it,m,tn,J,H2,e,r,T,W,f2,hW⟩:=h2;subst e
 refine CA (X:=dV P w K mg base N qual scope f cd A outer s₀ H₀ E) (xe:=RS (dV P w K mg base N qual scope f cd A outer s₀ H₀ E) (some (assign (.Name y n) (envOfC qual scope ↑s₀ f cd))) (λ_ s'=>SP (dV P w K mg base N qual scope f cd A outer s₀ H₀ E) pins D .next s') (.ref ↑j) sc cl j)
  (RR:=λR A'=>compPost (model P w) (dV P w K mg base N qual scope f cd A outer s₀ H₀ E).A (dV P w K mg base N qual scope f cd A outer s₀ H₀ E).xe (some (assign (.Name y n) (envOfC qual scope ↑s₀ f cd))) (λ_ s'=>SP (dV P w K mg base N qual scope f cd A outer s₀ H₀ E) pins D .next s') R A') rfl S C (hg _) U (ht _) (he _ _ _ _ (zJ r f2)) r T W f2 hW (λZ F ys us t hv hz L=>?_) λ_ _ f=>f
 have t:=t.eh;obtain⟨m5,B,_⟩:=id t.loc;have nD:F ↑j=none:=(t.pin (↑j,bB us) (List.mem_append_right _ (by simp))).2.1;have nC:F (↑j+1)=none:=t.free;have I6:Inv (dV P w K mg base N qual scope f cd A outer s₀ H₀ E) pins σ (upd F ↑j (.lst ys)) Z:=r.i3 f2 t hv hz (Heap.SameBut.refl _ _);show wpAny _ (A.deeper (envOfC qual scope ↑s₀ f cd)) (assign (.Name y n) (envOfC qual scope ↑s₀ f cd) (.ref ↑j)) _ _ Z;refine wpAny_assign_Name (Am (v:=.ref ↑j) I6 hN hy hx rfl (λs7 I7 ⟨a,M,Y⟩=>?_) (.inl rfl));have k:↑j<↑j+1:=vz _;have u:↑j+1≠↑s₀:=wb (vh r.lt k)
 have d:∀x c,(envOfC qual scope ↑s₀ f cd).cells.lookup x=some c->c≠↑j+1:=λx c e=>by
  obtain⟨v',q⟩:=r.cell x c e;exact qp (vh q.lt k)
 have G:↑j+1≠a:=by
  rcases Y with rfl|Y
  ·exact u
  ·exact Ne.symm (d _ _ Y)
 refine⟨m5,B.sameBut M G,λh' V=>⟨_,_,?_,L _ nD⟩⟩
 exact I7.turned (it:=↑j+1) (t':=s7.toks) (λb o hb e=>V.extBut b o hb e) (by rw[aP (wb k)];exact nC) u (.inr (qg r.sz (qj k))) d λp hp z=>by
  have q:=qC (r.pin p hp).1;rw[z]at q;exact absurd (vh k q) (wn _)
end
section
variable {M:Model}{A:Around}{E:Value->Shared->Prop}
variable {nm q nm' q':Str}{C C' N N':Addr}{bs bm bs' bm':List Value}{hdct hdct':Bool}{sn sn':List Str}{sub sub':List Value}{ab ab':Bool}{col col':Option Bool}{dd dd':Option Addr}{k0 k1 k2 k3 k5 k0' k1' k2' k3' k5':Option Value}{newId newId':String}
def O6{t:Nat}(p:h.get? C=some (excClassObj nm q C N bs bm hdct sn sub ab col dd k0 k1 k2 k3 k5 newId))(i:h.get? C'=some (excClassObj nm' q' C' N' bs' bm' hdct' sn' sub' ab' col' dd' k0' k1' k2' k3' k5' newId'))(o:h.get? e=some k)(c:k.cls=.ref C)(a:bm'.contains (.type "BaseException")=true)(m:(Value.ref C::bm).contains (.ref C')=b)(n:Q b {h,g,d,t,l}):wpAny M A (excMatches (.ref e) (.ref C')) Q E {h,g,d,t,l}:=by
 have j:(Value.ref C'::bm').contains (.type "BaseException")=true:=by rw[List.contains_cons,a,jo]
 have f:=tc_notTuple;unfold excMatches
 repeat (first|(with_reducible refine wpAny_loadPart_at o ?_;rw[c])|with_reducible refine wpAny_loadPart_at i ?_|(with_reducible refine wpAny_isSubtype_exc i ?_;rw[j])|(with_reducible refine wpAny_isSubtype_exc p ?_;rw[m])|wp_step)
 cases b <;> (wp_walk;exact n)
end
def SE(X:Cx)(pins:List (Addr×Obj))(σ:St)(E:XK)(e:Value)(s':Shared):Prop:=∃H1 a,Inv X pins σ H1 a/\Flew X.prog X.w X.stack H1 a E e s'
section
variable {X:Cx}{k n:Nat}{x:Str}{ps:List Str}{sp:Sp}{p pos:Pos}{e:Expr}{es:List Expr}{t:TA}{E:XK}{pins:List (Addr×Obj)}{σ:St}{H:Hp}{s:Shared}{Q:VK}
def RA(F:jH X.prog X.w X.K X.mg X.base k x ps sp)(o:cg n X.A)(C:PA X.Bw (e::es) t)(I:Inv X pins σ H s)(h:m7 sp [] E t σ H Q)(y:k≤n)(v:Gl X x)(j:(x==("__debug__":Str))=false)(B:mI X e)(d:(backTo pos (starEach es X.env)).any (·.1)=false) :
  wpAny (model X.prog X.w) X.A (eval (.Call (.Name x p) (e::es) [] pos) X.env) (EP X pins σ Q) (SE X pins σ E) s:=by
 obtain⟨f,fd,F,hm,i,m⟩:=F.out;refine wpAny_Call_Name_kw (pW I v hm ?_ j);refine PySem.W.callWith_K (h₀:=X.base) I.ok.mod.Eo i (qG (C pos pins s σ H _ (I.gO _) h) (λc g ⟨vs,H1,a,r,q⟩=>{a.jM,?_}) λ_ _ z=>False.elim z) (B _) d;have a:=a.eh;have l:aF (vs++[]) (c++[]):=r.append .nil
 have hl:(c++[]).length=ps.length:=by rw[←l.length];exact F.len _ _ _ _ q
 refine wpAny_call (codeAny_mono (F.run X.A X.stack g H1 {c,[]} (c++[]) (vs++[]) Q E (o.mono y) a.Lw (m g c a.jM hl) l q) λr s' b=>?_)
 cases r with
 |error e=>exact{H1,g,a,b}
 |ok fl =>
  cases fl with
  |ret u=>exact a.after b
  |next=>exact False.elim b
  |brk=>exact False.elim b
  |cont=>exact False.elim b
end
abbrev Cx.u0(X:Cx)(a:Addr):Cx:={ X with A:=X.A.mark (some (.ref a)),calm:=false,xe:=λ_ _=>False }
theorem Inv.u0{X:Cx}{pins:List (Addr×Obj)}{σ:St}{H:Hp}{s:Shared}(I:Inv X pins σ H s)(a:Addr):Inv (X.u0 a) pins σ H s:=by
 obtain⟨ok,c,h,k,i,d,f,j,e,g,b⟩:=I;exact{{ok.mod,ok.kind,ok.glob,ok.blt,ok.above,ok.inj,ok.has,ok.Em,λz=>(by cases z),ok.frames,ok.Mn,ok.OF,ok.bs,ok.wU,ok.oM,ok.tN,ok.iL,ok.C4},c,h,k,i,d,f,j,e,g,b}
def Inv.lg{X:Cx}{pins:List (Addr×Obj)}{σ:St}{H:Hp}{s:Shared}{a:Addr}(ok:X.Ok)(I:Inv (X.u0 a) pins σ H s):Inv X pins σ H s:=by
 obtain⟨_,c,h,k,i,d,f,j,e,g,b⟩:=I;exact⟨ok,c,h,k,i,d,f,j,e,g,b⟩
theorem SP.lg(ok:X.Ok)(h:SP (X.u0 a) pins D f s'):SP X pins D f s':=by
 cases f with
 |next=>obtain⟨σ',H',I,q⟩:=h;exact{σ',H',I.lg ok,q}
 |brk=>obtain⟨σ',H',I,q⟩:=h;exact{σ',H',I.lg ok,q}
 |cont=>obtain⟨σ',H',I,q⟩:=h;exact{σ',H',I.lg ok,q}
 |ret u=>obtain⟨v,σ',H',I,r,q⟩:=h;exact{v,σ',H',I.lg ok,r,q}
def Un.iH{fs ex:List Addr}(u:Un fs ex H H' h h')(f:h.get? a=none)(c:H' a=none):Un fs ex H (upd H' a o) h h' where
 keep:=u.keep
 slot:=u.slot
 free b ob e n hx:=by rw[aP (λz=>by subst z;rw[f]at e;cases e)];exact u.free b ob e n hx
 there:=u.there
 dZ b xs e:=by have q:=u.dZ b xs e;rw[aP (dg q c)];exact q
 fe b ob v e:=by have q:=u.fe b ob v e;rw[aP (dg q c)];exact q
 ff b ps e:=by obtain⟨d,q⟩:=u.ff b ps e;exact{d,by rw[aP (dg q c)];exact q}
 eP:=u.eP
def Nm(K:PySem.W.Frag)(C0 C:Addr):Prop:=∃b c cd a,K.lookup C0=some {b,c,.cls cd,a}/\cd.mro.contains (.ref C)=true
def kN(a C0:Addr):HO:=.ext λh=>∃o,h.get? a=some o/\o.cls=.ref C0
def Ends.less(D:Ends)(i:Nat):Ends:={ nx:=λσ H=>D.nx (σ.set i none) H,rt:=D.rt,bk:=λσ H=>D.bk (σ.set i none) H,ct:=λσ H=>D.ct (σ.set i none) H }
section
variable {X:Cx}{pins:List (Addr×Obj)}{σ:St}{H:Hp}{s:Shared}
def wa(I:Inv X pins σ H s)(T:X.N.Nodup)(hi:X.N[i]?=some x)(L:X.env.scope.names.lookup x=some .local)(h:∀s',Inv X pins (σ.set i none) H s'->Q Unit.unit s'):wpAny M A (do bindName X.env x .none;unbindBehindTheSuite X.env x pos) Q E s:=by
 obtain⟨m,P,hl⟩:=id I.loc
 have g:(X.env.scope.kind==.class||(X.env.scope.kind==.module&&X.env.locals != X.env.globals))=false:=by rw[I.ok.kind];rfl
 have uq:=I.uq;refine wpAny_nameGoes_keeps L P g λh' v u hs=>?_;have r:∀b o,X.s₀.heap.get? b=some o->b≠X.env.locals:=λb o e=>qp (zo (qC e) I.ok.above);refine h _ {I.ok,I.os,I.bare,{λb o e n w l=>(hs.2 b (r b o e)).trans (I.base.keep b o e n w l),λb o e n w l=>?_,I.base.free,λb o e l=>?_,I.base.dZ,I.base.fe,I.base.ff,λb o xs e n=>(hs.2 b (r b o e)).trans (I.base.eP b o xs e n)},{_,u,λj y G a f O=>?_},λy c e=>?_,I.free,I.eY,λp F=>?_,λb K e=>?_,by simpa using I.len}
 ·obtain⟨D,a⟩:=I.base.slot b o e n w l
  exact{D,(hs.2 b (r b o e)).trans a}
 ·obtain⟨o',a⟩:=I.base.there b o e l
  exact{o',(hs.2 b (r b o e)).trans a}
 ·by_cases B:j=i
  ·subst B
   rw[List.getElem?_set]at f
   split at f
   ·split at f <;> cases f
   ·exact absurd rfl ‹_›
  ·rw[yb (Ne.symm B)]at f
   obtain⟨S,R,q⟩:=hl j y G a f O;refine{S,R,?_};rcases q with⟨k,e⟩|⟨k,c,e,z⟩
   ·refine .inl ⟨k,?_⟩
    have:y≠x:=λe=>B (B' T a (e▸hi))
    simp[this,e]
   ·exact .inr {k,c,e,z.sameBut hs (uq y c e)}
 ·obtain⟨C,z⟩:=I.cell y c e
  exact{C,z.sameBut hs (uq y c e)}
 ·obtain⟨e,n,ne,J,d⟩:=I.pin p F
  exact{(hs.2 p.1 ne).trans e,n,ne,J,d}
 ·refine(I.bP b K e).iR (λc C t q=>(hs.2 c ?_).trans q) (λ_ q=>q) λ_ _ q=>q
  rintro rfl;rcases t with rfl|t
  ·rw[I.free]at e;cases e
  ·rw[I.free]at t;cases t
def Pa(b:X.N.Nodup)(hi:X.N[i]?=some x)(c:X.env.scope.names.lookup x=some .local)(ok:X.Ok)(h:SP X pins (D.less i) f s) :
  wpAny M A (do bindName X.env x .none;unbindBehindTheSuite X.env x pos) (λ_ s'=>SP X pins D f s') E s:=by
 cases f with
 |next=>obtain⟨σ',H',I,q⟩:=h;exact wa I b hi c λs' a=>{_,H',a,q}
 |brk=>obtain⟨σ',H',I,q⟩:=h;exact wa I b hi c λs' a=>{_,H',a,q}
 |cont=>obtain⟨σ',H',I,q⟩:=h;exact wa I b hi c λs' a=>{_,H',a,q}
 |ret u=>obtain⟨v,σ',H',I,r,q⟩:=h;exact wa I b hi c λs' a=>{v,_,H',a,r,q}
end
section
variable {X:Cx}{pins:List (Addr×Obj)}{σ:St}{s':Shared}{D:Ends}{e:Value}{C0 C:Addr}{W:Hp->Prop}{y:Str}{np hpos:Pos}{b₀:Stmt}{suite:List Stmt}{th:TS}
def QO(hN:X.N.Nodup)(hi:X.N[i]?=some n)(hl:X.env.scope.names.lookup n=some .local)(hs:X.stack=X.env::X.outer)(hf:X.env.frame=some X.env.locals)(xc0:XC X.K C0)(xc:XC X.K C)(ab:Nm X.K C0 C)(hm:X.mg y=some (.ref C))(hg:Gl X y)(V:(y==("__debug__":Str))=false)(R:∀a,kx (X.u0 a) (b₀::suite) th)(hq:SE X pins σ (λcls _ H'=>cls=.ref C0/\W H') e s')(hW:∀H' a,W H'->H' a=none->th (D.less i) (σ.set i (some (.ref a))) (upd H' a (kN a C0))) :
  wpAny (model X.prog X.w) X.A (noteFrame e X.env) (λ_ P=>wpAny (model X.prog X.w) X.A (setFlight e none) (λ_ I =>
   wpAny (model X.prog X.w) X.A (handleBy e X.env [.ExceptHandler (some (.Name y np)) (some n) (b₀::suite) hpos]) (SP X pins D) X.xe I) X.xe P) X.xe s':=by
 obtain⟨H1,E,u,a,cls,H',rfl,G,d,un,j,⟨B,a0,fl,k⟩,rfl,q⟩:=hq;have hX:X.A.frames=some (X.env::X.outer):=u.ok.frames.trans (by rw[hs]);rw[hs]at fl;have kD:∀b o,E.heap.get? b=some o->b∉([]:List Addr)->In E.heap b:=λb o e _=>{o,e}
 have na:E.heap.get? a=none/\H' a=none:=by
  have nf:a∉eU X.stack:=λz=>by
   obtain⟨oe,vs,T,oT,ts,he,_,Y,_⟩:=fl.2.2.2
   have J:Inv X pins σ H' s':=u.lx G un j d λb z=>absurd z (by simp)
   obtain⟨_,o',g,hn⟩:=J.stack.mem z;rw[he]at g;cases g;exact hn vs Y
  obtain⟨S,h,_⟩:=fl.there;constructor
  ·cases z:E.heap.get? a with
   |none=>rfl
   |some o=>have:=k a S h nf (.inr {o,z});rw[fl.2.1]at this;cases this
  ·cases z:H' a with
   |none=>rfl
   |some o=>have:=k a S h nf (.inl {o,z});rw[fl.2.1]at this;cases this
 refine wpAny_looks_onW hX hf fl λh4 held p=>?_;refine wpAny_landsW held λh5 r m=>?_;have Q:Inv X pins σ H' { s' with heap:=h5 }:=u.n' G d un j k kD r.1 (.of (p.trans m)) (λb z=>absurd z (by simp));obtain⟨S,h,H⟩:=r.there;refine wpAny_handleBy_cons (codeAny_handlers_test (pW (X:=X.u0 a) (Q.u0 a) hg hm ?_ V)) (by intro q;cases q);obtain⟨tl,Na,nm,qn,bs,hdct,sn,sub,ab',col,dd,k0,k1,k2,k3,k5,mN,hC,_,_,T⟩:=xc0.obj Q.jM;obtain⟨tl',Na',nm',qn',bs',hdct',sn',sub',ab'',col',dd',k0',k1',k2',k3',k5',mN',Z,_,_,T'⟩:=xc.obj Q.jM
 have M:(Value.ref C0::tl).contains (.ref C)=true:=by
  obtain⟨oc,od,cd,sl,l1,l2⟩:=ab;have:=Q.jM _ _ l1;rw[hC]at this;unfold excClassObj at this;cases this;exact l2
 refine O6 hC Z h H (T'.hasType PySem.F.excBase_ValueError.hasBase) M (codeAny_handlers_suite_as ?_);refine lands_againW r λh6 t O=>?_;have U:Inv X pins σ H' { s' with heap:=h6 }:=u.n' G d un j k kD t.1 (.of ((p.trans m).trans O)) (λb z=>absurd z (by simp));obtain⟨L,l,s⟩:=t.there
 have J:Inv X pins σ H' s':=u.lx G un j d λb z=>absurd z (by simp)
 have k2:iJ (eU X.stack) H' (In E.heap) s'.heap h6:=λb o e n x=>t.1 b o (k b o e n x)
 have u6:Un (eU X.stack) [] H1 H' E.heap h6:=un.over k2 kD u.gQ λb hb o e=>by
  obtain⟨_,o',g,V⟩:=J.stack.mem hb;rw[e]at g;cases g;exact((p.trans m).trans O) b o e V
 have J7:Inv X pins σ (upd H' a (kN a C0)) { s' with heap:=h6 }:=u.lx (s':={ s' with heap:=h6 }) G (u6.iH na.1 na.2)
  (U.bP.iH na.2 {{L,l,s},{L,l},λh1 h2 ⟨o,e,c⟩ kk=>{o,kk o e,c}}) d λb z=>absurd z (by simp)
 refine DC (v:=.ref a) J7 hN hi (.inl hl) rfl (λs8 J8=>?_) (.inr hl);exact qG (R a pins _ _ _ (D.less i) (J8.u0 a) (hW H' a q na.2)) (λf s2 h2=>Pa hN hi hl U.ok (h2.lg U.ok)) λ_ _ z=>False.elim z
end
section
variable {X:Cx}{k n i:Nat}{x y z:Str}{ps:List Str}{sp:Sp}{p pos np hpos apos zp tpos:Pos}{e:Expr}{es:List Expr}{t:TA}{C0 C:Addr}{b₀:Stmt}{suite:List Stmt}{th:TS}
def Iy(C0:Addr)(sp:Sp)(i:Nat)(t:TA)(th:TS):TS:=λD σ H=>m7 sp [] (λcls _ H'=>cls=.ref C0/\∀a,H' a=none->th (D.less i) (σ.set i (some (.ref a))) (upd H' a (kN a C0))) t σ H λ_ H1=>D.nx σ H1
def R9(F:jH X.prog X.w X.K X.mg X.base k x ps sp)(l:cg n X.A)(j:XC X.K C0)(Q:XC X.K C)(ab:Nm X.K C0 C)(hm:X.mg y=some (.ref C))(R:X.N.Nodup)(i:Nat)(S:PA X.Bw (e::es) t)(c:∀a,kx (X.u0 a) (b₀::suite) th)(o:k≤n:=by decide)(hi:X.N[i]?=some z:=by exact rfl)(m:X.env.scope.names.lookup z=some .local:=by exact rfl)(hs:X.stack=X.env::X.outer:=by exact rfl)(G:X.env.frame=some X.env.locals:=by exact rfl)(M:Gl X x:=by exact rfl)(g:Gl X y:=by exact rfl)(E:(x==("__debug__":Str))=false:=by exact rfl)(f:(y==("__debug__":Str))=false:=by exact rfl)(q:mI X e:=by exact λ_=>rfl)(b:(backTo pos (starEach es X.env)).any (·.1)=false:=by exact rfl)(d:swapsWith (.Call (.Name x p) (e::es) [] pos) none apos.line X.env=pure false:=by exact rfl) :
  PS X (.Try [.Expr (.Call (.Name x p) (e::es) [] pos) apos] [.ExceptHandler (some (.Name y np)) (some z) (b₀::suite) hpos] [] [] tpos) (Iy C0 sp i t th):=by
 refine{?_};intro pins s σ H D I h;refine wpAny_Try_except (wpAny_execs_cons (wpAny_Expr_any (qG (RA F l S I h o M E q b) (λv J ⟨u,H1,O,T,B⟩=>?_) λU J P=>?_) I.quiet d))
 ·exact wpAny_execs_nil (wpAny_execs_nil {_,H1,O,B})
 ·exact QO R hi m hs G j Q ab hm g f c P λH' a L r=>L a r
end
structure uJ(z:Str):Prop where
 len:z.length≤100000
 lo:∀c∈z.cps.toList,c<16 ^ 8
inductive IP(Q:VK)(x:V)(H:Hp):Prop
 |mk(z:Str)(h0:x=.str z)(h1:uJ z)(h2:∀v,Q v H)
def Jr(te:TE):TE:=λσ H Q=>te σ H λx H1=>IP Q x H1
section
variable {X:Cx}{e:Expr}{te:TE}{p1 p2 pos:Pos}{c:Str}{j:Nat}
def bL{a b:Str}:(a++b).length=a.length+b.length:=by
 show(a.cps++b.cps).size=a.cps.size+b.cps.size;exact yv
def nX(o:PE X e te)(r:c.length≤1000:=by decide):PE X (.JoinedStr [.FormattedValue e 114 none p1,.Constant (.str c) j p2] pos) (Jr te):=by
 refine{?_};intro pins s σ H Q I h;refine wpAny_JoinedStr ?_;refine wpAny_FormattedValue_repr (qG (o pins s σ H _ I h) (λv l ⟨x,H1,k,i,z,p,f,q⟩=>?_) λ_ _ e=>e);subst p;obtain⟨t,rfl⟩:=i;have u:=StrLaws.reprText_len z f.lo;have hl:=f.len
 have h1:(reprText z).length≤sizeLine:=by rw[sizeLine_eq];omega
 have h2:(Str.empty++reprText z).length≤sizeLine:=by rw[bL,sizeLine_eq];show 0+_≤_;omega
 have g:(Str.empty++reprText z++c).length≤sizeLine:=by rw[bL,bL,sizeLine_eq];show 0+_+_≤_;omega
 refine wpAny_pyReprObj_str ?_ h1
 have b:∀(n m:Nat),∃y t,Value.str (reprText z) n=Value.str y t/\(Str.empty++y).length≤sizeLine/\Joins (model X.prog X.w) X.A X.xe (evalEach [.Constant (.str c) j p2] X.env) (Str.empty++y) (λd a=>d.length≤sizeLine/\EP X pins σ Q (.str d a.toks) { a with toks:=a.toks+1 }) { l with toks:=m }:=λn m=>by
  refine{_,_,Y,h2,?_};refine Calls.Constant_str ?_;exact{_,_,Y,g,g,.str _,H1,(k.tok _),{_,Y},q _}
 exact wpAny_formatField_str (b _ _) (b _ _) h1
def N8(o:PE X e te)(r:c.length≤1000:=by decide):PE X (.JoinedStr [.FormattedValue e (-1) none p1,.Constant (.str c) j p2] pos) (Jr te):=by
 refine{?_};intro pins s σ H Q I h;refine wpAny_JoinedStr ?_;refine wpAny_FormattedValue_plain (qG (o pins s σ H _ I h) (λv l ⟨x,H1,k,i,z,p,g,q⟩=>?_) λ_ _ e=>e);subst p;obtain⟨t,rfl⟩:=i;have hl:=g.len
 have h1:z.length≤sizeLine:=by rw[sizeLine_eq];omega
 have h2:(Str.empty++z).length≤sizeLine:=by rw[bL,sizeLine_eq];show 0+_≤_;omega
 have f:(Str.empty++z++c).length≤sizeLine:=by rw[bL,bL,sizeLine_eq];show 0+_+_≤_;omega
 have b:∀(n m:Nat),∃y t,Value.str z n=Value.str y t/\(Str.empty++y).length≤sizeLine/\Joins (model X.prog X.w) X.A X.xe (evalEach [.Constant (.str c) j p2] X.env) (Str.empty++y) (λd a=>d.length≤sizeLine/\EP X pins σ Q (.str d a.toks) { a with toks:=a.toks+1 }) { l with toks:=m }:=λn m=>by
  refine{_,_,Y,h2,?_};refine Calls.Constant_str ?_;exact{_,_,Y,f,f,.str _,H1,(k.tok _),{_,Y},q _}
 exact wpAny_formatField_str (b _ _) (b _ _) h1
end
end L2
namespace L2
open PySem PySem.Spec PySem.W PyProof.Rows PySem.Calls Builtin Builtin.ObjectAttr Builtin.Getset_descriptor
section
variable {prog:Program}{w:World}{A:Around}{E:Value->Shared->Prop}{s:Shared}{K:Frag}{x C:Addr}{R:Result->Shared->Prop}
def P5(X:K.In s.heap)(c:Looks (model prog w) s.heap (typeOf (.ref x)) (.ref C))(hm:mroIn K C (.type "object")=some true)(h:R (.ok (.ret (.ref C))) s):codeAny (model prog w) A (.call (.builtin "getset_descriptor.__get__") {[.builtin "object.__class__",.ref x,tp],[]}) R s:=by
 obtain⟨a,g,d,t,e⟩:=s;have b:=looks_mroIn (M:=model prog w) X hm;refine codeAny_call_builtin KF.slot_gs.plain KF.entry_gs (KF.slot_gs.check _ _ _ _ _ _ _ _ KF.type_class (KF.args_gs _ _ _) ?_);unfold Builtin.«getset_descriptor.__get__» descrGet;rw[dga_obj];refine qc (qA ?_);unfold descrGetter descrCheckInstance descrNameAndClass isInstance
 simp only[KF.owner_class]
 repeat lk
 refine{Code.quiet_builtin _ ∅,codeAny_builtin KF.entry_class ?_};unfold Builtin.«object.__class__» shownTypeOf
 repeat lk
 exact h
structure XI(K:Frag)(C:Addr):Prop where
 ga:findIn K (.ref C) "__getattribute__"=some (some (.builtin "BaseException.__getattribute__"))
 gt:findIn K (.ref C) "__getattr__"=some none
 cl:findIn K (.ref C) "__class__"=some (some (.builtin "object.__class__"))
 ob:mroIn K C (.type "object")=some true
 be:mroIn K C (.type "BaseException")=some true
def PH{tk:Tok}(F:XI K C)(X:K.In s.heap)(c:s.heap.get? x=some o)(a:o.cls=.ref C)(h:Q (.done (.ret (.ref C))) s) :
  wpAny (model prog w) A (Builtin.«object.__getattribute__» {[.ref x,.str "__class__" tk],[]}) Q E s:=by
 obtain⟨b,g,i,t,j⟩:=s;have f:Looks (model prog w) b (typeOf (.ref x)) (.ref C):=a▸(Looks.ld c).andThen .now;have e:=looks_findIn (M:=model prog w) X F.cl;have d:(⟨b,g,i,t,j⟩:Shared).TypeIs (.builtin "object.__class__") "getset_descriptor":=PySem.F.typeOf_object_class;have k:=PySem.F.typeOf_object_class;have l:=PySem.F.slot_gs_get.lookup;have m:=PySem.F.slot_gs_set.lookup
 repeat (any_goals (first|assumption|(with_reducible refine wpAny_loadPart_at c ?_;rw[a])|with_reducible refine Looks.at e ?_|wp_step))
 refine P5 X f F.ob ?_
 repeat (any_goals (first|assumption|wp_step))
def O8(F:XI K C)(X:K.In s.heap)(f:s.heap.get? x=some o)(c:o.cls=.ref C)(h:Q Unit.unit s):wpAny (model prog w) A (checkBuiltinCall "BaseException.__getattribute__" {[.ref x,a],[]}) Q E s:=by
 obtain⟨i,g,j,t,k⟩:=s
 have e:builtinKind "BaseException.__getattribute__"=some .slot:=∅
 have b:splitId "BaseException.__getattribute__"=some ("BaseException","__getattribute__"):=∅
 have l:=PySem.F.args_bexc_ga (.ref x) a;have d:=looks_mroIn (M:=model prog w) X F.be
 simp only[checkBuiltinCall,e,b]
 refine qc ?_
 ·unfold isInstance
  repeat (first|(with_reducible refine wpAny_loadPart_at f ?_;rw[c])|with_reducible refine Looks.at d ?_|wp_step)
  exact h
def CT{tk:Tok}(F:XI K C)(X:K.In s.heap)(c:s.heap.get? x=some o)(a:o.cls=.ref C)(h:Q (.ref C) s):wpAny (model prog w) A (getAttrBy (.ref x) (.str "__class__" tk) false) Q E s:=by
 obtain⟨j,g,k,t,l⟩:=s;have d:=looks_findIn (M:=model prog w) X F.ga;have f:=looks_findIn (M:=model prog w) X F.gt;have G:=PySem.F.excAttr_ValueError.ga
 have b:(Value.builtin "BaseException.__getattribute__"==Value.builtin "object.__getattribute__")=false:=∅
 have e:(onTheHeap (Value.ref C)&&Value.builtin "BaseException.__getattribute__"==Value.builtin "object.__getattribute__")=false:=by rw[b];rfl
 have i:=G.bind (.ref x)
 repeat (any_goals (first|assumption|(with_reducible refine wpAny_loadPart_at c ?_;rw[a])|with_reducible refine Looks.at d ?_|with_reducible refine Looks.at f ?_|wp_step))
 refine codeAny_call_builtin G.plain PySem.F.entry_bexc_ga (O8 F X c a (PH F X c a ?_))
 repeat (any_goals (first|assumption|wp_step))
def RF(F:XI K C)(X:K.In s.heap)(c:s.heap.get? x=some o)(a:o.cls=.ref C)(h:Q (some (.ref C)) { s with toks:=s.toks+1 }):wpAny (model prog w) A (getAttr? (.ref x) "__class__") Q E s:=by
 obtain⟨b,g,d,t,e⟩:=s;unfold getAttr? getAttrBy?;refine qc (wpAny_mkText (qc (wpAny_attempt (CT (s:={b,g,d,t+1,e}) F X c a ?_))));exact qA h
def Pj(F:XI K C)(b:∃cd,clsIn K C=some cd):KitX K (.ref x) (.ref C) (λh=>∃o,h.get? x=some o/\o.cls=.ref C) where
 ty:=λ_ _ _ ⟨o,i,c⟩=>c▸(Looks.ld i).andThen .now
 it:=λ_ _ X _=>by
  obtain⟨g,a⟩:=b;unfold clsIn at a
  split at a
  ·rename_i p d' d l j
   intro t r u s' k q;unfold isType loadHead;exact qc (wpAny_loadPart (k _ _ (X _ _ j)) (qA q))
  ·cases a
 ne:=λh tp dd m n s X f=>by
  obtain⟨g,a⟩:=b;refine zw.mpr λq=>?_;have e:C=tp:=Value.ref.inj (beq_iff_eq.mp q);subst e;unfold clsIn at a
  split at a
  ·rename_i p d' d l j
   have z:=(X _ _ j).symm.trans f;cases z
  ·cases a
 ca:=λX ⟨o,i,c⟩ k=>RF F X i c k
end
structure PU(K:Frag)(C0:Addr)(M:V->Option Bool):Prop where
 xi:XI K C0
 cl:∃cd,clsIn K C0=some cd
 one:∀v u b,RelV v u->M v=some b->kitOne K (.ref C0) u=some b
inductive Q4(C0:Addr)(M:V->Option Bool)(xs:List V)(H:Hp)(Q:VK):Prop
 |mk(a:Addr)(v:V)(b:Bool)(h0:xs=[.ref a,v])(h1:H a=some (kN a C0))(h2:M v=some b)(h3:Q (.bl b) H)
def lK(F:PU X.K C0 M):cu X (.builtin "isinstance") (Q4 C0 M):=by
 intro pins s σ H xs i Q I f h;obtain⟨a,v,b,rfl,h1,h2,q⟩:=h;obtain⟨k,j,rfl,d,g⟩:=vals2 f;cases d;obtain⟨o,e,c⟩:=(I.bP a _ h1).1;exact kia_one (Pj F.xi F.cl) I.jM {o,e,c} (F.one v _ b g h2) (by intro z;cases z) λtk=>{.bl b,H,I.tok _,Y,q}
def tP(K:Frag)(C0 C:Addr):Bool:=match K.lookup C0 with
 |some ⟨_,_,.cls cd,_⟩=>cd.mro.contains (.ref C)
 |_=>false
def Ah{K:Frag}{C0 C:Addr}(h:tP K C0 C=true):Nm K C0 C:=by
 unfold tP at h
 split at h
 ·exact{_,_,_,_,by assumption,h}
 ·cases h
def OA:bootBuiltins "ValueError"=some (.type "ValueError"):=by first|decide +kernel|kernel_rfl
end L2
namespace L2
open PySem PySem.Spec PySem.W PyProof.Rows My PySem.NumText
def Qq{z:Str}(d:∀c∈z.cps.toList,48≤c/\c≤57)(h1:1≤z.cps.size)(g:z.cps.size≤7)(f:z.cps.toList.head?=some 48->z.cps.size=1):∃n:Int,0≤n/\n<10 ^ 7/\z=toString n:=by
 obtain⟨⟨cs⟩⟩:=z;have d:∀c∈cs,48≤c/\c≤57:=d;have h1:1≤cs.length:=h1;have g:cs.length≤7:=g;have f:cs.head?=some 48->cs.length=1:=f
 have e:=toDigits_digitsVal (cs.length - 1) cs () (λc b=>d c b) (by
  cases cs with
  |nil=>exact absurd h1 ⋯
  |cons c r =>
   by_cases b:c=48
   ·subst b;exact .inl (by have:=f rfl;omega)
   ·exact .inr {c,r,Y,by have:=d c qo;omega})
 have i:(Nat.toDigits 10 (digitsVal cs)).map Char.toNat=cs:=by
  rw[e,zq]
  have:∀l:List Nat,(∀c∈l,48≤c/\c≤57)->l.map (Char.toNat∘Char.ofNat)=l:=by
   intro l
   induction l with
   |nil=>intro _;rfl
   |cons a l j =>
    intro h;rw[qw,j λc b=>h c (ql _ b)]
    congr 1
    have o:=h a qo
    have:a=48\/a=49\/a=50\/a=51\/a=52\/a=53\/a=54\/a=55\/a=56\/a=57:=()
    rcases this with rfl|rfl|rfl|rfl|rfl|rfl|rfl|rfl|rfl|rfl <;> rfl
  exact this cs d
 refine{((digitsVal cs:Nat):Int),Int.natCast_nonneg _,?_,?_}
 ·apply Classical.byContradiction
  intro h;have m:=digits10_ge (k:=7) (n:=digitsVal cs) ()
  have:(Nat.toDigits 10 (digitsVal cs)).length=cs.length:=by rw[e,qf]
  omega
 ·show({{cs}}:Str)=Str.ofString (toString (Int.ofNat (digitsVal cs)))
  rw[text_ofNat,i]
def FW(h:bp z=true):a8 z:=by
 unfold bp at h;rw[qv,zk]at h;have h1:=qB h.1;refine{h1.1,h1.2,λc a=>?_};have:=h.2 c a;unfold lH at this;rw[qv]at this;exact{qB this.1,qB this.2}
def OZ{n:Int}(b:0≤n)(a:n<10 ^ 7):(toString n:Str).cps.size≤7:=by
 obtain⟨m,rfl⟩:=Int.eq_ofNat_of_zero_le b;show(Str.ofString (toString (Int.ofNat m))).cps.size≤7;rw[text_ofNat];show((Nat.toDigits 10 m).map Char.toNat).length≤7;rw[qf];exact digits10_le ⋯ (by have h:(m:Int)<10 ^ 7:=a;omega)
def ur{n:Int}(a:0≤n):0<(toString n:Str).cps.size:=by
 obtain⟨m,rfl⟩:=Int.eq_ofNat_of_zero_le a;show 0<(Str.ofString (toString (Int.ofNat m))).cps.size;rw[text_ofNat];show 0<((Nat.toDigits 10 m).map Char.toNat).length;rw[qf];exact tDigits_len_ge 10 m
def HR{n:Int}(h:0≤n)(e:(toString n:Str).cps.toList[0]?=some 48):n=0:=by
 obtain⟨m,rfl⟩:=Int.eq_ofNat_of_zero_le h;have a:(toString ((m:Nat):Int):Str).cps.toList=(Nat.toDigits 10 m).map Char.toNat:=KIN.signs_num m;rw[a]at e;rw[Q9 m e];rfl
def ml{n m:Int}(c:0≤n)(hm:0≤m)(h:(toString n:Str)=toString m):n=m:=by
 obtain⟨a,rfl⟩:=Int.eq_ofNat_of_zero_le c;obtain⟨b,rfl⟩:=Int.eq_ofNat_of_zero_le hm;have e:=congrArg (λz:Str=>digitsVal z.cps.toList) h;have e:digitsVal (toString ((a:Nat):Int):Str).cps.toList=digitsVal (toString ((b:Nat):Int):Str).cps.toList:=e;rw[KIN.signs_num,KIN.signs_num,KIN.val_back,KIN.val_back]at e;rw[e]
theorem uW:∀{xs:List (List Nat)} {x:List Nat},x∈xs->(∀c∈x,c∈jl s xs)/\x.length≤(jl s xs).length
 |[a],x,h=>by
  have e:x=a:=by simpa using h
  subst e;exact{λ_ h=>h,qi _}
 |a::b::r,x,h=>by
  have e:jl s (a::b::r)=a++s::jl s (b::r):=rfl;rw[e];rcases qr.mp h with rfl|h
  ·exact⟨λc d=>vp _ d,by rw[qu];omega⟩
  ·have:=uW (s:=s) h
   exact{λc d=>we _ (ql _ (this.1 c d)),by rw[qu,zi];have:=this.2;omega}
def jL(h:w∈Txt.split z {#[s]}):(∀c∈w.cps.toList,c∈z.cps.toList)/\w.length≤z.length:=by
 have e:=congrArg (λx:Str=>x.cps.toList) (StrLaws.join_split z {#[s]});have e:(Str.join ⟨#[s]⟩ (Txt.split z ⟨#[s]⟩)).cps.toList=z.cps.toList:=e;rw[iQ]at e;have:=uW (s:=s) (qk.mpr {w,h,Y}:w.cps.toList∈(Txt.split z {#[s]}).map λw=>w.cps.toList);rw[e]at this;refine{this.1,?_};have h2:=this.2;rw[zt,zt]at h2;exact h2
def uJ.part(a:uJ z)(h:w∈Txt.split z {#[s]}):uJ w:={qg (jL h).2 a.len,λc b=>a.lo c ((jL h).1 c b)}
def nM(h:Txt.split z {#[s]}=ws):z=Txt.join {#[s]} ws:=by
 rw[←h];exact(StrLaws.join_split z {#[s]}).symm.trans (StrLaws.glued_eq_join _ _).symm
def pV{n:Int}(h:0≤n):46∉(toString n:Str).cps.toList:=λa=>by have:=kB h _ a;omega
theorem L1:∀{xs:List (List Nat)},xs.length≤(jl s xs).length+1
 |[]=>wq _
 |[a]=>by show 1≤_;omega
 |a::b::r=>by
  have h:=L1 (s:=s) (xs:=b::r);show(b::r).length+1≤(a++s::jl s (b::r)).length+1;rw[qu,zi (a:=s)];omega
def Kb(h:Txt.split z {#[s]}=ts):ts.length≤z.length+1:=by
 have e:=congrArg (λx:Str=>x.cps.toList) (StrLaws.join_split z {#[s]});have e:(Str.join ⟨#[s]⟩ (Txt.split z ⟨#[s]⟩)).cps.toList=z.cps.toList:=e;rw[iQ,h]at e;have:=L1 (s:=s) (xs:=ts.map λw=>w.cps.toList);rw[e,qf,zt]at this;exact this
theorem F2.snoc:∀{ds:List PyData} {zs:List Str},F2 P ds zs->P d w->F2 P (ds++[d]) (zs++[w])
 |_,_,.nil,h=>.cons h .nil
 |_,_,.cons h t,h'=>.cons h (t.snoc h')
def pz(h:n≤1001):n≤sizeLine:=qg h ⋯
def NL(z:Str):z={#[]}\/∃y a,z=y++({#[a]}:Str):=by
 obtain⟨⟨l⟩⟩:=z;rcases List.eq_nil_or_concat l with rfl|⟨m,a,rfl⟩
 ·exact .inl rfl
 ·refine .inr ⟨⟨⟨m⟩⟩,a,?_⟩
  show(⟨⟨m.concat a⟩⟩:Str)=⟨(⟨m⟩:Array Nat)++#[a]⟩
  congr 1
  all_goals (apply Array.ext';rw[wm,List.concat_eq_append])
def kH(h:y++({#[a]}:Str)=c++({#[b]}:Str)):y=c/\a=b:=by
 obtain⟨⟨l⟩⟩:=y;obtain⟨⟨m⟩⟩:=c;have e:=congrArg (λx:Str=>x.cps.toList) h;have e:(((⟨l⟩:Array Nat)++#[a]).toList)=(((⟨m⟩:Array Nat)++#[b]).toList):=e;rw[wm,wm]at e;have e:l++[a]=m++[b]:=e;have:=List.append_inj' e rfl;exact{by rw[this.1],(List.cons.inj this.2).1}
def o_:(∀c∈y.cps.toList,c∈(y++({#[a]}:Str)).cps.toList)/\y.length≤(y++({#[a]}:Str)).length:=by
 refine{λc b=>?_,?_}
 ·show c∈(y.cps++#[a]).toList
  rw[wm];exact vp _ b
 ·rw[bL];omega
def KS:y++({#[a]}:Str)≠{#[]}:=λh=>by
 have:=congrArg Str.length h;rw[bL]at this;have:y.length+1=0:=this;omega
def HB(z:Str):z={#[]}\/∃a y,z=({#[a]}:Str)++y:=by
 obtain⟨⟨l⟩⟩:=z
 cases l with
 |nil=>exact .inl rfl
 |cons a m =>
  refine .inr {a,{{m}},?_};show({{a::m}}:Str)={#[a]++({m}:Array Nat)}
  congr 1
  all_goals (apply Array.ext';rw[wm];rfl)
def mm(h:({#[a]}:Str)++y=({#[b]}:Str)++c):a=b/\y=c:=by
 obtain⟨⟨l⟩⟩:=y;obtain⟨⟨m⟩⟩:=c;have e:=congrArg (λx:Str=>x.cps.toList) h;have e:((#[a]++(⟨l⟩:Array Nat)).toList)=((#[b]++(⟨m⟩:Array Nat)).toList):=e;rw[wm,wm]at e;have e:a::l=b::m:=e;exact{(List.cons.inj e).1,by rw[(List.cons.inj e).2]}
def pL:(∀c∈y.cps.toList,c∈(({#[a]}:Str)++y).cps.toList)/\y.length≤(({#[a]}:Str)++y).length:=by
 refine{λc b=>?_,?_}
 ·show c∈(#[a]++y.cps).toList
  rw[wm];exact we _ b
 ·rw[bL];omega
def eK{pv:List V}{r:Nat}:bR pv (some (r:Int)) none=pv.drop r:=by
 by_cases h:r≤pv.length
 ·exact OQ h
 ·unfold bR
  rw[HT.cL,HT.cG,Nat.min_eq_right (by omega:pv.length≤r),List.drop_length,List.take_nil,List.drop_eq_nil_of_le ()]
end L2
namespace Stb
open PySem SetTable
def tm(m:Nat):SetTable:={ mask:=m,place:=#[],dummies:=#[],finger:=0,led:=false,moves:=0,plain:=true }
def wj(m:Nat)(h:Int)(n:Nat):Nat:=(cZ (tm m) n (at' m (bits h % (m+1)) (bits h))).j
theorem M9(t:SetTable):∀(n:Nat) (p:Probe),cZ t n p=cZ (tm t.mask) n p
 | 0,_=>rfl
 |n+1,p=>M9 t n (t.advance p)
def oA(t:SetTable)(h:Int)(n:Nat):(cZ t n (t.probeStart h)).j=wj t.mask h n:=by rw[M9];rfl
def G0(xs:Array Nat):Prop:=∀(a b x y:Nat),xs[a]?=some x->xs[b]?=some y->a<b->x<y
theorem AR(hs:G0 xs):∀(f lo hi:Nat),lo≤hi->hi≤xs.size->hi - lo≤f->(∀a x,a<lo->xs[a]?=some x->x<j)->(∀a x,hi≤a->xs[a]?=some x->j≤x) →
  (∀a x,a<below.go xs j f lo hi->xs[a]?=some x->x<j)/\(∀a x,below.go xs j f lo hi≤a->xs[a]?=some x->j≤x)/\below.go xs j f lo hi≤xs.size
 | 0,lo,hi,h1,h2,h3,h4,h5=>by
  have:lo=hi:=()
  subst this;exact{h4,h5,h2}
 |f+1,lo,hi,h1,h2,h3,h4,h5=>by
  unfold below.go
  by_cases q:lo<hi
  ·rw[q0 q]
   dsimp only
   have hm:(lo+hi) / 2<xs.size:=()
   have b:xs[(lo+hi) / 2]?=some xs[(lo+hi) / 2]:=zv hm;rw[yf,b,gh]
   by_cases c:xs[(lo+hi) / 2]<j
   ·rw[q0 c]
    refine AR hs f _ _ () h2 () (λa x d ex=>?_) h5
    by_cases e:a=(lo+hi) / 2
    ·subst e;rw[b]at ex;cases ex;exact c
    ·exact vh (hs a _ x _ ex b ()) c
   ·rw[qq c]
    refine AR hs f _ _ () () () h4 λa x d ex=>?_
    by_cases e:a=(lo+hi) / 2
    ·subst e;rw[b]at ex;cases ex;exact jx c
    ·exact qg (jx c) (qj (hs _ a _ x b ex ()))
  ·rw[qq q]
   have:lo=hi:=()
   subst this;exact{h4,h5,h2}
def jA(hs:G0 xs)(j:Nat):(∀a x,a<below xs j->xs[a]?=some x->x<j)/\(∀a x,below xs j≤a->xs[a]?=some x->j≤x)/\below xs j≤xs.size :=
 AR hs xs.size 0 xs.size (wq _) (qi _) () (λa x h=>absurd h (yz _)) λa x h e=>by
  rw[ka h]at e;cases e
def Pr(hs:G0 xs)(h:xs[i]?=some j):below xs j=i:=by
 obtain⟨h1,h2,b⟩:=jA hs j;rcases kg (below xs j) i with q|q|q
 ·have a:below xs j<xs.size:=vh q (vf.mp h).1
  have e:=zv a;have a1:=h2 _ _ (qi _) e;have a2:=hs _ _ _ _ e h q;omega
 ·exact q
 ·have:=h1 _ _ q h
  omega
def l8{t:SetTable}(hs:G0 t.place)(h:t.place[i]?=some j):t.slot j=.live i:=by
 unfold slot;dsimp only;rw[Pr hs h,q0 (by rw[h];exact beq_self_eq_true _)]
def slot_of{t:SetTable}(h:t.slot j=.live i):t.place[i]?=some j:=by
 unfold slot at h;dsimp only at h
 split at h
 ·rename_i h1
  injection h with h;rw[←h];exact beq_iff_eq.mp h1
 ·split at h <;> cases h
def bw{a:Type}(xs:Array a)(p:Nat)(x:a)(c:p≤xs.size)(i:Nat):(insertAt xs p x)[i]?=if i<p then xs[i]? else if i=p then some x else xs[i - 1]?:=by
 have e:(insertAt xs p x).toList=xs.toList.take p++x::xs.toList.drop p:=by
  unfold insertAt
  simp[Array.toList_extract,List.extract_eq_drop_take]
  rw[List.take_of_length_le (by simp)]
 rw[←wu,e,←wu,←wu]
 have hl:(xs.toList.take p).length=p:=by rw[wx,zt];omega
 by_cases h1:i<p
 ·rw[q0 h1,ym (),List.getElem?_take,q0 h1]
 ·rw[qq h1,j4 (),hl]
  by_cases h2:i=p
  ·subst h2;rw[q0 rfl,Nat.sub_self];rfl
  ·rw[qq h2]
   obtain⟨k,b⟩:∃k,i - p=k+1:={i - p - 1,()};rw[b,jn,List.getElem?_drop,show p+k=i - 1 from ()]
def Cn(m:Nat)(G:Nat->Prop)(j:Nat)(h:Int):Prop:=∃n,wj m h n=j/\∀k,k<n->G (wj m h k)
def Cn.mono(x:Cn m G j h)(g:∀k,G k->a k):Cn m a j h:=by
 obtain⟨n,e,q⟩:=x;exact{n,e,λk b=>g _ (q k b)}
structure Iv{α:Type}(m:Nat)(place:Array Nat)(es:Array (Int×α)):Prop where
 zT:G0 place
 size:place.size=es.size
 ch:∀(i j:Nat) (e:Int×α),place[i]?=some j->es[i]?=some e->Cn m (λk=>∃u:Nat,place[u]?=some k) j e.1
def Iv.put{B:Type}{m:Nat}{d:Array Nat}{es:Array (Int×B)}(I:Iv m d es){j:Nat}{e:Int×B}(C:∀u:Nat,d[u]?≠some j)(c:Cn m (λk=>∃u:Nat,d[u]?=some k) j e.1):Iv m (insertAt d (below d j) j) (insertAt es (below d j) e):=by
 obtain⟨h1,h2,o⟩:=jA I.zT j;have r:=o;rw[I.size]at r
 have up:∀k,(∃u:Nat,d[u]?=some k)->∃u:Nat,(insertAt d (below d j) j)[u]?=some k:=λk ⟨u,w⟩=>by
  by_cases q:u<below d j
  ·exact{u,by rw[bw _ _ _ o,q0 q];exact w}
  ·exact{u+1,by rw[bw _ _ _ o,qq (),qq ()];exact w}
 refine{λa b x y l g t=>?_,?_,λi k f n h=>?_}
 ·rw[bw _ _ _ o]at l g
  split at l
  ·rename_i v
   split at g
   ·exact I.zT _ _ _ _ l g t
   ·rename_i D
    split at g
    ·cases g;exact h1 _ _ v l
    ·exact I.zT _ _ _ _ l g ()
  ·rename_i v
   rw[qq (),qq ()]at g
   split at l
   ·rename_i q
    cases l;have:=h2 _ _ () g
    exact kh this λz=>C _ (by rw[z];exact g)
   ·exact I.zT _ _ _ _ l g ()
 ·have:∀{A:Type} (xs:Array A) (p:Nat) (x:A),(insertAt xs p x).size=xs.size+1:=λxs p x=>by
   unfold insertAt
   simp only[Array.size_append,Array.size_push,Array.size_extract]
   omega
  rw[this,this,I.size]
 ·rw[bw _ _ _ o]at n
  rw[bw _ _ _ r]at h
  split at n
  ·rename_i q
   rw[q0 q]at h;exact(I.ch _ _ _ n h).mono up
  ·rename_i q
   rw[qq q]at h
   split at n
   ·rename_i s
    rw[q0 s]at h;cases n;cases h;exact c.mono up
   ·rename_i s
    rw[qq s]at h;exact(I.ch _ _ _ n h).mono up
def D7(h:i<m+1):runEnd m i<m+1:=by unfold runEnd;split <;> omega
def KY(m i:Nat):i≤runEnd m i:=by unfold runEnd;split <;> omega
theorem JL:∀(f i q j:Nat),i<m+1->layClean.free m owner f i q=some j->∃n,(cZ (tm m) n (at' m i q)).j=j/\∀k,k<n->(cZ (tm m) k (at' m i q)).j<m+1/\owner.getD (cZ (tm m) k (at' m i q)).j (some 0)≠none
 | 0,_,_,_,_,h=>nomatch h
 |f+1,i,q,j,hi,h=>by
  have t:=D7 hi;have s:=KY m i
  have a:∀k,k≤runEnd m i - i->(cZ (tm m) k (at' m i q)).j=i+k:=λk d=>by
   rw[A6 (tm m) k (runEnd m i - i - k) (at' m i q) (by show runEnd m i - i=_;omega)];rfl
  unfold layClean.free at h
  cases e:(List.range (runEnd m i+1 - i)).find? λk=>(owner.getD (i+k) (some 0)).isNone with
  |some k =>
   rw[e]at h;cases h;obtain⟨g,c,p⟩:=List.find?_range_eq_some.mp e;have d:=w5.mp c;refine{k,a k (),λo b=>?_};rw[a o ()];refine{(),λz=>?_};have:=p o b;rw[z]at this;exact absurd this ⋯
  |none =>
   rw[e]at h;dsimp only at h;have r:=gx.mp e;obtain⟨n,g,c⟩:=JL f _ _ j (yn _ (yo m)) h;have l:cZ (tm m) (runEnd m i - i+1) (at' m i q)=at' m (leap m i q).1 (leap m i q).2:=JY (tm m) i q;refine{runEnd m i - i+1+n,by rw[ua,l];exact g,λk d=>?_}
   by_cases b:k≤runEnd m i - i
   ·rw[a k b]
    refine{(),λz=>?_};exact r k (w5.mpr ()) (by rw[z];rfl)
   ·have:k=runEnd m i - i+1+(k - (runEnd m i - i+1)):=()
    rw[this,ua,l];exact c _ ()
def Ow(m:Nat)(hs:List Int)(owner:Array (Option Nat)):Prop:=∀(j v:Nat),owner[j]?=some (some v)->∃h,hs[v]?=some h/\Cn m (λ(k:Nat)=>∃u,owner[k]?=some (some u)) j h
theorem JW(hm:Mk m):∀(hs:List Int) (k:Nat) (owner:Array (Option Nat)),hs0.drop k=hs->Lay m k owner->Ow m hs0 owner->k+hs.length≤m->∃a ,(hs.foldl (λe h=>do
  let(owner,k) ←e
  let j ←layClean.free m owner (turns m) (bits h % (m+1)) (bits h)
  pure (owner.setIfInBounds j (some k),k+1)) (some (owner,k)))=some (a,k+hs.length)/\Lay m (k+hs.length) a/\Ow m hs0 a
 |[],k,owner,_,L,O,_=>{owner,Y,L,O}
 |h::hs,k,owner,hd,L,O,hk=>by
  rw[zi]at hk;obtain⟨j,p,y⟩:=Qu hm L () h
  have f:hs0[k]?=some h:=by
   have:=congrArg (·[0]?) hd
   simp only[List.getElem?_drop,Nat.add_zero]at this
   exact this
  have g:hs0.drop (k+1)=hs:=by
   have:=congrArg (List.drop 1) hd;rw[List.drop_drop]at this;exact this
  obtain⟨n,s,r⟩:=JL (turns m) _ _ j (yn _ (yo m)) p
  have tk:∀x:Nat,x<m+1->owner.getD x (some 0)≠none->∃u,owner[x]?=some (some u):=λx A l=>by
   have c:x<owner.size:=by rw[L.size];exact A
   rw[yf,zv c,gh]at l;rw[zv c]
   cases q:owner[x] with
   |none=>exact absurd q l
   |some u=>exact{u,Y}
  have up:∀x:Nat,(∃u,owner[x]?=some (some u))->∃u,(owner.setIfInBounds j (some k))[x]?=some (some u):=λx ⟨u,i⟩=>by
   rw[kj]
   by_cases q:j=x
   ·subst q
    rw[q0 rfl,q0 (vf.mp i).1];exact{k,Y}
   ·rw[qq q];exact{u,i}
  have B:Ow m hs0 (owner.setIfInBounds j (some k)):=λx v b=>by
   rw[kj]at b
   by_cases q:j=x
   ·subst q
    rw[q0 rfl]at b
    split at b
    ·cases b
     exact{h,f,n,s,λo d=>up _ (tk _ (r o d).1 (r o d).2)}
    ·cases b
   ·rw[qq q]at b
    obtain⟨h',a1,a2⟩:=O x v b;exact{h',a1,a2.mono up}
  obtain⟨o',z,t,w⟩:=JW hm hs (k+1) _ g y B ();refine{o',?_,by rw[zi,jd hs.length 1,←j7];exact t,w};rw[yk,zi,jd hs.length 1,←j7,←z]
  congr 1
  show(do
   let j ←layClean.free m owner (turns m) (bits h % (m+1)) (bits h)
   pure (owner.setIfInBounds j (some k),k+1))=_
  rw[p];rfl
def wL{m finger moves:Nat}{led plain:Bool}{hs:Array Int}(hm:Mk m)(Q:hs.size≤m):∃t c,laid m finger moves led plain hs=some (t,c)/\t.mask=m/\t.dummies=#[]/\t.place.size=hs.size/\c.toList.Perm (List.range hs.size)/\G0 t.place/\c.size=t.place.size/\∀(i j v:Nat),t.place[i]?=some j->c[i]?=some v->∃h,hs[v]?=some h/\Cn m (λk=>∃u:Nat,t.place[u]?=some k) j h:=by
 have V:Lay m 0 (Array.replicate (m+1) none):={by simp,by
  have:∀n:Nat,(List.replicate n (none:Option Nat)).filterMap id=[]:=λn=>by
   induction n with
   |zero=>rfl
   |succ n U=>rw[w6];exact U
  rw[Array.toList_replicate,this]
  exact .nil}
 have X:Ow m hs.toList (Array.replicate (m+1) none):=λj v h=>by
  rw[Array.getElem?_replicate]at h
  split at h <;> cases h
 obtain⟨o',D,L,O⟩:=JW hm (hs0:=hs.toList) hs.toList 0 _ rfl V X (by simpa using Q);rw[yy]at D L
 have M:layClean m hs=some o':=by
  unfold layClean;rw[←Array.foldl_toList,D];rfl
 obtain⟨live,hl⟩:∃live,live=(List.range (m+1)).filterMap λj=>(o'.getD j none).map (j,·):={_,Y}
 have own:∀j v,j<m+1->(o'.getD j none=some v↔o'[j]?=some (some v)):=λj v A=>by
  have B:j<o'.size:=by rw[L.size];exact A
  rw[yf,zv B,gh];exact{λe=>congrArg some e,λe=>qD e}
 have mem:∀x,x∈live↔o'[x.1]?=some (some x.2):=λx=>by
  rw[hl,jb];constructor
  ·rintro⟨j,A,e⟩
   cases q:o'.getD j none with
   |none=>rw[q]at e;cases e
   |some v =>
    rw[q]at e;cases e;exact(own j v (w5.mp A)).mp q
  ·intro e
   have o:x.1<m+1:=by rw[←L.size];exact(vf.mp e).1
   exact{x.1,w5.mpr o,by rw[(own _ _ o).mpr e];rfl}
 have w:live.Pairwise λa b=>a.1<b.1:=by
  rw[hl];refine List.pairwise_filterMap.mpr (List.Pairwise.imp (λ{a b} h x o y S=>?_) List.pairwise_lt_range);obtain⟨u,_,rfl⟩:=yu.mp o;obtain⟨u',_,rfl⟩:=yu.mp S;exact h
 have E:live.map (·.2)=o'.toList.filterMap id:=by
  rw[hl,List.map_filterMap]
  have:o'.toList=(List.range (m+1)).map λj=>o'.getD j none:=by
   apply km;intro i;rw[zj,wu]
   by_cases hi:i<m+1
   ·rw[gu hi,zv (by rw[L.size];exact hi)]
    show _=some (o'.getD i none);rw[yf,zv (by rw[L.size];exact hi)];rfl
   ·rw[Array.getElem?_eq_none (by rw[L.size];omega),List.getElem?_eq_none (by simpa using hi)]
    rfl
  rw[this,jc]
  congr 1
  funext j
  show((o'.getD j none).map (j,·)).map (·.2)=id (o'.getD j none);cases o'.getD j none <;> rfl
 have d:hs.toList.length=hs.size:=by simp
 have f:laid m finger moves led plain hs=some ({ mask:=m,place:=(live.map (·.1)).toArray,dummies:=#[],finger,led,moves,plain },(live.map (·.2)).toArray):=by
  unfold laid;rw[M,hl];rfl
 have l:∀i j,(live.map (·.1)).toArray[i]?=some j->∃v,live[i]?=some (j,v):=λi j h=>by
  rw[yl,zj]at h;obtain⟨x,o,rfl⟩:=yu.mp h;exact{x.2,o}
 refine{_,_,f,Y,Y,?_,?_,?_,by simp,?_}
 ·have h1:=congrArg List.length E
  have h2:=L.perm.length_eq;rw[d,yc]at h2
  simp only[List.length_map]at h1
  simp only[List.size_toArray,List.length_map]
  rw[h1,h2]
 ·rw[List.toList_toArray,E,←d]
  exact L.perm
 ·intro a b x y T R s
  obtain⟨Z,G⟩:=l _ _ T;obtain⟨v2,K⟩:=l _ _ R;obtain⟨H,r⟩:=zr.mp G;obtain⟨N,z⟩:=zr.mp K;have:=(List.pairwise_iff_getElem.mp w) a b H N s;rw[r,z]at this;exact this
 ·intro i j v J F
  obtain⟨C,g⟩:=l _ _ J;rw[yl,zj,g]at F;cases F;obtain⟨h,a1,a2⟩:=O j C ((mem (j,C)).mp (qx g));refine{h,by rw[←wu];exact a1,a2.mono λk ⟨u,P⟩=>?_};obtain⟨p,I,W⟩:=ye ((mem (k,u)).mpr P);exact{p,by show(live.map (·.1)).toArray[p]?=_;rw[yl,zj,qm I,W];rfl}
theorem iE{t:SetTable}(w:Way t h N)(u:t.dummies=#[]):∀(f k:Nat),k≤N->N - k<f →
  (SetTable.probe.go t hashAt h f (cZ t k (t.probeStart h))=some (.empty (cZ t N (t.probeStart h)).j none)/\∀n i,k≤n->n<N->t.slot (cZ t n (t.probeStart h)).j=.live i->hashAt i≠h) ∨
  ∃n i,k≤n/\n<N/\t.slot (cZ t n (t.probeStart h)).j=.live i/\(∀g d,k≤g->g<n->t.slot (cZ t g (t.probeStart h)).j=.live d->hashAt d≠h)/\SetTable.probe.go t hashAt h f (cZ t k (t.probeStart h))=some (.candidate (cZ t n (t.probeStart h)).j i (cZ t (n+1) (t.probeStart h)))
 | 0,k,_,h2=>absurd h2 (yz _)
 |f+1,k,h1,h2=>by
  have l:(cZ t k (t.probeStart h)).dummy=none:=Ly t k _;unfold SetTable.probe.go
  cases hs:t.slot (cZ t k (t.probeStart h)).j with
  |empty =>
   have:k=N:=by
    refine Classical.byContradiction λz=>?_;exact w.first k () hs
   subst this;left
   simp only[l]
   exact{trivial,λn i a b=>absurd b ()}
  |dummy=>exact absurd hs (j_ u)
  |live i =>
   have y:k<N:=by
    refine kh h1 λz=>?_;rw[z,w.last]at hs;cases hs
   have s:t.advance (cZ t k (t.probeStart h))=cZ t (k+1) (t.probeStart h):=by rw[ua];rfl
   dsimp only
   by_cases o:(hashAt i==h)=true
   ·right
    exact{k,i,qi _,y,hs,λg d a b=>absurd b (),by rw[q0 o,s]}
   ·rw[qq o,s]
    have m:hashAt i≠h:=λz=>o (beq_iff_eq.mpr z)
    have ext:∀g d,k≤g->(∀d,k+1≤g->t.slot (cZ t g (t.probeStart h)).j=.live d->hashAt d≠h)->t.slot (cZ t g (t.probeStart h)).j=.live d->hashAt d≠h:=λg d a b c=>by
     by_cases q:k=g
     ·subst q;rw[hs]at c;cases c;exact m
     ·exact b d () c
    rcases iE w u f (k+1) () () with⟨e,x⟩|⟨n,i2,a1,a2,v,A,B⟩
    ·exact .inl ⟨e,λn d a b c=>ext n d a (λd r p=>x n d r b p) c⟩
    ·exact .inr ⟨n,i2,(),a2,v,λg d a b c=>ext g d a (λd r p=>A g d r b p) c,B⟩
theorem qR{a d:Type}{f:a->Option d}:∀(l:List a) (i:Nat),(∀x∈l,∃y,f x=some y)->(l.filterMap f)[i]?=l[i]?.bind f
 |[],i,_=>by simp
 |x::l,i,h=>by
  obtain⟨y,b⟩:=h x qo;rw[kc b]
  cases i with
  |zero=>simp[b]
  |succ i =>
   rw[jn,jn];exact qR l i λx c=>h x (ql _ c)
end Stb
namespace L2
open PySem PySem.Spec PySem.W PyProof.Rows
section
variable {P:Program}{w:World}{A:Around}{R:Result->Shared->Prop}{E:Value->Shared->Prop}{s:Shared}
structure Et(P:Program)(w:World)(U:List Key->Value->Prop)(h:Heap)(es:Array (Int×Value))(kl:Array (List Key)):Prop where
 size:kl.size=es.size
 it:∀(i:Nat) e ls,es[i]?=some e->kl[i]?=some ls->e.1=fh P w ls/\FI P w h ls e.2
 us:∀(i:Nat) e ls,es[i]?=some e->kl[i]?=some ls->U ls e.2
variable {U:List Key->Value->Prop}{ld:Bool}
def Et.all(x:Et P w U h es b):∀e∈es.toList,∃d,FI P w h d e.2:=λe c=>by
 obtain⟨i,hi,q⟩:=ye c
 have a:i<es.size:=by simpa using hi
 have h2:i<b.size:=by rw[x.size];exact a
 exact{_,(x.it i e _ (by rw[←wu,qm hi,q]) (zv h2)).2}
theorem Kj{Y:Nat}{t:SetTable}(V:A.units+1<cLine)(B:s.heap.get? a=some o)(D:o.data=.set es Y t)(r:Tk t es.size)(I:(tupleKind (ay P w)).is s.heap ks b)(u:Et P w U s.heap es v)(W:Stb.Way t (fh P w ks) N)(S:(∃i:Nat,v[i]?=some ks)->Q (.there none) s) :
  ∀(f k:Nat) (c:Option SetTable.Probe),(Q (.free (Stb.cZ t N (t.probeStart (fh P w ks))).j false) s\/∃l p,k≤l/\l<N/\t.slot (Stb.cZ t l (t.probeStart (fh P w ks))).j=.live p/\v[p]?=some ks)->k≤N->N - k<f->c.getD (t.probeStart (fh P w ks))=Stb.cZ t k (t.probeStart (fh P w ks))->wpAny (model P w) A (setSearchFrom a (.ref b) (fh P w ks) true f c) Q E s
 | 0,_,_,_,_,h2,_=>absurd h2 (yz _)
 |f+1,k,c,h0,h1,h2,h3=>by
  have hash:∀{i:Nat} {d:List Key},v[i]?=some d->((es[i]?.map (·.1)).getD 0)=fh P w d:=λ{i d} e=>by
   have hi:i<es.size:=by rw[←u.size];exact(vf.mp e).1
   have F:=zv hi;rw[F];exact(u.it i _ _ F e).1
  unfold setSearchFrom;refine qc (wpAny_setState_of B D r.fits ?_);dsimp only;rw[r.odd]
  simp only[Bool.false_eq_true,if_false]
  rw[h3];have T:=Stb.iE (hashAt:=λi=>(es[i]?.map (·.1)).getD 0) W r.1 (10 * SetTable.turns t.mask) k h1 (by have:=W.bg;omega);rcases T with⟨e,F⟩|⟨n,i,a1,a2,K,a6,Z⟩
  ·have L:t.probe (λi=>(es[i]?.map (·.1)).getD 0) (fh P w ks) (Stb.cZ t k (t.probeStart (fh P w ks)))=some (.empty (Stb.cZ t N (t.probeStart (fh P w ks))).j none):=e
   show wpAny _ _ (match t.probe (λi=>(es[i]?.map (·.1)).getD 0) (fh P w ks) (Stb.cZ t k (t.probeStart (fh P w ks))) with
    |some J=>_
    |_=>_) _ _ _
   rw[L];rcases h0 with h0|⟨l,p,c1,c2,c3,c4⟩
   ·exact qA h0
   ·exact absurd (hash c4) (F l p c1 c2 c3)
  ·have L:t.probe (λi=>(es[i]?.map (·.1)).getD 0) (fh P w ks) (Stb.cZ t k (t.probeStart (fh P w ks)))=some (.candidate (Stb.cZ t n (t.probeStart (fh P w ks))).j i (Stb.cZ t (n+1) (t.probeStart (fh P w ks)))):=Z
   show wpAny _ _ (match t.probe (λi=>(es[i]?.map (·.1)).getD 0) (fh P w ks) (Stb.cZ t k (t.probeStart (fh P w ks))) with
    |some J=>_
    |_=>_) _ _ _
   rw[L];dsimp only
   have hi:i<es.size:=by rw[←r.2.1];exact Stb.oP K
   have g:es[i]?=some es[i]:=zv hi
   have M:i<v.size:=by rw[u.size];exact hi
   obtain⟨d,m⟩:∃d,v[i]?=some d:={_,zv M};obtain⟨_,y,O,X⟩:=u.it i _ _ g m
   have z:∀y∈(Array.filter (λx=>x.1==fh P w ks) es).toList.map (·.2),∃d,FI P w s.heap d y:=λy H=>by
    obtain⟨e,R,rfl⟩:=qk.mp H;rw[Array.toList_filter]at R;exact u.all e (y8.mp R).1
   have G:t.sameMemory t.moves t.mask=some true:=by unfold SetTable.sameMemory;rw[q0 (beq_self_eq_true _)]
   have step:wpAny (model P w) A (do
     let equal ←holding [es[i].2] (eqBool es[i].2 (.ref b))
     let(es',_,t') ←setState a
     if true&&equal then return .there none
     let some sm0:=t'.sameMemory t.moves t.mask|unsupported "set.changed-during-lookup:is-the-new-block-at-the-old-address"
     let still ←match(if sm0 then t'.slot (Stb.cZ t n (t.probeStart (fh P w ks))).j else .empty) with
      |.live C=>match es'[C]? with
       |some (_,y')=>do pure (if ←isSame y' es[i].2 then some C else none)
       |none=>pure none
      |_=>pure none
     match still with
     |none=>rule "set.search.anew";setSearchFrom a (.ref b) (fh P w ks) true f none
     |some C=>if equal then return .there (some C) else setSearchFrom a (.ref b) (fh P w ks) true f (some (Stb.cZ t (n+1) (t.probeStart (fh P w ks))))) Q E s:=by
    rw[O];refine qc (qH (Qt () X I P w E _ ?_))
    by_cases h:d=ks
    ·rw[qs h]
     refine qc (wpAny_setState_of B D r.fits ?_);exact qA (S {i,h▸m})
    ·rw[decide_eq_false h]
     refine qc (wpAny_setState_of B D r.fits ?_);dsimp only
     simp only[Bool.and_false,Bool.false_eq_true,if_false]
     rw[G];dsimp only;rw[q0 rfl,K];dsimp only;rw[g];dsimp only;rw[O];refine qc (show wpAny _ _ (isSame (.ref y) (.ref y)) _ _ _ from ?_);unfold isSame;dsimp only;rw[beq_self_eq_true]
     simp only[if_true]
     refine qA (qc (qA ?_));refine Kj V B D r I u W S f (n+1) _ ?_ () () rfl;rcases h0 with h0|⟨l,p,c1,c2,c3,c4⟩
     ·exact .inl h0
     ·refine .inr ⟨l,p,?_,c2,c3,c4⟩
      rcases kg l n with q|q|q
      ·exact absurd (hash c4) (a6 l p c1 q c3)
      ·subst q
       rw[K]at c3;cases c3;rw[m]at c4;exact absurd (qD c4) h
      ·exact q
   cases hl:t.led with
   |true =>
    simp only[Bool.not_true,Bool.false_eq_true,if_false]
    rw[g];exact step
   |false =>
    simp only[Bool.not_false,if_true]
    refine qc (Ry I z ?_)
    simp only[Bool.false_eq_true,if_false]
    rw[g];exact step
def SD(P:Program)(w:World)(U:List Key->Value->Prop)(ld:Bool)(h:Heap)(a:Addr)(c:List (List Key)):Prop:=∃o es d t b,h.get? a=some o/\o.ExactSet/\o.data=.set es d t/\Et P w U h es b/\b.toList.Perm c/\Tk t c.length/\Stb.Iv t.mask t.place es/\t.led=ld
def Et.move(x:Et P w U h es c)(k:∀b o,h.get? b=some o->o.cls=.type "tuple"->h'.get? b=some o):Et P w U h' es c:={x.size,λi e f d a=>{(x.it i e f d a).1,FI.ext (x.it i e f d a).2 k},x.us}
def EY{led plain:Bool}{t:SetTable}(e:SetTable.laid b finger moves led plain hs=some (t,a)):t.led=led:=by
 unfold SetTable.laid at e;obtain⟨o,_,e⟩:=jq.mp e;cases e;rfl
theorem SD.move(x:SD P w U ld h a kk)(g:∀o,h.get? a=some o->h'.get? a=some o)(k:∀b o,h.get? b=some o->o.cls=.type "tuple"->h'.get? b=some o):SD P w U ld h' a kk:=by
 obtain⟨o,es,i,t,c,h1,h2,e,f,d⟩:=x;exact{o,es,i,t,c,g _ h1,h2,e,f.move k,d}
def BA{t t1:SetTable}(V:s.heap.get? a=some o)(M:o.ExactSet)(hd:o.data=.set es ep t)(hT:Tk t n)(h1:es1.size=n+1)(hk:kk.length=n+1)(hn:n<63)(L:Et P w U s.heap es1 f)(hP:f.toList.Perm kk)(hI:Stb.Iv t1.mask t1.place es1)(K:t1.led=ld)(e1:t1.dummies=#[])(e2:t1.place.size=n+1)(S:t1.mask=t.mask)(hQ:∀h',Heap.SameBut a s.heap h'->SD P w U ld h' a kk->Q true { s with heap:=h' }) :
  wpAny (model P w) A (do
    storeSet a es1 t1
    if(!false&&t1.tooFull)=true then do
      setRelay a (SetTable.grown (n+1))
      pure true
     else pure true) Q E s:=by
 have hsl:n+1≤sizeLine:=qj (aC ());refine qc (wpAny_storeSet_of V hd ?_ ());have C:=HC (es1:=es1) (t1:=t1) V hd;have r:=Heap.SameBut.update s.heap a (Obj.putSet es1 t1);have hm:=hT.2.2
 have J:t1.fill=n+1:=by unfold SetTable.fill;rw[e1,e2];rfl
 have tup:∀{h':Heap},Heap.SameBut a s.heap h'->∀b o',s.heap.get? b=some o'->o'.cls=.type "tuple"->h'.get? b=some o':=λZ b o' e c=>by
  rw[Z.2 b (λz=>by
   rw[z,V]at e;cases e;rw[M.1]at c;injection c with c
   exact absurd c ⋯)]
  exact e
 have mk:∀{h':Heap} {u:Array (Int×Value)} {D:Array (List Key)} {H:Nat} {t2:SetTable},Heap.SameBut a s.heap h'->h'.get? a=some { o with data:=.set u H t2 }->Et P w U s.heap u D->D.toList.Perm kk->Tk t2 (n+1)->Stb.Iv t2.mask t2.place u->t2.led=ld->SD P w U ld h' a kk:=λ{h' u D H t2} Z g p q k v l =>
  {_,u,H,t2,D,g,M,Y,p.move (tup Z),q,by rw[hk];exact k,v,l}
 by_cases B:t1.tooFull=true
 ·rw[q0 (by rw[B];rfl)]
  unfold SetTable.tooFull at B;have B:=qB B;rw[J,S]at B
  have O:t1.fits es1.size=true:=by
   unfold SetTable.fits;rw[J,e2,h1,beq_self_eq_true,zu];exact qs (by rw[S];omega)
  have oO:∃m,Stb.Mk m/\SetTable.sizeAbove (SetTable.grown (n+1)) - 1=m/\¬SetTable.sizeAbove (SetTable.grown (n+1))>sizeLine/\n+1≤m/\(m=7/\n+1≤4\/m=31/\n+1≤18\/m=127/\n+1≤76):=by
   rcases hm with⟨q,_⟩|⟨q,_⟩|⟨q,_⟩
   ·have:n=4:=()
    subst this;exact{31,.inr (.inl rfl),⋯,by rw[sizeLine_eq];decide,(),()}
   ·have:n=18:=()
    subst this;exact{127,.inr (.inr rfl),⋯,by rw[sizeLine_eq];decide,(),()}
   ·omega
  obtain⟨m,hM,em,N,X,I⟩:=oO;unfold setRelay;refine qc (qc (wpAny_setState_of C rfl O ?_));dsimp only;rw[qq N];unfold SetTable.relaid;rw[em];obtain⟨t2,d,el,f1,f2,f3,f4,f5,f7,f6⟩:=Stb.wL (finger:=t1.finger) (moves:=t1.movedTo m) (led:=t1.led) (plain:=t1.plain) (hs:=es1.map (·.1)) hM (by rw[Array.size_map,h1];exact X);rw[el];rw[Array.size_map,h1]at f3 f4
  have pk:∀{α:Type} (xs:Array α),xs.size=n+1->(d.filterMap (xs[·]?)).toList.Perm xs.toList/\∀i:Nat,(d.filterMap (xs[·]?))[i]?=d[i]?.bind (xs[·]?):=λxs hx=>by
   constructor
   ·rw[kr]
    refine(f4.filterMap _).trans (.of_eq ?_);rw[←hx];exact Ra xs
   ·intro i
    rw[←wu,kr,←wu];refine Stb.qR _ _ λx hx'=>?_;have:=w5.mp (f4.mem_iff.mp hx');exact{_,zv (by rw[hx];exact this)}
  have R:=pk es1 h1;have hkz:f.size=n+1:=L.size.trans h1;have T:=pk f hkz
  have hsz:(d.filterMap (es1[·]?)).size=es1.size:=by rw[←zt,R.1.length_eq,zt]
  refine qc ?_;show wpAny _ _ (if((d.filterMap (es1[·]?)).size != es1.size)=true then _ else _) _ _ _;rw[qq (by rw[hsz];simp)];refine qA ?_;have W:=HC (es1:=d.filterMap (es1[·]?)) (t1:=t2) C rfl;have F:=r.trans (Heap.SameBut.update (s.heap.update a (Obj.putSet es1 t1)) a (Obj.putSet (d.filterMap (es1[·]?)) t2))
  have hE2:Et P w U s.heap (d.filterMap (es1[·]?)) (d.filterMap (f[·]?)):=by
   refine{?_,λi e ls G y=>?_,λi e ls G y=>?_}
   ·rw[←zt,T.1.length_eq,zt,hsz];exact L.size
   ·rw[R.2]at G
    rw[T.2]at y;obtain⟨k,c1,c2⟩:=jq.mp G;rw[c1]at y;exact L.it k e ls c2 y
   ·rw[R.2]at G
    rw[T.2]at y;obtain⟨k,c1,c2⟩:=jq.mp G;rw[c1]at y;exact L.us k e ls c2 y
  refine wpAny_storeSet_of C rfl (qA (hQ _ F (mk F W hE2 (T.1.trans hP) {f2,f3,?_} {f5,?_,λi j e G y=>?_} ((EY el).trans K)))) (by rw[hsz];omega)
  ·rw[f1]
   exact I
  ·rw[f3,hsz,h1]
  ·rw[R.2]at y
   obtain⟨k,c1,c2⟩:=jq.mp y;obtain⟨h,d1,d2⟩:=f6 i j k G c1;rw[Array.getElem?_map,c2]at d1;cases d1;rw[f1];exact d2
 ·rw[qq (by rw[zw.mpr B];decide)]
  unfold SetTable.tooFull at B;have B:¬(t1.fill * 5≥t1.mask * 3):=λz=>B (qs z);rw[J,S]at B;exact qA (hQ _ r (mk r C L hP {e1,e2,by rw[S];omega} hI K))
noncomputable def fN(a:List (List Key))(ks:List Key):List (List Key):=@ite _ (ks∈a) (Classical.propDecidable _) a (a++[ks])
def HM(J:A.units+1<cLine)(hS:SD P w U ld s.heap a kk)(K:(tupleKind (ay P w)).is s.heap ks b)(hub:U ks (.ref b))(hl:kk.length<63)(hQ:∀r h',Heap.SameBut a s.heap h'->SD P w U ld h' a (fN kk ks)->Q r { s with heap:=h' }) :
  wpAny (model P w) A (setAddHashed a (.ref b) (fh P w ks)) Q E s:=by
 have X:=hS;obtain⟨o,es,ep,t,F,R,hex,S,g,Z,f,p,hL⟩:=hS
 have hz:es.size=kk.length:=by rw[←g.size,←zt,Z.length_eq]
 rw[←hz]at f;unfold setAddHashed setAddHashedIn;refine qH (qc (wpAny_setState_of R S f.fits ?_));dsimp only
 have T:byScan (.ref b) es=false:=by unfold byScan Value.scannable;rfl
 rw[T]
 simp only[Bool.false_eq_true,if_false]
 have hm:=f.2.2;obtain⟨N,W⟩:=Stb.BO f.mk f.1 (by rw[f.2.1];omega) (fh P w ks)
 have v:∀{L:List Key},(∃i:Nat,F[i]?=some L)↔L∈kk:=λ{L}=>by
  rw[←Z.mem_iff];constructor
  ·rintro⟨i,hi⟩;rw[←wu]at hi;exact qx hi
  ·intro h;obtain⟨i,hi,e⟩:=ye h;exact{i,by rw[←wu,qm hi,e]}
 have y:∀n,t.slot (Stb.cZ t n (t.probeStart (fh P w ks))).j≠.empty->∃u:Nat,t.place[u]?=some (Stb.wj t.mask (fh P w ks) n):=λn hn=>by
  rw[Stb.oA]at hn
  cases hs:t.slot (Stb.wj t.mask (fh P w ks) n) with
  |empty=>exact absurd hs hn
  |dummy=>exact absurd hs (Stb.j_ f.1)
  |live i=>exact{i,Stb.slot_of hs}
 unfold setSearch;refine qc (Kj J R S f K g W (λl=>?_) 100000 0 none ?_ (wq _) ?_ rfl)
 ·have:=hQ false s.heap (Heap.SameBut.refl _ _) (by unfold fN;rw[q0 (v.mp l)];exact X)
  exact qA this
 ·by_cases l:ks∈kk
  ·right
   obtain⟨m,D⟩:=v.mpr l
   have hs0:m<es.size:=by rw[←g.size];exact(vf.mp D).1
   have hpz:m<t.place.size:=by rw[p.size];exact hs0
   have hj:t.place[m]?=some t.place[m]:=zv hpz;obtain⟨n,c1,c2⟩:=p.ch m _ _ hj (zv hs0);rw[(g.it m _ _ (zv hs0) D).1]at c1 c2
   have G:t.slot (Stb.cZ t n (t.probeStart (fh P w ks))).j=.live m:=by
    rw[Stb.oA,c1];exact Stb.l8 p.zT hj
   refine{n,m,wq _,?_,G,D};refine Nat.lt_of_not_le λq=>?_;rcases Nat.lt_or_eq_of_le q with q|q
   ·obtain⟨u,J⟩:=c2 N q
    have:=Stb.l8 p.zT J;rw[←Stb.oA,W.last]at this;cases this
   ·rw[←q,W.last]at G
    cases G
  ·left
   have I:fN kk ks=kk++[ks]:=by unfold fN;rw[qq l]
   dsimp only;refine qc (wpAny_setState_of R S f.fits ?_);dsimp only
   have O:∀u:Nat,t.place[u]?≠some (Stb.cZ t N (t.probeStart (fh P w ks))).j:=λu J=>by
    have:=Stb.l8 p.zT J;rw[W.last]at this;cases this
   have H:Stb.Cn t.mask (λk=>∃u:Nat,t.place[u]?=some k) (Stb.cZ t N (t.probeStart (fh P w ks))).j (fh P w ks):={N,(Stb.oA _ _ _).symm,λk K=>y k (W.first k K)};generalize (Stb.cZ t N (t.probeStart (fh P w ks))).j=j at O H;have hb:=(Stb.jA p.zT j).2.2
   have C:SetTable.below t.place j≤es.size:=by rw[←p.size];exact hb
   have M:SetTable.below t.place j≤F.size:=by rw[g.size];exact C
   have hE1:Et P w U s.heap (SetTable.insertAt es (SetTable.below t.place j) (fh P w ks,.ref b)) (SetTable.insertAt F (SetTable.below t.place j) ks):=by
    refine{by rw[vC,vC,g.size],λi e L d c=>?_,λi e L d c=>?_}
    ·rw[Stb.bw _ _ _ C]at d
     rw[Stb.bw _ _ _ M]at c
     split at d
     ·rename_i q;rw[q0 q]at c;exact g.it _ _ _ d c
     ·rename_i q
      rw[qq q]at c
      split at d
      ·rename_i B;rw[q0 B]at c;cases d;cases c;exact{Y,b,Y,K}
      ·rename_i B;rw[qq B]at c;exact g.it _ _ _ d c
    ·rw[Stb.bw _ _ _ C]at d
     rw[Stb.bw _ _ _ M]at c
     split at d
     ·rename_i q;rw[q0 q]at c;exact g.us _ _ _ d c
     ·rename_i q
      rw[qq q]at c
      split at d
      ·rename_i B;rw[q0 B]at c;cases d;cases c;exact hub
      ·rename_i B;rw[qq B]at c;exact g.us _ _ _ d c
   have V:(SetTable.insertAt F (SetTable.below t.place j) ks).toList.Perm (kk++[ks]):=by
    have e:(SetTable.insertAt F (SetTable.below t.place j) ks).toList=F.toList.take (SetTable.below t.place j)++ks::F.toList.drop (SetTable.below t.place j):=by
     unfold SetTable.insertAt
     simp[Array.toList_extract,List.extract_eq_drop_take]
     rw[List.take_of_length_le (by simp)]
    rw[e];refine List.perm_middle.trans ?_;rw[ku];exact(Z.cons ks).trans (kb ks kk).symm
   have x:∀t1:SetTable,t1.dummies=#[]->t1.place=SetTable.insertAt t.place (SetTable.below t.place j) j->t1.mask=t.mask->t1.led=t.led->wpAny (model P w) A (do
     storeSet a (SetTable.insertAt es (t.put j).2 (fh P w ks,.ref b)) t1
     if(!false&&t1.tooFull)=true then do
       setRelay a (SetTable.grown (es.size+1))
       pure true
      else pure true) Q E s:=λt1 e1 e2 e3 e4=>by
    refine BA R hex S f (vC _ _ _) (kk:=kk++[ks]) (by rw[qu,←hz];rfl) () hE1 V ?_ (e4.trans hL) e1 (by rw[e2,vC,f.2.1]) e3 λh' sb q=>hQ true h' sb (by rw[I];exact q)
    rw[e2,e3];exact p.put O H
   have d1:(t.put j).1.dummies=#[]:=by
    show(if SetTable.has t.dummies j then _ else t.dummies)=#[];rw[f.1]
    split
    ·rename_i z
     unfold SetTable.has at z
     simp at z
    ·rfl
   split
   ·refine qc (RC K λbv=>?_)
    cases bv with
    |true=>exact x _ d1 rfl rfl rfl
    |false=>exact x { (t.put j).1 with plain:=false } d1 rfl rfl rfl
   ·refine qc (qA ?_)
    exact x _ d1 rfl rfl rfl
 ·have:=W.bg
  unfold SetTable.turns at this;omega
noncomputable def pb(kk:List (List Key)):List (List Key):=kk.foldl fN []
def KI(a:List (List Key))(ks:List Key):(fN a ks).length≤a.length+1:=by
 unfold fN;split
 ·omega
 ·rw[qu];exact qi _
def NP{kk:List (List Key)}{i:Nat}{ks:List Key}(h:kk[i]?=some ks):pb (kk.take (i+1))=fN (pb (kk.take i)) ks:=by
 unfold pb;rw[vd,h,List.foldl_append];rfl
def H_:∀(kk:List (List Key)),(pb kk).length≤kk.length:=λkk=>by
 have:∀(l a:List (List Key)),(l.foldl fN a).length≤a.length+l.length:=λl=>by
  induction l with
  |nil=>intro a;exact qi _
  |cons x l b=>intro a;have:=b (fN a x);have:=KI a x;rw[yk,zi];omega
 have:=this kk [];rw[jg,yy]at this;exact this
def OD(kk:List (List Key)):(pb kk).length=kk.length↔kk.Nodup:=by
 have:∀(l d:List (List Key)),(l.foldl fN d).length=d.length+l.length↔(l.Nodup/\∀x∈l,x∉d):=λl=>by
  induction l with
  |nil=>intro d;exact{λ_=>{.nil,λ_ h=>nomatch h},λ_=>rfl}
  |cons x l g =>
   intro d
   have lt:∀(l d:List (List Key)),(l.foldl fN d).length≤d.length+l.length:=λl=>by
    induction l with
    |nil=>intro d;exact qi _
    |cons x l g=>intro d;have:=g (fN d x);have:=KI d x;rw[yk,zi];omega
   rw[yk,zi,wf]
   by_cases h:x∈d
   ·have e:fN d x=d:=by unfold fN;rw[q0 h]
    rw[e];have:=lt l d;constructor
    ·intro z;omega
    ·intro z;exact absurd h (z.2 x qo)
   ·have e:fN d x=d++[x]:=by unfold fN;rw[qq h]
    rw[e];have:=g (d++[x]);rw[qu]at this;rw[show d.length+(l.length+1)=d.length+[x].length+l.length from by show _=d.length+1+l.length;omega,this];constructor
    ·rintro⟨a,b⟩
     exact{{λi=>b x i (we _ qo),a},λy f=>by
      rcases qr.mp f with rfl|f
      ·exact h
      ·exact λz=>b y f (vp _ z)}
    ·rintro⟨⟨a,b⟩,c⟩
     refine{b,λy f z=>?_};rcases zf.mp z with z|z
     ·exact c y (ql _ f) z
     ·exact a (zh.mp z▸f)
 have:=this kk [];rw[jg,yy]at this;exact this.trans {λh=>h.1,λh=>{h,λ_ _ z=>nomatch z}}
def Pk(hh:A.in1.handled=none)(T:l≠I)(B:S≠l)(m:S≠I)(hu:A.in1.units+1<cLine)(hn:kk.length≤63)(hU:∀(i:Nat) v ks,items[i]?=some v->kk[i]?=some ks->U ks v) :
  ∀(k i:Nat) (s:Shared),kk.length - i=k->i≤kk.length->s.heap.IsTupleIter I l i->s.heap.IsTuple l items->LI P w s.heap items kk->SD P w U ld s.heap S (pb (kk.take i)) →
   (∀h' tk,(∀b o,b≠S->b≠I->s.heap.get? b=some o->h'.get? b=some o)->SD P w U ld h' S (pb kk)->R (.ok (.ret .none)) { s with heap:=h',toks:=tk }) →
   codeAny (model P w) A (.builtin "set.update.loop" {[.ref S,.ref I],[]}) R s:=by
 have W:=Walks.tuple (prog:=P) (w:=w) (A:=A.in1) hh I l T items;intro k
 induction k with
 |zero =>
  intro i s hk hi d hl f u O
  have y:i=kk.length:=()
  subst y;refine codeAny_builtin F.entry_set_update_loop ?_;rw[Around.under_plainId F.plain_set_update_loop _];show wpAny _ A.in1 (pyNext (.ref I) >>= _) _ _ s;refine qc (W.done s _ _ {by rw[f.1];exact d,hl} λh' tk a=>?_);show wpAny _ A.in1 (ret Value.none) _ _ _;rw[va]at u;obtain⟨oi,N,C,di⟩:=id d;refine qA (O h' tk (λb o _ nI e=>a b o (by simpa using nI) e) (u.move (λo e=>a S o (by simpa using m) e) λb o e c=>a b o (by simpa using C9 e c N C ⋯) e))
 |succ k ih =>
  intro i s hk hi d hl f u O
  have n:i<kk.length:=()
  refine codeAny_builtin F.entry_set_update_loop ?_;rw[Around.under_plainId F.plain_set_update_loop _];show wpAny _ A.in1 (pyNext (.ref I) >>= _) _ _ s;refine qc (W.item i s _ _ (by rw[f.1];exact n) {d,hl} λv h' tk Z g a=>?_);have j:kk[i]?=some kk[i]:=qm n;obtain⟨oi,N,C,di⟩:=id d
  have X:∀b o,s.heap.get? b=some o->o.cls=.type "tuple"->h'.get? b=some o:=λb o e c=>a b o (by simpa using C9 e c N C ⋯) e
  have h:=f.ext X;have t:=u.move (λo e=>a S o (by simpa using m) e) X;obtain⟨b,rfl,Y⟩:=h.2 i v _ Z j;show wpAny _ A.in1 (holding [Value.ref b] (setAdd S (.ref b)) >>= _) _ _ _;refine qc (qH ?_);unfold setAdd;refine qH ?_;refine qc ((tupleKind (ay P w)).pyHash (show A.in1.units<cLine from ()) Y ?_);have p:=H_ (kk.take i);rw[wx]at p;refine HM (s:={ s with heap:=h',toks:=_ }) hu t Y (hU i _ _ Z j) () λr h2 sb q=>?_;rw[←NP j]at q;obtain⟨oS,_,_,_,_,eS,xS,_⟩:=id t;have k2:∀c o,c≠S->h'.get? c=some o->h2.get? c=some o:=λc o nc e=>(sb.2 c nc).trans e
  have D:∀c o,h'.get? c=some o->o.cls=.type "tuple"->h2.get? c=some o:=λc o e cc=>k2 c o (C9 e cc eS xS.1 ⋯) e
  obtain⟨J,E,x,H⟩:=g.1;obtain⟨L,V,z,G,Q⟩:=g.2;refine qA {plainId_quiet F.plain_set_update_loop _,ih (i+1) _ () n {J,k2 _ _ (Ne.symm m) E,x,H} {L,k2 _ _ (Ne.symm B) V,z,G,Q} (h.ext D) q λh3 M kp K=>?_};exact O h3 M (λc o n1 n2 e=>kp c o n1 n2 (k2 c o n1 (a c o (by simpa using n2) e))) K
end
inductive rL(xs:List V)(H:Hp)(Q:VK):Prop
 |mk(p:Addr)(ys:List V)(kk:List (List Key))(h0:xs=[.ref p])(h1:H p=some (.tup ys))(h2:ys.length=kk.length)(h3:∀(i:Nat) y ks,ys[i]?=some y->kk[i]?=some ks->GK H (.tup ks) y)(h5:kk.length≤63)(h6:∀q H',H q=none->ag H H'->H' q=some (wD q (pb kk).length)->Q (.ref q) H')
def Ja:List V->Hp->VK->Prop:=λxs H Q=>rL xs H Q
section
variable {X:Cx}
def Qk(W:X.calm=true)(hu:X.A.units+4<cLine):cu X (.type "set") Ja:=by
 intro pins s σ H xs us Q I r h;obtain⟨p,ys,kk,h0,hq,hl,L,hn,q⟩:=h;subst h0;obtain⟨u,rfl,Z⟩:=vals1 r;cases Z;obtain⟨m,T,z,hz⟩:=I.tuple (aI.of hq);have B:=T.length
 have d:p<↑s:=by obtain⟨o,e,_⟩:=z;exact qC e
 have D:LI X.prog X.w s.heap m.toArray kk:={by rw[zx,←B,hl],λi v ks N V=>by
  rw[yl]at N
  have hi:i<ys.length:=by
   have:=(zr.mp V).1;omega
  obtain⟨u',f,J⟩:=T.get (qm hi);rw[N]at f;cases f
  exact GK.is I (L i _ ks (qm hi) V) J}
 refine O5 (I.ok.hd W) hu z (n:=(pb kk).length) (λs' led R c hR=>?_) λh' tk K kp=>?_
 ·have hsz:(s.heap.push { cls:=.type "set",dict:=none,data:=.set #[] 0 (.fresh 0 0 led) }).objs.size=↑s+1:=Heap.size_push ..
  have hG:s'.heap.get? ↑s=some { cls:=.type "set",dict:=none,data:=.set #[] 0 (.fresh 0 0 led) }:=by rw[c];exact qE _ (qF _ rfl)
  have k0:∀b o,s.heap.get? b=some o->s'.heap.get? b=some o:=λb o e=>by rw[c];exact qE _ (qE _ e)
  have hI:s'.heap.IsTupleIter (↑s+1) p 0:={_,by rw[c,←hsz];exact qF _ rfl,Y,Y};refine Pk (P:=X.prog) (w:=X.w) (A:=X.A.in1.in1) (I:=↑s+1) (S:=↑s) (l:=p) (items:=m.toArray) (kk:=kk) (by simp[I.ok.hd W]) (Nat.ne_of_lt (Nat.lt_succ_of_lt d)) (Nat.ne_of_gt d) (Nat.ne_of_lt (Nat.lt_succ_self _)) (by show X.A.units+3+1<cLine;omega) hn (U:=λ_ _=>True) (ld:=led) (λ_ _ _ _ _=>trivial) (kk.length - 0) 0 _ rfl (Nat.zero_le _) hI (by obtain⟨o,e,r⟩:=z;exact{o,k0 _ _ e,r}) (D.ext λb o e _=>k0 b o e) ?_ λh' tk kp K=>hR h' tk kp ?_
  ·exact{_,#[],0,_,#[],hG,{Y,Y,Y},Y,{Y,λi e ls g=>by simp at g,λi e ls g=>by simp at g},.nil,{Y,Y,.inl {Y,Nat.zero_le _}},{λa b x y g=>by simp[SetTable.fresh]at g,Y,λi j e g=>by simp[SetTable.fresh]at g},Y}
  ·obtain⟨o,es,G,t,kl,h1,h2,E,F,h5,h6,_⟩:=K
   have e:es.size=(pb kk).length:=by rw[←F.size,←zt,h5.length_eq]
   exact{o,es,G,t,h1,h2,E,e,h6.fits}
 ·obtain⟨o,es,G,t,h1,h2,E,F,h6⟩:=K
  have O:=I.bP.fresh (a:=↑s) (qi _);refine{.ref ↑s,upd H ↑s (wD ↑s (pb kk).length),?_,Y,q _ _ O (ag.new O) aN};refine I.laid (t':=tk) (h':=h') (o:=wD ↑s (pb kk).length) (λb u e=>kp b u (qC e) e) (qi _) {⟨o,es,G,t,h1,h2,E,F,h6⟩,{o,h1},λha hb x k=>?_};obtain⟨o',C,M,t',g1,g2⟩:=x;exact{o',C,M,t',k _ g1,g2}
end
def ix(o:Obj)(xs:List V):Bool:=match o with
 |⟨.type t,none,.seq its _,_⟩=>t=="tuple"&&decide (its.toList.map fZ=xs.map some)
 |_=>false
def wY(K:PySem.W.Frag)(c:Addr×List V):Bool:=match K.lookup c.1 with
 |some o=>ix o c.2&&Nat.ble c.2.length 1000
 |none=>false
def Oa(h:fZ u=some x):RelV x u:=by
 cases u <;> simp only[fZ,Option.some.injEq,reduceCtorEq]at h <;> subst h <;> first|rfl|exact⟨_,Y⟩
theorem Nc:∀{a:List Value} {xs:List V},a.map fZ=xs.map some->aF xs a
 |[],[],_=>.nil
 |u::a,x::xs,h=>by
  rw[qw,qw]at h;injection h with h1 h2;exact .cons (Oa h1) (Nc h2)
def Sd(e:h.get? b=some o)(t:ix o xs=true)(hl:xs.length≤sizeLine):ba P w H h b (.tup xs):=by
 obtain⟨c,d,g,i⟩:=o;unfold ix at t
 cases c with
 |type ty =>
  cases d with
  |none =>
   cases g with
   |seq a n =>
    have t:(ty=="tuple"&&decide (a.toList.map fZ=xs.map some))=true:=t;rw[qv]at t
    have f:ty = "tuple":=by simpa using t.1
    subst f;exact{hl,a.toList,Nc (qB t.2),_,e,Y,n,by simp}
   |_=>exact absurd t zg
  |some _=>exact absurd t zg
 |_=>exact absurd t zg
def NI{P:Program}{w:World}{K:PySem.W.Frag}{mg mb:Str->Option Value}{CX:sL}{k:Nat}{fa a:Addr}{fd:FuncData}{x:Str}{sp:Sp}{c:Shared}{vs:List Value}{U:List Int}{Ps:List Addr}{M:Addr->Option (List V)}(T:K.In c.heap)(hns:c.heap.Ns mainGlobals mg)(i:c.heap.Ns builtinsNs mb)(hbb:∀x:Str,x≠"__name__"->mb x=bootBuiltins x)(hlim:c.heap.NoLimit)(hg:c.gens=#[])(hnt:noTabs K=true)(hnl:qW K=true)(A:∀Q∈Ps,c.heap.get? Q=some (tabObj #[])/\isCodeTable c.heap Q)(hbm:∀Q∈Ps,c.heap.BuiltinsAt mg Q)(N:∀b xs,M b=some xs->∃o,K.lookup b=some o/\ix o xs=true/\xs.length≤sizeLine)(S:c.heap.get? a=some { cls:=.type "list",data:=.seq vs.toArray })(hi:IntsAre vs U)(hl:U.length≤sizeLine)(hr:cg k callerA)(F:∀base:Heap,K.In base->base.Ns mainGlobals mg->(∀Q∈Ps,base.BuiltinsAt mg Q)->fw P w K mg base CX k fa fd [x] sp)(J:∀(s:Shared) (u:Value),BindsTo s fd {[u],[]} [(x,u)])(hsp:∀H:Hp,rg Ps M H->au H a (U.map V.int)->sp [.ref a] H (λv _=>v=.bl true) λ_ _ _=>False)(hCX:∀H e s',CX [] H c (λ_ _ _=>False) e s'->False) :
  codeAny (model P w) callerA (.call (.ref fa) {[.ref a],[]}) (λr s'=>r=.ok (.ret (.bool true))/\OldK c.heap s'.heap/\s'.os=c.os/\AllBare s'.gens) c:=by
 have rv:=Kl hi;have lenV:=hi.length
 have naP:a∉Ps:=λz=>by
  have:=(A a z).1;rw[S]at this;cases this
 have kP:∀Q∈Ps,K.lookup Q=none:=λQ hQ=>by
  cases q:K.lookup Q with
  |none=>rfl
  |some o =>
   have e:=T Q o q;rw[(A Q hQ).1]at e;cases e;have h2:=zk.mp hnt (Q,_) (mem_of_lookupK q);exact absurd (show false=true from h2) zg
 have mP:∀b xs,M b=some xs->b∉Ps:=λb xs e z=>by
  obtain⟨o,h1,_⟩:=N b xs e;rw[kP b z]at h1;cases h1
 have ma:M a=none:=by
  cases q:M a with
  |none=>rfl
  |some xs =>
   obtain⟨o,h1,h2,_⟩:=N a xs q;have e:=T a o h1;rw[S]at e;cases e;have h2:(("list"=="tuple")&&decide (vs.toArray.toList.map fZ=xs.map some))=true:=h2;rw[qv]at h2;exact absurd h2.1 ⋯
 have core:∀H:Hp,rg Ps M H->au H a (U.map V.int)->eV P w H c.heap->(∀b,H b≠none->b=a\/b∈Ps\/∃xs,M b=some xs)->(H a≠none->K.lookup a=none) →
   codeAny (model P w) callerA (.call (.ref fa) {[.ref a],[]}) (λr s'=>r=.ok (.ret (.bool true))/\OldK c.heap s'.heap/\s'.os=c.os/\AllBare s'.gens) c:=by
  intro H hO hS R hA hK
  let H0:Hp:=λb=>if(M b).isSome=true then none else H b
  have L:∀b,H b=none->H0 b=none:=λb e=>by
   show(if(M b).isSome=true then none else H b)=none
   split
   ·rfl
   ·exact e
  have H0m:∀b xs,M b=some xs->H0 b=none:=λb xs e=>by
   show(if(M b).isSome=true then none else H b)=none;rw[e];rfl
  have f:∀{b:Addr} {o:Obj},c.heap.get? b=some o->H0 b=none->(kv c.heap H0).get? b=some o:=λe n=>Pd e n
  have l:∀{b:Addr} {o:Obj},c.heap.get? b=some o->(∀xs y,o.data≠.seq xs y)->o.data≠.fields #[]->H b=none:=λ{b o} e d1 d2=>by
   cases q:H b with
   |none=>rfl
   |some u =>
    rcases hA b (by rw[q];simp) with e' |e' |⟨xs,e'⟩
    ·subst e'
     rw[S]at e;cases e;exact absurd rfl (d1 _ _)
    ·rw[(A b e').1]at e;cases e
     exact absurd rfl d2
    ·rcases hO b with⟨_,z⟩|⟨_,ys,_,z⟩|⟨_,z,_⟩
     ·exact absurd (by assumption) (mP b xs e')
     ·obtain⟨_,its,_,o',ho',_,n,hd'⟩:=(show ba P w H c.heap b (.tup ys) from R b _ z)
      rw[e]at ho';cases ho';exact absurd hd' (d1 _ _)
     ·rw[e']at z;cases z
  have E:∀{b:Addr} {m:Str->Option Value},c.heap.Ns b m->(kv c.heap H0).Ns b m:=λ{b m} ⟨o,es,ep,e,d,r⟩=>{o,es,ep,f e (L _ (l e (λxs y z=>by rw[d]at z;cases z) (λz=>by rw[d]at z;cases z))),d,r}
  have X:K.In (kv c.heap H0):=λb o e=>f (T b o e) (by
   cases q:H b with
   |none=>exact L b q
   |some u =>
    rcases hA b (by rw[q];simp) with e' |e' |⟨xs,e'⟩
    ·subst e'
     rw[hK (by rw[q];simp)]at e;cases e
    ·rw[kP b e']at e;cases e
    ·exact H0m b xs e')
  have hBb:∀Q∈Ps,(kv c.heap H0).BuiltinsAt mg Q:=λQ hQ=>by
   obtain⟨bm,ob,b1,b2,b3,b4,b5,b6,b7,b8⟩:=hbm Q hQ;exact{bm,ob,b1,b2,b3,b4,f b5 (L _ (l b5 (λxs y z=>by rw[b8]at z;cases z) (λz=>by rw[b8]at z;cases z))),b6,b7,b8}
  have hM:Mod K mg (kv c.heap H0):={X,E hns,{mb,E i,hbb},let⟨mc,h1,h2⟩:=hlim;{mc,E h1,h2}}
  have hbs:∀b o,(kv c.heap H0).get? b=some o->c.heap.get? b=some o/\(H b=none\/∃xs,H b=some (.tup xs)):=λb o e=>by
   obtain⟨h1,h2⟩:=Rj e;refine{h1,?_};rcases hO b with⟨D,z⟩|⟨_,xs,_,z⟩|⟨_,z,_⟩
   ·have B:(if(M b).isSome=true then none else H b)=none:=h2
    have mb:M b=none:=by
     cases q:M b with
     |none=>rfl
     |some xs=>exact absurd D (mP b xs q)
    rw[mb,qq ⋯,z]at B;cases B
   ·exact .inr {xs,z}
   ·have B:(if(M b).isSome=true then none else H b)=none:=h2
    rw[z,qq ⋯]at B;exact .inl B
  have e0:vK P w K mg (kv c.heap H0) callerA [] c H:={Y,hM,hbs,Nat.le_of_eq (Oo _ _),trivial,λb i=>absurd (show b∈([]:List Addr) from i) (by simp),R,.of_eq hg};refine codeAny_mono ((F _ X (E hns) hBb).run callerA [] c H {[.ref a],[]} [.ref a] [.ref a] _ _ hr e0 (J c (.ref a)) (.cons rfl .nil) (hsp H hO hS)) λr s' h=>?_
  cases r with
  |error e=>exact(hCX H e s' h).elim
  |ok fl =>
   cases fl with
   |next=>exact False.elim h
   |brk=>exact False.elim h
   |cont=>exact False.elim h
   |ret u =>
    obtain⟨v,H',os,Z,un,I,r',q⟩:=h;have q':v=.bl true:=q;subst q';obtain rfl:u=Value.bool true:=r';refine{Y,{λb o e=>?_,λb o e=>un.there b o e (by simp)},os,Z};rcases hO b with⟨D,z⟩|⟨_,xs,_,z⟩|⟨_,_,z|⟨ob,xs,z⟩⟩
    ·obtain⟨G,z2⟩:=un.ff b _ z
     have e2:s'.heap.get? b=some { cls:=.none,data:=.fields (#[]++G) }:=I b _ z2;rw[(A b D).1]at e;cases e;exact .inr (.inl {(A b D).2,Y,#[],G,Y,e2})
    ·exact .inl (un.eP b o xs e z)
    ·exact .inl (un.keep b o e z (by intro y;exact absurd (show b∈([]:List Addr) from y) (by simp)) (by simp))
    ·have z2:=un.fe b ob _ z
     obtain⟨e1,_⟩:=R b _ z;obtain⟨e2,_⟩:=I b _ z2;rw[e]at e1;cases e1;exact .inl e2
 have p:∀sc:Option HO,(∀u,sc=some u->ba P w (λb=>if b∈Ps then some (.mF #[]) else match M b with|some xs=>some (.tup xs)|none=>if b=a then sc else none) c.heap a u) →
   eV P w (λb=>if b∈Ps then some (.mF #[]) else match M b with|some xs=>some (.tup xs)|none=>if b=a then sc else none) c.heap:=λsc O b u z=>by
  by_cases i:b∈Ps
  ·have z':=(q0 i).symm.trans z
   cases z';exact(A b i).1
  ·have z1:=(qq i).symm.trans z
   cases hm:M b with
   |some xs =>
    simp only[hm]at z1
    cases z1;obtain⟨o,h1,h2,h3⟩:=N b xs hm;exact Sd (T b o h1) h2 h3
   |none =>
    simp only[hm]at z1
    by_cases g:b=a
    ·rw[q0 g]at z1
     subst g;exact O u z1
    ·rw[qq g]at z1;cases z1
 have j:∀sc:Option HO,(sc=none\/∃o xs,sc=some (.m_ o (.lst xs)))->rg Ps M (λb=>if b∈Ps then some (.mF #[]) else match M b with|some xs=>some (.tup xs)|none=>if b=a then sc else none):=λsc O b=>by
  by_cases i:b∈Ps
  ·exact .inl {i,q0 i}
  ·cases hm:M b with
   |some xs=>exact .inr (.inl {i,xs,Y,(qq i).trans (by simp only[hm])})
   |none =>
    refine .inr (.inr {i,Y,?_})
    by_cases g:b=a
    ·have:(if b∈Ps then some (.mF #[]) else match M b with|some xs=>some (.tup xs)|none=>if b=a then sc else none)=sc:=(qq i).trans (by simp only[hm];rw[q0 g])
     rcases O with z|⟨o,xs,z⟩
     ·exact .inl (this.trans z)
     ·exact .inr ⟨o,xs,this.trans z⟩
    ·exact .inl ((qq i).trans (by simp only[hm];rw[qq g]))
 have t:∀sc:Option HO,∀b,(if b∈Ps then some (.mF #[]) else match M b with|some xs=>some (.tup xs)|none=>if b=a then sc else none)≠none->b=a\/b∈Ps\/∃xs,M b=some xs:=λsc b z=>by
  by_cases i:b∈Ps
  ·exact .inr (.inl i)
  ·cases hm:M b with
   |some xs=>exact .inr (.inr {xs,Y})
   |none =>
    by_cases g:b=a
    ·exact .inl g
    ·exact absurd ((qq i).trans (by simp only[hm];rw[qq g])) z
 have C:∀sc:Option HO,(if a∈Ps then some (.mF #[]) else match M a with|some xs=>some (.tup xs)|none=>if a=a then sc else none)=sc:=λsc=>(qq naP).trans (by simp only[ma];exact q0 trivial)
 cases hk:K.lookup a with
 |some o =>
  have e:=T a o hk;rw[S]at e;cases e;exact(NO hnl hk).elim
 |none =>
  exact core _ (j (some (.m_ { cls:=.type "list",data:=.seq vs.toArray } (.lst (U.map V.int)))) (.inr {_,_,Y})) (.inr {{ cls:=.type "list",data:=.seq vs.toArray },C _}) (p _ λu z=>by
   cases z
   exact{S,by rw[qf];exact hl,vs,_,rv,S}) (t _) λ_=>hk
def rj{l:PySem.W.OpenLaw}{n k:Nat}{q:Program}{y:List Str}{XP:(Str->Option Value)->Heap->Prop}{YP:World->Heap->Prop}{d:DefRec}{K:Params->PySem.W.Frag}{CX:sL}{sp:Sp}{x:Str}{Ps:List Addr}(ts:List Str)(j:List (Addr×List V))(tb:Str->Addr)(hn:l.most=some n)(hn2:n≤sizeLine)(hdf:d.params.defaults=[])(hr:cg k callerA)(hY:∀(w:World) (h:Heap),YP w h->(K w.params).In h)(hYT:∀(w:World) (h:Heap),YP w h->∀Q∈Ps,h.get? Q=some (tabObj #[]))(hC:∀w:World,∀Q∈Ps,∃t∈ts,codeHdIn (K w.params) (QN (K w.params) t) Q=true)(hnt:∀w:World,noTabs (K w.params)=true)(hnl:∀w:World,qW (K w.params)=true)(S:∀w:World,∀t∈ts,rK (K w.params) t=tb t)(A:∀w:World,∀t∈ts,rK (K w.params) t∈Ps)(hms:∀w:World,(j.all λc=>wY (K w.params) c)=true)(P:(j.map (·.1)).Nodup)(F:∀(w:World) (mg:Str->Option Value) (L:Addr) (h:Heap),(K w.params).In h->h.Ns mainGlobals mg->mg d.name=some (.ref L) →
   ∃fd:FuncData,(∀(s:Shared) (u:Value),BindsTo s fd {[u],[]} [(x,u)]) ∧
    ∀base:Heap,(K w.params).In base->base.Ns mainGlobals mg->(∀t∈ts,base.BuiltinsAt mg (rK (K w.params) t))->fw l.prog w (K w.params) mg base CX k L fd [x] sp)(hsp:∀(H:Hp) (a:Addr) (J:List Int),J.length≤n->(∀t∈ts,H (tb t)=some (.mF #[]))->(∀c∈j,H c.1=some (.tup c.2))->au H a (J.map V.int)->sp [.ref a] H (λv _=>v=.bl true) λ_ _ _=>False)(Z:∀(H:Hp) (s:Shared) (e:Value) (s':Shared),CX [] H s (λ_ _ _=>False) e s'->False) :
  PySem.W.WalkO q y XP YP l.row.toRowW d [] (λf vs=>PySem.call f vs):=by
 refine Att.mL hn hdf λw s₀ p mg mb L o pm cd doc a vs J G Y ho hd hcd X E r m hg=>?_;have O:=hY w _ Y;obtain⟨fd,hb,hF⟩:=F w mg L _ O G.T.g X;have N:=hYT w _ Y
 have hbm:∀Q∈Ps,p.heap.BuiltinsAt mg Q:=λQ D=>by
  obtain⟨bm,ob,b1,b2,C,b4,b5,R⟩:=G.T.bmain;refine{bm,ob,b1,b2,λq=>?_,λq=>?_,C,b4,b5,R}
  ·obtain⟨o,es,ep,e,hd,_⟩:=G.T.g
   rw[q,e]at C;cases C;rw[hd]at R;cases R
  ·rw[q,N Q D]at C;cases C;cases b4
 let M:Addr->Option (List V):=λb=>(j.find? λc=>decide (c.1=b)).map (·.2)
 have U:∀b xs,M b=some xs->(b,xs)∈j:=λb xs e=>by
  obtain⟨c,i,rfl⟩:=yu.mp e
  have h1:c.1=b:=by simpa using List.find?_some i
  rw[←h1];exact y0 i
 have I:∀c∈j,M c.1=some c.2:=λc i=>by
  have go:∀(l:List (Addr×List V)),(l.map (·.1)).Nodup->c∈l->(l.find? λd=>decide (d.1=c.1)).map (·.2)=some c.2:=λl=>by
   induction l with
   |nil=>intro _ z;cases z
   |cons d l ih =>
    intro nd hm;rw[qw,wf]at nd;rw[j3]
    by_cases h:d.1=c.1
    ·rw[qs h]
     rcases qr.mp hm with z|z
     ·rw[z];rfl
     ·exact absurd (h▸qk.mpr {c,z,rfl}:d.1∈l.map (·.1)) nd.1
    ·rw[decide_eq_false h]
     rcases qr.mp hm with z|z
     ·exact absurd (by rw[z]) h
     ·exact ih nd.2 z
  exact go j P i
 have look:∀c∈j,∃o,(K w.params).lookup c.1=some o/\ix o c.2=true/\c.2.length≤sizeLine:=λc i=>by
  have h:=zk.mp (hms w) c i;unfold wY at h
  cases q:(K w.params).lookup c.1 with
  |none=>rw[q]at h;exact absurd h zg
  |some o =>
   rw[q]at h;have h:(ix o c.2&&Nat.ble c.2.length 1000)=true:=h;rw[qv]at h;exact{o,rfl,h.1,qj (aC (ze h.2))}
 refine NI (M:=M) O G.T.g G.T.b G.T.builtins G.T.nolimit hg (hnt w) (hnl w) (λQ D=>{N Q D,(((codeHd_of_K O (hC w Q D).choose_spec.2)).tab (N Q D)).isCodeTable}) hbm (λb xs e=>look _ (U b xs e)) E r (qg m hn2) hr (λbase h1 h2 h3=>hF base h1 h2 λt B=>h3 _ (A w t B)) hb (λH hO hS=>hsp H a J m (λt B=>S w t B▸?_) (λc i=>?_) hS) λH e s'=>Z H p e s'
 ·rcases hO (rK (K w.params) t) with z|z|z
  ·exact z.2
  ·exact absurd (A w t B) z.1
  ·exact absurd (A w t B) z.1
 ·rcases hO c.1 with z|⟨_,ys,hy,z⟩|⟨_,z,_⟩
  ·obtain⟨o,h1,h2,_⟩:=look c i
   have e:=O _ _ h1;rw[N _ z.1]at e;cases e;exact absurd h2 zg
  ·rw[I c i]at hy
   cases hy;exact z
  ·rw[I c i]at z;cases z
end L2
namespace L2
open PySem PySem.Spec PyProof.Rows
def AE{t:Sem Fin}{fs:List Frame}(h:Runs M a p t fs s e s'):s.toks≤s'.toks:=by
 induction h <;> first|exact Nat.le_refl _|assumption|(simp only[Shared.setGen]at *;omega)|(simp only at *;omega)|omega
def Qi{g:Type}(M:Model)(f:PySem.Ctx)(m:Sem g):∀(Q:g->Pos->Shared->Prop) (E:Value->Pos->Shared->Prop) (p:Pos) (s:Shared) (n:Nat),n≤s.toks->Sem.wp M f m Q E p s->Sem.wp M f m (λa e s'=>Q a e s'/\n≤s'.toks) (λa e s'=>E a e s'/\n≤s'.toks) p s:=by
 induction m <;> intro Q E p s n d h <;> simp only[Sem.wp]at h ⊢
 case pure=>exact{h,d}
 case raise=>exact{h,d}
 case call c =>
  obtain⟨r,s',b,h⟩:=h;exact{r,s',b,c _ _ _ _ _ _ (qg d (AE b)) h}
 case resume c =>
  obtain⟨r,s',b,h⟩:=h;refine{r,s',b,c _ _ _ _ _ _ (qg d ?_) h};unfold Wakes at b
  split at b
  ·exact b.elim
  ·split at b
   ·obtain⟨_,_,h1,_,_,rfl⟩:=b
    have:=AE h1;simpa only[Shared.setGen] using this
   ·rw[b.2];exact qi _
   ·rw[b.2];exact qi _
  ·obtain⟨_,_,h1,_,_,rfl⟩:=b
   have:=AE h1;simpa only[Shared.setGen] using this
  ·rw[b.2];exact qi _
  ·rw[b.2];exact qi _
 all_goals first
  |exact h.elim
  |(rename_i c;exact c _ _ _ _ _ _ d h)
  |(rename_i c;exact c _ _ _ _ _ _ (qg d (jy _)) h)
  |(rename_i c;exact⟨h.1,c _ _ _ _ _ _ d h.2⟩)
  |(rename_i c;obtain⟨o,i,h⟩:=h;exact⟨o,i,c _ _ _ _ _ _ d h⟩)
def tk{e:Type}{M:Model}{A:Around}{m:Sem e}{Q d:e->Shared->Prop}{E:Value->Shared->Prop}{s:Shared}(f:0<s.toks)(h:wpAny M A m Q E s)(i:∀a s',0<s'.toks->Q a s'->d a s'):wpAny M A m d E s:=λc p b =>
 Sem.wp_mono M c m (λa _ s' h'=>i a s' h'.2 h'.1) (λ_ _ _ h'=>h'.1) p s (Qi M c m _ _ p s 1 f (h c p b))
structure zX(X:Cx)(e:Expr)(t:TE):Prop where
 run:∀(pins:List (Addr×Obj)) (s:Shared) (σ:St) (H:Hp) (Q:VK),Inv X pins σ H s->t σ H Q->wpAny (model X.prog X.w) X.A (eval e X.env) (λu s'=>0<s'.toks/\EP X pins σ Q u s') X.xe s
structure wZ(X:Cx)(e:Expr)(t:TE):Prop where
 run:∀(pins:List (Addr×Obj)) (s:Shared) (σ:St) (H:Hp) (Q:VK),0<s.toks->Inv X pins σ H s->t σ H Q->wpAny (model X.prog X.w) X.A (eval e X.env) (EP X pins σ Q) X.xe s
structure HL(X:Cx)(es:List Expr)(t:TA):Prop where
 run:∀(pos:Pos) (pins:List (Addr×Obj)) (s:Shared) (σ:St) (H:Hp) (Q:List V->Hp->Prop),0<s.toks->Inv X pins σ H s->t σ H Q->wpAny (model X.prog X.w) X.A (spliced (backTo pos (starEach es X.env))) (AP X pins σ Q) X.xe s
section
variable {X:Cx}{e a b:Expr}{es:List Expr}{te ta tb:TE}{t:TA}{pos:Pos}
def Nt(h:PE X e te):wZ X e te:={λpins s σ H Q _ I q=>h pins s σ H Q I q}
def pap(h:PA X es t):HL X es t:={λpos pins s σ H Q _ I q=>h pos pins s σ H Q I q}
def Ig{x j}:zX X (.Constant (.str x) j pos) (tC (.str x)):={λ_ s _ H _ I h=>Calls.Constant_str {yo _,.str x,H,I.tok _,{_,Y},h}}
def Aj(n:df X (binaryOp c) r)(o:PE X a ta)(f:zX X b tb):zX X (.BinOp a c b pos) (ow r ta tb):={λpins s σ H Q I h =>
 wpAny_BinOp (bq (o pins s σ H _ I h) λv i ⟨x,H1,e,d,m⟩=>bq (f.run pins i σ H1 _ e m) λu j ⟨p,y,H2,t,l,g⟩ =>
  tk p (n pins j σ H2 x y v u Q t d l g) λ_ _ k q=>{k,q})}
def Rg(n:df X (binaryOp c) r)(o:zX X a ta)(f:PE X b tb):zX X (.BinOp a c b pos) (ow r ta tb):={λpins s σ H Q I h =>
 wpAny_BinOp (bq (o.run pins s σ H _ I h) λv i ⟨p,x,H1,e,d,m⟩=>tk p (f pins i σ H1 _ e m) λu j p ⟨y,H2,t,l,g⟩ =>
  tk p (n pins j σ H2 x y v u Q t d l g) λ_ _ k q=>{k,q})}
def Lm(m:df X (binaryOp c) r)(n:wZ X a ta)(f:wZ X b tb):wZ X (.BinOp a c b pos) (ow r ta tb):={λpins s σ H Q p I h =>
 wpAny_BinOp (tk p (n.run pins s σ H _ p I h) λv i p ⟨x,H1,e,d,l⟩=>bq (f.run pins i σ H1 _ p e l) λu j ⟨y,H2,o,k,g⟩ =>
  m pins j σ H2 x y v u Q o d k g)}
def MN(j:zX X e te)(d:HL X es t)(hs:mI X e:=by exact λ_=>rfl):PA X (e::es) (eE te t):=by
 refine{?_};intro pos pins s σ H Q I h;rw[hs];show wpAny _ _ (spliced ((false,eval e X.env)::backTo pos (starEach es X.env))) _ _ s;refine Calls.spliced_cons (bq (j.run pins s σ H _ I h) λu f ⟨p,x,H1,b,a,i⟩=>?_);exact bq (d.run pos pins f σ H1 _ p b i) λm l ⟨xs,H2,k,g,c⟩=>{x::xs,H2,k,.cons a g,c}
def rJ(j:wZ X e te)(d:HL X es t)(hs:mI X e:=by exact λ_=>rfl):HL X (e::es) (eE te t):=by
 refine{?_};intro pos pins s σ H Q p I h;rw[hs];show wpAny _ _ (spliced ((false,eval e X.env)::backTo pos (starEach es X.env))) _ _ s;refine Calls.spliced_cons (tk p (j.run pins s σ H _ p I h) λu f p ⟨x,H1,b,a,i⟩=>?_);exact bq (d.run pos pins f σ H1 _ p b i) λm l ⟨xs,H2,k,g,c⟩=>{x::xs,H2,k,.cons a g,c}
def RZ(h:HL X es t):wZ X (.List es pos) (rO t):=by
 refine{?_};intro pins s σ H Q p I f;refine wpAny_List_spliced (bq (h.run pos pins s σ H _ p I f) λg a ⟨xs,H1,c,r,z,q⟩=>{by rw[←r.length];exact z,?_});have d:H1 ↑a=none:=c.bP.fresh (qi _);refine{.ref ↑a,upd H1 ↑a (.lst xs),c.laid (t':=a.toks) (λb u e=>qE _ e) (qi _) ?_,Y,q _ _ d (ag.new d) aN};exact{z,g,0,r,qF _ rfl}
open Builtin Builtin.Str
def gZ(x y z:Str)(n:Nat):Str :=
 if((Builtin.Str.occurrences x y 0 x.length n).isEmpty||(y.length==0&&z.length==0))=true then x
 else Builtin.Str.glued z (Builtin.Str.partsBetween x (Builtin.Str.occurrences x y 0 x.length n) y.length)
def QT(x y z:Str)(t u v k:Tok)(c:(u==0||v==0)=false)(b:(u==v)=false)(a:(y==z)=false)(hl:tooLong (x.length+(Builtin.Str.occurrences x y 0 x.length 1).length * z.length)=false) :
  Gives (Builtin.«str.replace» {[.str x t,.str y u,.str z v,.int 1 k],[]}) (if((Builtin.Str.occurrences x y 0 x.length 1).isEmpty||(y.length==0&&z.length==0))=true then .val (.str x t) else .str (Builtin.Str.glued z (Builtin.Str.partsBetween x (Builtin.Str.occurrences x y 0 x.length 1) y.length))):=by
 show Gives (do let limit ←(do let i ←Builtin.Str.asSsize "str.replace" (.int 1 k);pure (if i<0 then x.length+1 else i.toNat));if((Builtin.Str.occurrences x y 0 x.length limit).isEmpty||(y.length==0&&z.length==0))=true then(do rule "str.replace.nothing";ret (.str x t)) else(do let same ←isSame (.str y u) (.str z v);if same=true then(do rule "str.replace.old-is-new";ret (.str x t)) else if tooLong (x.length+(Builtin.Str.occurrences x y 0 x.length limit).length * z.length)=true then unsupported "str.replace:memory" else retStr (Builtin.Str.glued z (Builtin.Str.partsBetween x (Builtin.Str.occurrences x y 0 x.length limit) y.length)))) _;rw[asSsize_int _ _ _ ⋯];show Gives (if((Builtin.Str.occurrences x y 0 x.length 1).isEmpty||(y.length==0&&z.length==0))=true then(do rule "str.replace.nothing";ret (.str x t)) else(do let same ←isSame (.str y u) (.str z v);if same=true then(do rule "str.replace.old-is-new";ret (.str x t)) else if tooLong (x.length+(Builtin.Str.occurrences x y 0 x.length 1).length * z.length)=true then unsupported "str.replace:memory" else retStr (Builtin.Str.glued z (Builtin.Str.partsBetween x (Builtin.Str.occurrences x y 0 x.length 1) y.length)))) _;cases d:((Builtin.Str.occurrences x y 0 x.length 1).isEmpty||(y.length==0&&z.length==0))
 ·rw[isSame_str_other y z u v c b a,hl]
  exact .of_eq rfl
 ·exact .rule (.of_eq rfl)
inductive IQ(x:V)(xs:List V)(H:Hp)(Q:VK):Prop
 |mk(z a b:Str)(h0:x=.str z)(h1:xs=[.str a,.str b])(h2:(a==b)=false)(h3:z.length+(z.length+1) * b.length≤16777216)(h4:Q (.str (Txt.replace z a b)) H)
inductive B4(x:V)(xs:List V)(H:Hp)(Q:VK):Prop
 |mk(z a b:Str)(h0:x=.str z)(h1:xs=[.str a,.str b,.int 1])(h2:(a==b)=false)(h3:z.length+(z.length+1) * b.length≤16777216)(h4:Q (.str (gZ z a b 1)) H)
variable {o:Expr}{to:TE}{apos cpos:Pos}
def RH(m:PE X o to)(b:attributeBase o "replace" X.env (eval o X.env)=eval o X.env:=by exact rfl)(a:(apos.endLine==cpos.line)=true:=by exact rfl) :
  wZ X (.Call (.Attribute o "replace" apos) [.Constant (.str c) k1 p1,.Constant (.str d) k2 p2] [] cpos) (IH "str" IQ to (eE (tC (.str c)) (eE (tC (.str d)) ni))):=by
 refine{?_};intro pins s σ H Q p I h;refine wpAny_Call_method_late b rfl a rfl (tk p (m pins s σ H _ I h) λv u p ⟨x,H1,g,f,ty,l⟩=>?_);obtain⟨h1,h2⟩:=vL g f ty;refine{"str","str.replace",F.plainAttrs_str,F.slot_str_replace,F.type_str_replace,h1,h2,?_};refine Calls.callWith_builtin rfl (Calls.evalArgs_plain ?_);obtain⟨z,n,r,rfl,e,j,i,q⟩:=l
 obtain⟨rfl,rfl⟩:c=n/\d=r:=by
  injection e with e1 e2;injection e2 with e2 _;injection e1 with e1;injection e2 with e2;exact{e1,e2}
 obtain⟨t,rfl⟩:=f;refine Calls.spliced_cons (Calls.Constant_str (k:=k1) (pos:=p1) (Calls.spliced_cons (Calls.Constant_str (k:=k2) (pos:=p2) (Calls.spliced_nil ?_))));exact SC.replace (Nat.pos_iff_ne_zero.mp p) (Nat.succ_ne_zero _) (qp (vz _)) j i λt' k=>{.str _,H1,(g.tok _),{_,Y},q}
def Qn(u:PE X o to)(b:attributeBase o "replace" X.env (eval o X.env)=eval o X.env:=by exact rfl)(a:(apos.endLine==cpos.line)=true:=by exact rfl) :
  wZ X (.Call (.Attribute o "replace" apos) [.Constant (.str c) k1 p1,.Constant (.str d) k2 p2,.Constant (.int 1) k3 l] [] cpos) (IH "str" B4 to (eE (tC (.str c)) (eE (tC (.str d)) (eE (tC (.int 1)) ni)))):=by
 refine{?_};intro pins s σ H Q p I h;refine wpAny_Call_method_late b rfl a rfl (tk p (u pins s σ H _ I h) λv j p ⟨x,H1,f,g,ty,r⟩=>?_);obtain⟨h1,h2⟩:=vL f g ty;refine{"str","str.replace",F.plainAttrs_str,F.slot_str_replace,F.type_str_replace,h1,h2,?_};refine Calls.callWith_builtin rfl (Calls.evalArgs_plain ?_);obtain⟨z,w,y,rfl,e,m,A,q⟩:=r
 obtain⟨rfl,rfl⟩:c=w/\d=y:=by
  injection e with e1 e2;injection e2 with e2 _;injection e1 with e1;injection e2 with e2;exact{e1,e2}
 obtain⟨t,rfl⟩:=g;refine Calls.spliced_cons (Calls.Constant_str (k:=k1) (pos:=p1) (Calls.spliced_cons (Calls.Constant_str (k:=k2) (pos:=p2) (Calls.spliced_cons (wpAny_Constant_int (k:=k3) (pos:=l) (Calls.spliced_nil ?_))))))
 have hl:tooLong (z.length+(occurrences z c 0 z.length 1).length * d.length)=false:=by
  have h1:=StrLaws.occ_length_le z c 0 z.length 1;have h2:(occurrences z c 0 z.length 1).length * d.length≤(z.length+1) * d.length:=ky _ ()
  have e:(2:Nat) ^ 24=16777216:=⋯
  unfold tooLong sizeLine;exact decide_eq_false ()
 refine call_gives F.slot_str_replace (typeIs_str _ _ _) F.entry_str_replace (F.args_str_replace_4 _ _ _ _) (QT z c d t j.toks (j.toks+1) _ (by have:=Nat.pos_iff_ne_zero.mp p;simp[this]) (by simp) m hl) ?_;have q':=q;unfold gZ at q';cases i:((occurrences z c 0 z.length 1).isEmpty||(c.length==0&&d.length==0))
 ·rw[i]at q'
  simp only[Bool.false_eq_true,if_false]at q' ⊢
  refine{?_,.str _,H1,f.tok _,{_,Y},q'};rw[size_glued,length_partsBetween,jp,sizeLine_eq]
  have n:(glued c (partsBetween z (occurrences z c 0 z.length 1) c.length)).length=z.length:=by rw[StrLaws.glued_between_self]
  rw[size_glued,length_partsBetween,jp]at n;have h1:=StrLaws.occ_length_le z c 0 z.length 1;have h2:(occurrences z c 0 z.length 1).length * d.length≤(z.length+1) * d.length:=ky _ ();omega
 ·rw[i]at q'
  simp only[if_true]at q' ⊢
  exact{.str _,H1,f.tok _,{_,Y},q'}
end
end L2
namespace L2
open PySem PySem.Spec PyProof.Rows
open Builtin Builtin.Str
inductive Tp(x:V)(xs:List V)(H:Hp)(Q:VK):Prop
 |mk(z:Str)(h0:x=.str z)(h1:xs=[])(h2:z.length≤10000)(h3:Q (.str (Txt.upper z)) H)
def GH:w_ X "str.upper" Tp:=by
 intro pins s σ H x xs v d Q I b a h;obtain⟨z,rfl,rfl,c,q⟩:=h;obtain⟨t,rfl⟩:=b;cases a;exact SCL.upper () λ_=>{.str _,H,I.tok _,{_,Y},q}
def gL(z:Str)(k:Nat):Str:={(List.replicate k z.cps).foldl (·++·) #[]}
inductive Jy(x y:V)(H:Hp)(Q:VK):Prop
 |mk(z:Str)(n:Int)(h0:x=.str z)(h1:y=.int n)(h2:1≤n)(h3:n≤20)(h4:0<z.length)(h5:z.length≤20)(h6:Q (.str (gL z n.toNat)) H)
def PP(z:Str)(k:Nat):(gL z k).length=k * z.length:=by
 have:∀(k:Nat) (a:Array Nat),((List.replicate k z.cps).foldl (·++·) a).size=a.size+k * z.cps.size:=λk=>by
  induction k with
  |zero=>intro a;simp
  |succ k b =>
   intro a;rw[w6,yk,b,yv,Nat.succ_mul];omega
 show((List.replicate k z.cps).foldl (·++·) #[]).size=_;rw[this];simp;rfl
def Km:df X (binaryOp .Mult) Jy:=by
 intro pins s σ H x y v u Q I g c h;obtain⟨z,n,rfl,rfl,h1,h2,i,f,q⟩:=h;obtain⟨t,rfl⟩:=g;obtain⟨t',rfl⟩:=c;obtain⟨k,rfl⟩:∃k:Nat,n=k:={n.toNat,()}
 have d:k≤20:=()
 have hm:z.length * k≤400:=qg (Nat.mul_le_mul f d) ⋯;refine P.mul_str (by simp;omega) (λ_ _=>?_) (λ_ _=>?_) ?_
 ·have:(20:Int)≤(2 ^ 63 - 1) / (k:Int):=Int.le_ediv_of_mul_le () ()
  omega
 ·have e:(2:Nat) ^ 24=16777216:=⋯
  unfold tooLong sizeLine;exact decide_eq_false (by show ¬_;rw[show((k:Int)).toNat=k from rfl];omega)
 ·rw[qq ()]
  split
  ·rename_i a
   rw[vn]at a;rcases a with a|a
   ·have:(k:Int)=1:=by simpa using a
    have b:k=1:=()
    subst b
    have e:gL z (Int.toNat (1:Nat))=z:=by
     show({#[]++z.cps}:Str)=z;rw[Array.empty_append]
    rw[e]at q;exact{.str z,H,I,{t,Y},q}
   ·have:z.length=0:=by simpa using a
    omega
  ·refine{?_,.str _,H,I.tok _,{_,Y},q}
   have:=PP z k;rw[sizeLine_eq];show(gL z k).length≤_;rw[this,jw];omega
section
variable {X:Cx}{e a b:Expr}{es:List Expr}{te ta tb:TE}{t:TA}{pos:Pos}
structure S8(X:Cx)(es:List Expr)(t:TA):Prop where
 run:∀(pos:Pos) (pins:List (Addr×Obj)) (s:Shared) (σ:St) (H:Hp) (Q:List V->Hp->Prop),Inv X pins σ H s->t σ H Q->wpAny (model X.prog X.w) X.A (spliced (backTo pos (starEach es X.env))) (λus s'=>0<s'.toks/\AP X pins σ Q us s') X.xe s
def MK(d:zX X e te)(hs:mI X e:=by exact λ_=>rfl):S8 X [e] (eE te ni):=by
 refine{?_};intro pos pins s σ H Q I h;rw[hs];show wpAny _ _ (spliced ((false,eval e X.env)::backTo pos (starEach [] X.env))) _ _ s;refine Calls.spliced_cons (bq (d.run pins s σ H _ I h) λu f ⟨p,x,H1,b,a,c⟩=>?_);exact Calls.spliced_nil {p,[x],H1,b,.cons a .nil,c}
def Pt(h:S8 X es t):zX X (.List es pos) (rO t):=by
 refine{?_};intro pins s σ H Q I f;refine wpAny_List_spliced (bq (h.run pos pins s σ H _ I f) λg a ⟨p,xs,H1,c,r,z,q⟩=>{by rw[←r.length];exact z,?_});have d:H1 ↑a=none:=c.bP.fresh (qi _);refine{p,.ref ↑a,upd H1 ↑a (.lst xs),c.laid (t':=a.toks) (λb u e=>qE _ e) (qi _) ?_,Y,q _ _ d (ag.new d) aN};exact{z,g,0,r,qF _ rfl}
end
end L2
namespace L2
open PySem PySem.Spec PyProof.Rows
section
variable {prog:Program}{w:World}{A:Around}{E:Value->Shared->Prop}{s:Shared}
theorem Ju{it t:Addr}(e:t≠it):∀(n i:Nat) (s:Shared) (Q:List Value->Shared->Prop),s.heap.IsListIter it t i->s.heap.IsList t items->i+n≤items.size →
  (∀h',h'.IsListIter it t (i+n)->Heap.SameBut it s.heap h'->Q ((items.toList.drop i).take n) { s with heap:=h' })->wpAny (model prog w) A (draw (.ref it) n) Q E s
 | 0,i,s,Q,hit,_,_,hQ=>by
  show wpAny _ _ (pure []) Q E s;exact qA (by simpa using hQ s.heap hit (Heap.SameBut.refl ..))
 |n+1,i,s,Q,hit,ht,hle,hQ=>by
  have g:i<items.size:=()
  show wpAny _ _ (pyNext (.ref it) >>= _) Q E s;refine qc (wpAny_pyNext_list_item hit ht (x:=items[i]) (by simp[g]) λh c a=>?_);refine qc (qH (Ju e n (i+1) _ _ c (ht.extBut a.extBut e) () λf b d=>qA ?_))
  have j:items.toList.drop i=items[i]::items.toList.drop (i+1):=by simp[List.drop_eq_getElem_cons,g]
  have:=hQ f (by rw[show i+(n+1)=i+1+n from ()];exact b) (a.trans d);rw[j,List.take_succ_cons]at this;exact this
def OY{t:Addr}(m:A.handled=none)(h:s.heap.IsList t items)(p:∀h',Heap.ExtBut ↑s s.heap h'->Q items.toList { s with heap:=h' }):wpAny (model prog w) A (unpackItems (.ref t) items.size none) Q E s:=by
 have j:t≠↑s:=by obtain⟨o,n,_⟩:=h;exact qp (qC n)
 unfold unpackItems;refine qc ?_
 ·unfold notIterableAtAll
  refine qc (wpAny_specialOf h.typeIs slot_list_iter.lookup ?_);refine qA ?_
  simp only[Bool.false_eq_true,if_false]
  refine qc (qH (wpAny_pyIter_list h ?_));refine qc (qH (Ju j items.size 0 _ _ {_,qF _ rfl,Y,Y} (h.push _) () λi c a=>?_))
  have k:List.take items.size (List.drop 0 items.toList)=items.toList:=by
   rw[List.drop_zero];exact List.take_of_length_le (by simp)
  rw[k];rw[qq (by simp)];have f:i.IsList t items:=(h.push _).extBut a.extBut j;refine qc (qH (wpAny_pyNext_list_end m c f (by simp) λg d=>?_))
  simp only[Option.isSome_none,Bool.false_eq_true,if_false]
  refine qA (p g λb o l e=>d b o l (a.extBut b o l (qE _ e)))
def Rv{x1}{t:Addr}(d:A.handled=none)(c:s.heap.IsList t items)(e:(assignEach a env).length=items.size)(b:(assignEach a env).findIdx? (·.1)=none)(h:∀h',Heap.ExtBut ↑s s.heap h'->wpAny (model prog w) A (assignInOrder ((assignEach a env).map (·.2)) items.toList) Q E { s with heap:=h' }) :
  wpAny (model prog w) A (assign (.Tuple a x1 pos) env (.ref t)) Q E s:=by
 rw[assign_Tuple];refine qc (wpAny_standAt ?_);unfold unpack;rw[e,b];exact qc (qH (OY d c h))
end
variable {X:Cx}
inductive Li(n:Nat)(t:xI)(v:V)(σ:St)(H:Hp)(Q:St->Hp->Prop):Prop
 |mk(a:Addr)(xs:List V)(h0:v=.ref a)(h1:au H a xs)(h2:xs.length=n)(h3:t xs σ H Q)
def To(h:yJ X es u)(l:X.calm=true:=by exact rfl)(p:(assignEach es X.env).length=n:=by exact rfl)(f:(assignEach es X.env).findIdx? (·.1)=none:=by exact rfl):PG X (.Tuple es k pos) (Li n u):=by
 refine{?_};intro pins s σ H v x Q I r hw;obtain⟨a,xs,w,m,hl,hw⟩:=hw;subst w;cases r;obtain⟨d,g,j,y⟩:=I.list m
 have c:s.heap.IsList a d.toArray:=by
  obtain⟨o,n,e,h1,h2,t⟩:=j;exact{o,e,h1,n,t}
 refine Rv (I.ok.hd l) c (by simp[p,←hl,g.length]) f λh' q=>?_;have i:Inv X pins σ H { s with heap:=h' }:=I.kept (t':=s.toks) λb o e=>q b o (qp (qC e)) e;exact h pins _ σ H xs _ Q i (by simpa using g) hw
end L2
namespace L2
open PySem PySem.Spec PyProof.Rows
def x_:ek (nv P w) X (λ_ _ _=>False):=λpins σ H s e s' I d=>by
 obtain⟨a,cls,H',rfl,f,b,un,c,_,q⟩:=d;exact q.elim
end L2
namespace My
open PySem L2 PyProof.Rows
def top(i:Nat):Stmt:=PySem.Challenge.pw_pagefolk_k09_texts_of_no_deed.main.body.getD i (.Pass {0,0,0,0})
abbrev tW:Stmt:=top 8
abbrev sZ:Stmt:=top 9
abbrev su:Stmt:=top 10
abbrev se:Stmt:=top 11
abbrev sf:Stmt:=top 12
abbrev sT:Stmt:=top 13
abbrev qN:Stmt:=top 14
abbrev rP:Stmt:=top 15
abbrev rN:Stmt:=top 16
abbrev sj:Stmt:=top 17
abbrev qP:Stmt:=top 18
abbrev tJ:Stmt:=top 19
abbrev ue:Stmt:=top 20
abbrev uo:Stmt:=top 21
abbrev uk:Stmt:=top 22
abbrev oH:Stmt:=top 23
abbrev oE:Stmt:=top 24
abbrev t_:Stmt:=top 25
abbrev sV:Stmt:=top 26
abbrev rr:Stmt:=top 27
abbrev sQ:Stmt:=top 28
abbrev ud:Stmt:=top 29
abbrev qX:Stmt:=top 30
abbrev tT:Stmt:=top 31
abbrev tM:Stmt:=top 32
abbrev oC:Stmt:=top 34
abbrev tO:Stmt:=top 35
abbrev rk:Stmt:=top 36
abbrev sR:Stmt:=top 49
abbrev tS:Stmt:=top 50
abbrev uE:Stmt:=top 51
abbrev r8:Stmt:=top 52
abbrev tD:Stmt:=top 53
abbrev rz:Stmt:=top 54
abbrev rZ:Stmt:=top 55
abbrev rD:Stmt:=top 56
abbrev tV:Stmt:=top 57
abbrev tI:Stmt:=top 58
abbrev sr:Stmt:=top 59
abbrev tu:Stmt:=top 60
abbrev r1:Stmt:=top 61
abbrev ri:Stmt:=top 62
abbrev tQ:Stmt:=top 64
abbrev r0:Stmt:=top 65
abbrev sD:Stmt:=top 66
abbrev ux:Stmt:=top 68
abbrev rS:Stmt:=top 69
abbrev rF:Stmt:=top 70
abbrev rx:Stmt:=top 71
abbrev qZ:Stmt:=top 72
abbrev rQ:Stmt:=top 73
abbrev ti:Stmt:=top 74
abbrev rC:Stmt:=top 75
abbrev oz:Stmt:=top 76
abbrev uf:Stmt:=top 77
abbrev si:Stmt:=top 78
abbrev uG:Stmt:=top 79
abbrev sY:Stmt:=top 80
abbrev uD:Stmt:=top 81
abbrev kY:Stmt:=top 82
abbrev r3:Stmt:=top 83
abbrev tX:Stmt:=top 84
abbrev ry:Stmt:=top 85
abbrev s_:Stmt:=top 86
abbrev qV:Stmt:=top 87
abbrev t8:Stmt:=top 88
abbrev rH:Stmt:=top 89
abbrev tE:Stmt:=top 90
abbrev oD:Stmt:=top 91
abbrev mZ:Stmt:=top 92
abbrev uA:Stmt:=top 93
abbrev i6:Stmt:=top 94
abbrev LO:List Str:=["thing"]
abbrev I0:List Str:=["thing","length"]
abbrev HU:List Str:=["thing","least"]
abbrev JO:List Str:=["thing","texts"]
abbrev Je:List Str:=["thing"]
abbrev LF:List Str:=["thing"]
abbrev JK:List Str:=["thing"]
abbrev L':List Str:=["roll","thing"]
abbrev Ku:List Str:=["roll","thing"]
abbrev IY:List Str:=["roll","thing"]
abbrev Jb:List Str:=["roll","thing"]
abbrev Lz:List Str:=["roll","thing"]
abbrev M1:List Str:=["roll","thing"]
abbrev Mw:List Str:=["roll","thing"]
abbrev J0:List Str:=["roll","thing"]
abbrev xJ:List Str:=["roll","thing"]
abbrev yY:List Str:=["roll","thing"]
abbrev K2:List Str:=["roll","thing"]
abbrev Nf:List Str:=["roll","thing"]
abbrev M7:List Str:=["roll","thing"]
abbrev HS:List Str:=["roll","thing"]
abbrev HD:List Str:=["roll","thing"]
abbrev M4:List Str:=["roll","thing"]
abbrev M5:List Str:=["roll","thing"]
abbrev G_:List Str:=["roll","thing"]
abbrev JZ:List Str:=["roll","number","thing","forms"]
abbrev Ln:List Str:=["roll","thing"]
abbrev MI:List Str:=["roll","thing"]
abbrev yp:List Str:=["word","digits"]
abbrev IC:List Str:=["word"]
abbrev HF:List Str:=["word","told"]
abbrev Jc:List Str:=["word"]
abbrev JA:List Str:=["word"]
abbrev G6:List Str:=["word","told"]
abbrev Ip:List Str:=["word"]
abbrev L6:List Str:=["word"]
abbrev JV:List Str:=["word"]
abbrev KQ:List Str:=["word"]
abbrev Mh:List Str:=["word"]
abbrev L_:List Str:=["word"]
abbrev HK:List Str:=["word"]
abbrev JR:List Str:=["word"]
abbrev JU:List Str:=["kind","words"]
abbrev Kr:List Str:=["words","readers","things"]
abbrev Hi:List Str:=["roll","text","words","head","deed"]
abbrev Hj:List Str:=["_law_cell","_law_many","_law_found","_law_digits","_law_k","_law_number","_law_mixed"]
abbrev Ke:List Str:=["_law_number","_law_word_here","_law_many","_law_k"]
abbrev IU:List Str:=["_law_cell","_law_draws_here","_law_roll_here","_law_k","_law_word_here","_law_letter"]
abbrev Iz:List Str:=["_law_number","_law_roll_here","_law_more"]
abbrev M2:List Str:=["_law_number","_law_roll_here"]
abbrev IL:List Str:=["_law_number","_law_roll_here"]
abbrev Jn:List Str:=["_law_number","_law_roll_here"]
abbrev MJ:List Str:=["_law_number","_law_roll_here","_law_kind"]
abbrev xE:List Str:=["_law_draws_here","_law_roll_here"]
abbrev Mm:List Str:=["_law_draws_here","_law_roll_here","_law_found","_law_number","_law_name_here"]
abbrev Kh:List Str:=["_law_kind","_law_more","_law_roll_here","_law_part_here","_law_name_here","_law_behind"]
abbrev JM:List Str:=["_law_kind","_law_more","_law_roll_here","_law_part_here","_law_name_here","_law_sides","_law_value","_law_word_here"]
abbrev Ir:List Str:=["_law_draws_here","_law_roll_here","_law_number","_law_kind","_law_more","_law_to"]
abbrev JD:List Str:=["_law_number","_law_roll_here"]
abbrev sM:List Str:=["_law_script","_law_most","_law_cells","_law_roll_here","_law_many","_law_known","_law_table","_law_deeds","_law_k","_law_cell","_law_draws_here","_law_who","_law_turn","_law_other","_law_to","_law_theirs","_law_number","_law_heard","_law_what_here"]
abbrev Me:List Str:=["_law_name_here"]
abbrev JI:List Str:=["_law_sign_here"]
abbrev J6:List Str:=["_law_side_here"]
abbrev Hv:List Str:=["_law_thing"]
abbrev LM:List Str:=["_law_what_here","_law_word_here","_law_signs_here","_law_sides","_law_names"]
abbrev HW:List Str:=["_law_deed","_law_hand","_law_number","_law_heard","_law_branch_here","_law_what_here","_law_ahead"]
abbrev Lx:List Str:=["_law_roll_here","_law_text","e","_law_some"]
abbrev JF:List Str:=["_law_text","_law_roll_here","_law_number","_law_words","_law_hand","_law_count","_law_heard","_law_branch_here","_law_word_here","_law_more","_law_some"]
abbrev xo:List Str:=["_law_hand","_law_other","_law_many","_law_far","_law_some","_law_one"]
abbrev xB:List Str:=["_law_roll_here","_law_hand","_law_other","_law_heard","_law_found","_law_thing"]
abbrev MF:List Str:=["_law_roll_here","_law_deed","_law_turned"]
abbrev Hu:List Str:=["_law_script","_law_roll_here","_law_deeds","_law_k","_law_deed","_law_text","_law_number","_law_odd","_law_thing"]
abbrev dm:Addr:=18
abbrev fW:Addr:=15
abbrev fR:Addr:=17
abbrev dB:Addr:=16
abbrev eG:Addr:=186
abbrev cR:Addr:=431
abbrev cQ:Addr:=232
abbrev aq:Addr:=245
abbrev de:Addr:=305
abbrev ej:Addr:=269
abbrev fB:Addr:=317
abbrev fA:Addr:=257
abbrev c_:Addr:=293
abbrev eg:Addr:=281
abbrev dW:Addr:=336
abbrev eF:Addr:=185
abbrev bS:Addr:=180
abbrev f':Addr:=72
abbrev fq:Addr:=166
abbrev b9:Addr:=93
abbrev cP:Addr:=79
abbrev bA:Addr:=86
abbrev bh:Addr:=138
abbrev da:Addr:=114
abbrev bx:Addr:=107
abbrev cJ:Addr:=131
abbrev fj:Addr:=126
abbrev fx:Addr:=173
abbrev hB:Addr:=159
abbrev bW:Addr:=152
abbrev b_:Addr:=145
abbrev dj:Addr:=425
abbrev bU:Addr:=357
abbrev bO:Addr:=371
abbrev cE:Addr:=343
abbrev aW:Addr:=364
abbrev bb:Addr:=350
abbrev bC:Addr:=413
abbrev bH:Addr:=406
abbrev cn:Addr:=392
abbrev bc:Addr:=385
abbrev dU:Addr:=420
def dY:List (Str×Addr):=[("nothing",187),("part",188),("move",189),("cut",190),("put",191),("out",192),("mark",193),("note",194),("line",195),("strike",196),("cell",197),("leave",198),("back",199),("again",200),("bring",201),("drop",202),("pour",203)]
def cN:List (Str×Addr):=[("nothing",432),("part",433),("move",434),("cut",435),("put",436),("out",437),("mark",438),("note",439),("line",440),("strike",441),("cell",442),("leave",443),("back",444),("again",445),("bring",446),("drop",447),("pour",448)]
abbrev MS:List (Addr×List V):=[(dm,[.str "read",.str "note",.str "write",.str "give"]),(fW,[.str "",.int 0]),(fR,[.str "row",.str "column"]),(dB,[.str "ahead",.str "behind"]),(187,[]),(188,[.ref bA]),(189,[.ref cP,.ref bA]),(190,[.ref cP]),(191,[.ref bA,.ref bx,.ref fj]),(192,[.ref bA,.ref cJ]),(193,[.ref bA,.ref da,.ref da,.ref bh,.ref b_]),(194,[.ref bA,.ref da,.ref da,.ref bh]),(195,[.ref bA,.ref hB,.ref b9]),(196,[.ref bA,.ref cP]),(197,[.ref bA,.ref cP,.ref cP,.ref bW]),(198,[.ref bA,.ref f',.ref fq,.ref fx]),(199,[.ref bS]),(200,[.ref bS]),(201,[.ref bh]),(202,[.ref bh]),(203,[.ref eF]),(432,[]),(433,[.ref aW]),(434,[.ref bU,.ref aW]),(435,[.ref bU]),(436,[.ref aW,.ref bc]),(437,[.ref aW]),(438,[.ref aW,.ref cn,.ref cn,.ref bb,.ref bH]),(439,[.ref aW,.ref cn,.ref cn,.ref bb]),(440,[.ref aW,.ref bb,.ref bO]),(441,[.ref aW,.ref bU]),(442,[.ref aW,.ref bU,.ref bU,.ref bC]),(443,[.ref aW,.ref bb,.ref bb,.ref dU]),(444,[.ref cE]),(445,[.ref cE]),(446,[.ref bb]),(447,[.ref bb]),(448,[.ref dj])]
structure Txt(K:PySem.W.Frag)(mg:Str->Option Value)(tk:Str->Tok):Prop where
 lQ:mg "ValueError"=none
 kX:mg "all"=none
 rh:mg "bool"=none
 iy:mg "enumerate"=none
 gF:mg "int"=none
 aw:mg "isinstance"=none
 bT:mg "len"=none
 Ef:mg "list"=none
 qO:mg "max"=none
 gA:mg "range"=none
 MZ:mg "set"=none
 eH:mg "str"=none
 cx:mg "tuple"=none
 xR:mg "zip"=none
 kE:mg "MOST_DIGITS"=some (.int 7 (tk "MOST_DIGITS"))
 jR:mg "MOST_LETTERS"=some (.int 8 (tk "MOST_LETTERS"))
 kK:mg "MOST_NUMBER"=some (.int 1000000 (tk "MOST_NUMBER"))
 gR:mg "MOST_SIGNS"=some (.int 12 (tk "MOST_SIGNS"))
 dm:mg "LEAVES"=some (.ref dm)
 fW:mg "MAIN"=some (.ref fW)
 fR:mg "WAYS"=some (.ref fR)
 dB:mg "WHERES"=some (.ref dB)
 eG:mg "FORMS"=some (.ref eG)
 cR:mg "READERS"=some (.ref cR)
 m3:mg "FolkError"=some (.ref cQ)
 mB:XC K cQ
 b0:mg "NoDeed"=some (.ref aq)
 bZ:XC K aq
 pO:mg "NoLeave"=some (.ref de)
 qS:mg "NoPast"=some (.ref ej)
 uX:mg "NoRow"=some (.ref fB)
 vY:mg "NoSet"=some (.ref fA)
 oQ:mg "NoThing"=some (.ref c_)
 t9:mg "Poured"=some (.ref eg)
 uC:mg "Unlike"=some (.ref dW)
 gM:Nm K aq cQ
def p'{A B:Prop}(h:c=true)(a:A):if c=true then A else B:=by rw[q0 h];exact a
def dO{A B:Prop}(h:c=false)(b:B):if c=true then A else B:=by rw[qq (by rw[h];decide)];exact b
def oO(h:n≤1000):n≤sizeLine:=qj (aC h)
inductive El(vs:List V)(H:Hp)(Q:VK)(_:XK):Prop
 |mk(v ds:_)(_:vs=[v])(_:DT H v (.tuple ds))(_:cw ds)(_:∀H',ag H H'->Q (.str (f_ ds)) H')
inductive Eh(vs:List V)(H:Hp)(Q:VK)(_:XK):Prop
 |mk(v d:_)(_:vs=[v])(_:DT H v d)(_:nr d)(_:∀H',ag H H'->Q (.str (GI d)) H')
inductive F7(vs:List V)(H:Hp)(Q:VK)(_:XK):Prop
 |mk(v d:_)(_:vs=[v])(_:DT H v d)(_:sW d)(_:∀H',ag H H'->Q (.str (Cd d)) H')
section
variable {K:PySem.W.Frag}{vs:List V}{H:Hp}{Q:VK}{E:XK}
end
inductive pC:PyData->Prop
 |a':pC .none
 |str (z:Str):z≠""->pC (.str z)
 |name (ds:List PyData):cw ds->pC (.tuple ds)
inductive CQ(vs:List V)(H:Hp)(Q:VK)(_:XK):Prop
 |mk(v d:_)(_:vs=[v])(_:DT H v d)(_:pC d)(_:∀H',ag H H'->Q (.str (i5 d)) H')
inductive ET(vs:List V)(H:Hp)(Q:VK)(_:XK):Prop
 |mk(v ds ws:_)(_:vs=[v])(_:DT H v (.tuple ds))(_:Wt ds ws)(_:∀H' p,ag H H'->H' p=some (.lst (ws.map V.str))->Q (.ref p) H')
def bJ(h:k≠w):decide (V.str k=V.str w)=false:=decide_eq_false λz=>h (V.str.inj z)
def xD(h:b=.none\/∃n,b=.tuple n/\cw n):pC b:=by
 rcases h with rfl|⟨n,rfl,hn⟩
 ·exact .a'
 ·exact .name n hn
def L8(h:rn d):pC d:=by
 rcases h with rfl|⟨z,rfl,hz,_⟩
 ·exact .a'
 ·exact .str z hz
def Bn{A B C:Prop}(h:k=a\/k=b)(l:(if decide (V.str k=V.str b)=true then B else C)->A)(r:B):if decide (V.str k=V.str a)=true then(if true=true then B else C) else A:=by
 by_cases e:k=a
 ·rw[q0 (qs (by rw[e])),q0 rfl];exact r
 ·rw[qq (by rw[bJ e];decide)]
  refine l ?_;rw[q0 (qs (by rw[h.resolve_left e]))];exact r
def Py(w:Str)(n:Int)(hs:List PyData)(b:PyData)(ws:List Str):Str:=Txt.join " " (([w,toString n,Txt.join "," (hs.map cT),cz b]:List Str)++ws)
structure sv(H:Hp)(v:V)(w:Str)(n:Int)(hs:List PyData)(b:PyData)(ws:List Str):Prop where
 at':∃q hq vb vx ds,v=.ref q/\H q=some (.tup [.str w,.int n,hq,vb,vx])/\DT H hq (.tuple hs)/\DT H vb b/\DT H vx (.tuple ds)/\Wt ds ws
 wl:w.length≤8
 nn:Nb n
 hl:hs.length≤10
 hf:∀d∈hs,Flat1 d
 bo:CD b
inductive Fb(vs:List V)(H:Hp)(Q:VK)(_:XK):Prop
 |mk(v w n hs b ws:_)(_:vs=[v])(_:sv H v w n hs b ws)(_:∀H',ag H H'->Q (.str (Py w n hs b ws)) H')
def BK(h:Nb n):n.natAbs.log2<1920:=((uw (H:=λ_=>none) (DT.int n) (.inr {n,Y,h})).1.resolve_left (λ⟨_,e⟩=>nomatch e)).elim λi e=>by
 obtain⟨e,h⟩:=e;cases e;exact h
def vQ(h:CD b):(cz b).length≤100:=by
 rcases h with rfl|⟨a,c,rfl,ha,hc⟩
 ·decide
 ·have q:=my "." [a,c]
  have e:(".":Str).length=1:=rfl;rw[e]at q;have d:(List.map (λx=>x.length) [a,c]).sum=a.length+(c.length+0):=rfl;rw[d]at q;show(Txt.join "." [a,c]).length≤100;have f:[a,c].length=2:=rfl;omega
def IA{w:Str}{n:Int}{hs:List PyData}{b:PyData}{ws:List Str}(h1:w.length≤8)(h2:Nb n)(f:hs.length≤10)(i:∀d∈hs,Flat1 d)(g:CD b)(h6:ws.length≤15/\∀w∈ws,w.length≤100) :
  ((([w,toString n,Txt.join "," (hs.map cT),cz b]:List Str)++ws).map (·.length)).sum+(([w,toString n,Txt.join "," (hs.map cT),cz b]:List Str)++ws).length * (" ":Str).length≤16777216:=by
 have a:=pw (ws:=([w,toString n,Txt.join "," (hs.map cT),cz b]:List Str)++ws) (c:=100) λx e=>by
  rcases zf.mp e with e|e
  ·simp only[List.mem_cons,List.not_mem_nil,or_false]at e
   rcases e with rfl|rfl|rfl|rfl
   ·omega
   ·exact qg (BW (d:=.int n) (.inr ⟨n,Y,h2⟩)) ⋯
   ·exact vG f i
   ·exact vQ g
  ·exact h6.2 x e
 have h:(" ":Str).length=1:=rfl
 have hl:(([w,toString n,Txt.join "," (hs.map cT),cz b]:List Str)++ws).length=4+ws.length:=by rw[qu];rfl
 rw[hl]at a ⊢;rw[h];have:=h6.1;omega
def HZ(a c:Str):Txt.join "." [a,c]=a++"."++c:=by
 show Builtin.Str.glued "." [a,c]=_;unfold Builtin.Str.glued;rfl
def mX(hw:∀w∈ws,a8 w)(h:eC ws ds):cw ds:=by
 obtain⟨w,n,rfl,hm,h1,h2⟩:=h;refine .inr {w,[.int n],Y,hE (hw w hm),mi (hw w hm),bK (hw w hm),(ze rfl),λx a=>?_};rw[zh.mp a];exact{n,Y,(),()}
def jX(hw:∀w∈ws,a8 w)(h:dr ws ds):cw ds:=h.elim .inl (mX hw)
def oq(hw:∀w∈ws,a8 w)(h:nh ws ds):cw ds:=by
 obtain⟨w,n,i,rfl,hm,h1,h2,c,b⟩:=h;refine .inr {w,[.int n,.int i],Y,hE (hw w hm),mi (hw w hm),bK (hw w hm),(ze rfl),λx a=>?_}
 simp only[List.mem_cons,List.not_mem_nil,or_false]at a
 rcases a with rfl|rfl
 ·exact⟨n,Y,(),()⟩
 ·exact⟨i,Y,(),()⟩
def vH(hw:∀w∈ws,a8 w)(h:gG ws d):nr d:=by
 obtain⟨ds,z,rfl,h1,h2⟩:=h;exact{ds,z,Y,oq hw h1,h2}
def Pm:∀c∈("abcdefghijklmnopqrstuvwxyz .,":Str).cps.toList,PyData.strOk {#[c]}=true:=∅
def O0(hw:∀w∈ws,a8 w)(h:iD ws d):sW d:=by
 rcases h with⟨c,rfl,e⟩|⟨z,rfl,a⟩|⟨ds,rfl,b⟩
 ·exact .inl ⟨_,Y,by show 1≤8;decide,Pm c e⟩
 ·exact .inr (.inl ⟨z,Y,bK a,mi a⟩)
 ·exact .inr (.inr ⟨ds,Y,jX hw b⟩)
def x'(a:∀n,P n->cw n)(h:GX P b):b=.none\/∃n,b=.tuple n/\cw n:=by
 rcases h with rfl|⟨n,rfl,hn⟩
 ·exact .inl rfl
 ·exact .inr ⟨n,Y,a n hn⟩
def HA(h:PV d):rn d:=by
 rcases h with rfl|⟨z,rfl,hz⟩
 ·exact .inl rfl
 ·exact .inr ⟨z,Y,hE hz,bK hz⟩
def Di{b:Type}{P:b->Prop}{a:b}(h:P a):∀x∈[a],P x:=λx c=>by rw[zh.mp c];exact h
def Oi{c:Type}{P:c->Prop}{a b:c}(h:P a)(h2:P b):∀x∈[a,b],P x:=λx d=>by
 simp only[List.mem_cons,List.not_mem_nil,or_false]at d
 rcases d with rfl|rfl
 ·exact h
 ·exact h2
def yL:Fm->Addr
 |.part=>bA|.name=>cP|.vu=>bx|.signs=>fj|.pX=>cJ|.side=>da|.word=>bh|.won=>b_|.way=>hB|.line=>b9|.GS=>bW|.hand=>f'|.leave=>fq|.truth=>fx|.num=>bS|.counts=>eF
structure Md(H:Hp):Prop where
 way:H fR=some (.tup [.str "row",.str "column"])
 Sz:H dm=some (.tup [.str "read",.str "note",.str "write",.str "give"])
 SV:H dB=some (.tup [.str "ahead",.str "behind"])
 SJ:∀z,match fV dY z with
  |some a=>∃fs,cF z=some fs/\H a=some (.tup (fs.map λf=>.ref (yL f)))
  |none=>cF z=none
def Md.same(m:Md H)(s:ag H H'):Md H':={s _ _ m.way,s _ _ m.Sz,s _ _ m.SV,λz=>by
 have h:=m.SJ z
 split at h
 ·obtain⟨fs,h1,h2⟩:=h;exact{fs,h1,s _ _ h2}
 ·exact h}
inductive spT(m:Th->Bool)(vs:List V)(H:Hp)(Q:VK)(_:XK):Prop
 |mk(v d:_)(_:vs=[v])(_:TV H v d)(_:∀H',ag H H'->Q (.bl (m d)) H')
inductive kA(m:List Str->Th->Bool)(vs:List V)(H:Hp)(Q:VK)(_:XK):Prop
 |mk(p ws v d:_)(_:vs=[.ref p,v])(_:Md H)(_:RL H p ws)(_:TV H v d)(_:∀H',ag H H'->Q (.bl (m ws d)) H')
def Cv:Sp:=kA gP
def T5(a:Fm):Sp:=kA λws=>l6 ws a
def jC(f:Addr)(sp:Sp):Prop:=∃a,f=yL a/\sp=T5 a
inductive FV(vs:List V)(H:Hp)(Q:VK)(_:XK):Prop
 |mk(p ws n v d:_)(_:vs=[.ref p,.int n,v])(_:Md H)(_:RL H p ws)(_:TV H v d)(_:∀H',ag H H'->Q (.bl (bX ws n d)) H')
def Af:Sp:=kA c9
inductive wI(vs:List V)(H:Hp)(Q:VK):Prop
 |mk(v d n:_)(_:vs=[v,.int n])(_:TV H v d)(_:Q (.bl (mY n d)) H)
def vr(h:spT m vs H Q E):vs.length=1:=by obtain⟨_,_,rfl,_⟩:=h;rfl
def eX(h:kA m vs H Q E):vs.length=2:=by obtain⟨_,_,_,_,rfl,_⟩:=h;rfl
def Bo:Sp:=λvs H Q _=>wI vs H Q
inductive E2(vs:List V)(H:Hp)(Q:VK)(_:XK):Prop
 |mk(v d n:_)(_:vs=[v,.int n])(_:TV H v d)(_:Q (.bl (dA n d)) H)
inductive Fw(vs:List V)(H:Hp)(Q:VK)(_:XK):Prop
 |mk(v d p zs:_)(_:vs=[v,.ref p])(_:TV H v d)(_:H p=some (.tup (List.map V.str zs)))(_:Q (.bl (cH zs d)) H)
def Ae:Sp:=spT cO
def Gx:Sp:=spT eZ
def Gc:Sp:=spT iv
def EI:Sp:=spT dJ
def Bq:Sp:=kA fP
def De:Sp:=kA a_
def GB:Sp:=kA du
def Gq:Sp:=kA kS
def A3:Sp:=kA fE
def BG:Sp:=kA o6
def Dn:Sp:=kA fS
def CY:Sp:=kA eI
def BS:Sp:=kA dF
def GD:Sp:=kA bN
def C6:Sp:=kA bu
def AC:Sp:=kA λ_=>cO
def D8:Sp:=kA λ_=>Ep
def Ey:Sp:=kA λ_=>nG
def D1:Sp:=kA λ_=>n5
def DH:Sp:=kA λ_=>(cH ["row","column"])
def B3:Sp:=kA λ_=>(cH ["read","note","write","give"])
def CV:Sp:=kA λ_=>(dA 1)
section
variable {vs:List V}{H:Hp}{Q:VK}{E:XK}
end
def n8(hw:∀w∈ws,a8 w)(h:eC ws ds):ij (.tuple ds) (f_ ds):=by
 obtain⟨w,n,rfl,hm,h1,h2⟩:=h;exact{w,n,Y,hw w hm,{(),()},wC (hE (hw w hm))}
def jO(hw:∀w∈ws,a8 w)(h:dr ws ds):jT (.tuple ds) (f_ ds):=by
 rcases h with rfl|h
 ·exact .inl ⟨Y,MB⟩
 ·exact .inr (n8 hw h)
def D'(hw:∀w∈ws,a8 w)(h:nh ws ds):uL (.tuple ds) (f_ ds):=by
 obtain⟨w,n,i,rfl,hm,h1,h2,b,a⟩:=h;exact{w,n,i,Y,hw w hm,{(),()},{(),()},wC (hE (hw w hm))}
def uT(hw:∀w∈ws,a8 w)(h:gG ws d):xy d (GI d):=by
 obtain⟨ds,z,rfl,h1,h2⟩:=h;refine{_,_,z,Y,D' hw h1,?_};show(z = "ahead" /\ f_ ds++(if z = "ahead" then("<":Str) else ">")=_)\/(z = "behind" /\ f_ ds++(if z = "ahead" then("<":Str) else ">")=_);rcases h2 with rfl|rfl
 ·exact .inl ⟨Y,by rw[q0 rfl]⟩
 ·exact .inr ⟨Y,by rw[qq ∅]⟩
def Ea(hw:∀w∈ws,a8 w)(h:iD ws d):lB d (Cd d):=by
 rcases h with⟨c,rfl,e⟩|⟨z,rfl,a⟩|⟨ds,rfl,b⟩
 ·exact .inl ⟨c,Y,e,Y⟩
 ·exact .inr (.inl ⟨z,Y,a,Y⟩)
 ·exact .inr (.inr ⟨_,_,Y,jO hw b,Y⟩)
def FQ(hw:∀w∈ws,a8 w)(h:xO ws d):Nx d (cz d):=by
 rcases h with rfl|⟨a,b,rfl,h1,h2⟩
 ·exact .inl ⟨Y,Y⟩
 ·exact .inr ⟨a,b,Y,hw a h1,h2,Y⟩
def vX(h:(decide (0<z.cps.size)&&(decide (z.cps.size≤8)&&z.cps.toList.all λc=>decide (97≤c/\c≤122)))=true):a8 z:=by
 simp only[Bool.and_eq_true]at h
 exact{qB h.1,qB h.2.1,λc a=>qB (zk.mp h.2.2 c a)}
def PB(hw:∀w∈ws,a8 w)(h1:1≤ws.length)(h6:ws.length≤6)(m:num≤1000000)(h:bY ws num wt):∃aK,Wt wt aK/\gT wt aK:=by
 have no:∀{k:Str},decide (k = "put")=false->decide (k = "out")=false->mv k [] []:=λa b=>.no (of_decide_eq_false a) (of_decide_eq_false b)
 have f:∀{k:Str} {rs:List Rm} {ds:List PyData} {zs:List Str},dP k=some rs->F3 rs ds zs->decide (k = "put")=false->decide (k = "out")=false->gT (.str k::ds) (k::zs):=λ{k rs ds zs} a b c d=>by
  have:=gT.mk k rs ds zs [] [] a b (no c d)
  rwa [yh,yh]at this
 have o:∀{z:Str},a8 z->i5 (.str z)=z:=λh=>iV (hE h)
 cases h with
 |nothing=>exact{_,.bg "nothing" [] (by simp) ⋯ (λ_ z=>nomatch z),f (rs:=[]) rfl .nil ∅ ∅}
 |part p F=>exact{_,.names "part" [p] (by simp) (Nat.le_of_ble_eq_true rfl) (Di (jX hw F)),f (rs:=[.part]) rfl (.cons (jO hw F) .nil) ∅ ∅}
 |move n p h1 h2=>exact{_,.names "move" [n,p] (by simp) (Nat.le_of_ble_eq_true rfl) (Oi (mX hw h1) (jX hw h2)),f (rs:=[.name,.part]) rfl (.cons (n8 hw h1) (.cons (jO hw h2) .nil)) ∅ ∅}
 |cut n h1=>exact{_,.names "cut" [n] (by simp) (Nat.le_of_ble_eq_true rfl) (Di (mX hw h1)),f (rs:=[.name]) rfl (.cons (n8 hw h1) .nil) ∅ ∅}
 |lW p n h1 h2=>exact{_,.names "strike" [p,n] (by simp) (Nat.le_of_ble_eq_true rfl) (Oi (jX hw h1) (mX hw h2)),f (rs:=[.part,.name]) rfl (.cons (jO hw h1) (.cons (n8 hw h2) .nil)) ∅ ∅}
 |put p b A h1 h2 j g r =>
  refine{_,.put p b A (jX hw h1) (x' (λ_=>oq hw) h2) g λd E=>O0 hw (r d E),.mk "put" [.part,.snN] [.tuple p,b] [f_ p,i5 b] [.tuple A] (A.map Cd) rfl (.cons (jO hw h1) (.cons ?_ .nil)) (.put A _ rfl (F2.map λd E=>Ea hw (r d E)) (by rw[qf];exact g))};rcases h2 with rfl|⟨n,rfl,m⟩
  ·exact .inl ⟨Y,Y⟩
  ·exact .inr (by rw[fu (oq hw m)];exact D' hw m)
 |out p u h1 h2 j g r =>
  refine{_,.out p u (jX hw h1) j λn m=>oq hw (g n m),.mk "out" [.part] [.tuple p] [f_ p] [.tuple (u.map .tuple)] (u.map f_) rfl (.cons (jO hw h1) .nil) (.out _ _ rfl ?_ (by rw[qf];exact j))}
  have:∀l:List (List PyData),(∀n∈l,nh ws n)->F2 uL (l.map .tuple) (l.map f_):=λl=>by
   induction l with
   |nil=>exact λ_=>.nil
   |cons a l G=>exact λh=>.cons (D' hw (h a qo)) (G λx s=>h x (ql _ s))
  exact this u g
 |mark p C D z v h1 h2 j g r =>
  refine{_,.mark "mark" p C D [.str z,v] (.inl rfl) (jX hw h1) (vH hw h2) (vH hw j) (ze rfl) (Oi (.inr {z,Y,hE g,bK g}) (HA r)),f (rs:=[.part,.side,.side,.plain,.plainN]) rfl (.cons (jO hw h1) (.cons (uT hw h2) (.cons (uT hw j) (.cons (show cj (.str z) (i5 (.str z)) from by rw[o g];exact{Y,g}) (.cons ?_ .nil))))) ∅ ∅};rcases r with rfl|⟨y,rfl,hy⟩
  ·exact .inl ⟨Y,Y⟩
  ·exact .inr (by rw[o hy];exact⟨Y,hy⟩)
 |note p C D z h1 h2 j g=>exact{_,.mark "note" p C D [.str z] (.inr rfl) (jX hw h1) (vH hw h2) (vH hw j) (ze rfl) (Di (.inr {z,Y,hE g,bK g})),f (rs:=[.part,.side,.side,.plain]) rfl (.cons (jO hw h1) (.cons (uT hw h2) (.cons (uT hw j) (.cons (show cj (.str z) (i5 (.str z)) from by rw[o g];exact{Y,g}) .nil)))) ∅ ∅}
 |line p z v h1 h2 j =>
  refine{_,.line p z v (jX hw h1) h2 (x' (λ_=>mX hw) j),f (rs:=[.part,.plain,.fD]) rfl (.cons (jO hw h1) (.cons ?_ (.cons ?_ .nil))) ∅ ∅}
  ·rcases h2 with rfl|rfl
   ·exact⟨Y,vX ∅⟩
   ·exact⟨Y,vX ∅⟩
  ·rcases j with rfl|⟨n,rfl,m⟩
   ·exact .inl ⟨Y,Y⟩
   ·exact .inr (by rw[fu (mX hw m)];exact n8 hw m)
 |cell p a b z h1 h2 j g =>
  refine{_,.cell p a b z (jX hw h1) (mX hw h2) (mX hw j) (by rcases g with rfl|g;decide;exact bK g),f (rs:=[.part,.name,.name,.dD]) rfl (.cons (jO hw h1) (.cons (n8 hw h2) (.cons (n8 hw j) (.cons ?_ .nil)))) ∅ ∅};rcases g with rfl|g
  ·exact .inl ⟨Y,by rw[q0 rfl]⟩
  ·exact .inr (by rw[qq (hE g)];exact⟨Y,g⟩)
 |leave p w t y h1 h2 j =>
  have B:a8 t:=by
   have H:∀t∈(["read","note","write","give"]:List Str),(decide (0<t.cps.size)&&(decide (t.cps.size≤8)&&t.cps.toList.all λc=>decide (97≤c/\c≤122)))=true:=∅
   exact vX (H t j)
  exact{_,.leave p w t y (jX hw h1) (hE (hw w h2)) (bK (hw w h2)) (hE B) (bK B),f (rs:=[.part,.plain,.plain,.truth]) rfl (.cons (jO hw h1) (.cons {Y,hw w h2} (.cons {Y,B} (.cons {y,Y,Y} .nil)))) ∅ ∅}
 |back k n h1 h2 j =>
  have q:Nb n:={(),()};rcases h1 with rfl|rfl
  ·exact⟨_,.bg "back" [.int n] (by simp) (Nat.le_of_ble_eq_true rfl) (Di ⟨.inr ⟨n,Y,q⟩,λz=>nomatch z⟩),f (rs:=[.number]) rfl (.cons ⟨n,Y,q,Y⟩ .nil) ∅ ∅⟩
  ·exact⟨_,.bg "again" [.int n] (by simp) (Nat.le_of_ble_eq_true rfl) (Di ⟨.inr ⟨n,Y,q⟩,λz=>nomatch z⟩),f (rs:=[.number]) rfl (.cons ⟨n,Y,q,Y⟩ .nil) ∅ ∅⟩
 |jF k z h1 h2 =>
  rcases h1 with rfl|rfl
  ·exact⟨_,.bg "bring" [.str z] (by simp) (Nat.le_of_ble_eq_true rfl) (Di ⟨.inl ⟨z,Y,bK h2⟩,λe=>hE h2 (PyData.str.inj e)⟩),f (rs:=[.plain]) rfl (.cons ⟨Y,h2⟩ .nil) ∅ ∅⟩
  ·exact⟨_,.bg "drop" [.str z] (by simp) (Nat.le_of_ble_eq_true rfl) (Di ⟨.inl ⟨z,Y,bK h2⟩,λe=>hE h2 (PyData.str.inj e)⟩),f (rs:=[.plain]) rfl (.cons ⟨Y,h2⟩ .nil) ∅ ∅⟩
 |lO cs h2 j =>
  cases cs with
  |nil=>rw[←h2]at h1;exact absurd h1 ⋯
  |cons c cs =>
   rw[zi]at h2
   have q:∀x∈c::cs,Nb x:=λx s=>{(j x s).1,by have:=(j x s).2;omega}
   refine{_,.lO c (cs.map .int) (by rw[qf];omega) λx s=>?_,f (rs:=[.counts]) rfl (.cons {c::cs,wg _ _,by rw[zi];omega,Y,q,?_} .nil) ∅ ∅}
   ·obtain⟨i,hi,rfl⟩:=qk.mp (show x∈(c::cs).map PyData.int from s)
    exact .inr {i,Y,q i hi}
   ·show Txt.join "," (((c::cs).map PyData.int).map cT)=_
    rw[zq];rfl
def GU:Rm->Addr
 |.number=>cE|.plain=>bb|.name=>bU|.part=>aW|.fD=>bO|.snN=>bc|.side=>cn|.plainN=>bH|.dD=>bC|.truth=>dU|.counts=>dj
structure Mr(H:Hp):Prop where
 md:Md H
 main:H fW=some (.tup [.str "",.int 0])
 SM:∀z,match fV cN z with
  |some a=>∃rs,dP z=some rs/\H a=some (.tup (rs.map λr=>.ref (GU r)))
  |none=>dP z=none
theorem Mr.same(m:Mr H)(s:ag H H'):Mr H':={m.md.same s,s _ _ m.main,λz=>by
 have h:=m.SM z
 split at h
 ·obtain⟨fs,h1,h2⟩:=h;exact{fs,h1,s _ _ h2}
 ·exact h}
def N7(n:Int):Prop:=0≤n/\n<10 ^ 7
def dM(d:PyData)(z:Str):Prop:=∃n,d=.int n/\N7 n/\z=toString n
def bE(d:PyData)(z:Str):Prop:=∃w n,d=.tuple [.str w,.int n]/\a8 w/\N7 n/\z=Txt.join "." [w,toString n]
inductive ng(P:PyData->Str->Prop)(vs:List V)(H:Hp)(Q:VK)(E:XK):Prop
 |mk(z:Str)(h0:vs=[.str z])(h1:Mr H)(h2:uJ z)(h3:z.length≤1000)(h4:∀d v H',P d z->ag H H'->DT H' v d->Q v H')(h5:(∀d,¬P d z)->∀H',ag H H'->E (.ref aq) none H')
def gU(h:ng P vs H Q E):vs.length=1:=by obtain⟨_,rfl,_⟩:=h;rfl
def B5:Sp:=ng dM
def Cw:Sp:=ng cj
def BM:Sp:=ng bE
def dH(d:PyData)(z:Str):Prop:=∃w n i,d=.tuple [.str w,.int n,.int i]/\a8 w/\N7 n/\N7 i/\z=Txt.join "." [w,toString n,toString i]
def iG(c:Str)(d0:PyData)(P:PyData->Str->Prop)(d:PyData)(z:Str):Prop:=(z=c/\d=d0)\/(z≠c/\P d z)
theorem iG.no{d0:PyData}(e:z≠c)(no:∀d,¬P d z):∀d,¬iG c d0 P d z:=λd h=>by
 rcases h with⟨a,_⟩|⟨_,h⟩
 ·exact e a
 ·exact no d h
def SU(d:PyData)(z:Str):Prop:=∃b,d=.bool b/\z=if b=true then("yes":Str) else "no"
def Bd:Sp:=ng dH
def CZ:Sp:=ng (iG "." (.tuple [.str "",.int 0]) bE)
def C8:Sp:=ng (iG "-" .none bE)
def ED:Sp:=ng (iG "-" .none dH)
def AK:Sp:=ng (iG "-" .none cj)
def Fu:Sp:=ng (iG "!" (.str "") cj)
def DL:Sp:=ng SU
def n9(d:PyData)(z:Str):Prop:=∃ds,d=.tuple ds/\F2 dM ds (Txt.split z {#[44]})
def C3(d:PyData)(z:Str):Prop:=∃ds,d=.tuple ds/\F2 cj ds (Txt.split z {#[46]})
def Ai:Sp:=ng n9
def Fc:Sp:=ng (iG "-" .none C3)
def jE(d:PyData)(z:Str):Prop:=∃ds y s,d=.tuple [ds,.str s]/\dH ds y/\((s = "ahead" /\ z=y++({#[60]}:Str))\/(s = "behind" /\ z=y++({#[62]}:Str)))
def Ee:Sp:=ng jE
abbrev l4:PyData->Str->Prop:=iG "." (.tuple [.str "",.int 0]) bE
inductive fm:PyData->Str->Prop
 |qJ {w z:Str} (h:a8 w) (e:z=(⟨#[42]⟩:Str)++w):fm (.tuple [.str "picture",.str w]) z
 |ref {p:PyData} {y z:Str} (h:l4 p y) (e:z=(⟨#[35]⟩:Str)++y):fm (.tuple [.str "refer",p]) z
 |txt {z:Str} (h1:∀y,z≠(⟨#[42]⟩:Str)++y) (h2:∀y,z≠(⟨#[35]⟩:Str)++y):fm (.str (if z=("_":Str) then " " else z)) z
def Ce:Sp:=ng fm
inductive mS(k:Str):List PyData->List Str->Prop
 |put {sg:List PyData} {ys:List Str} (hk:k=("put":Str)) (h:F2 fm sg ys):mS k [.tuple sg] ys
 |out {sg:List PyData} {ys:List Str} (h0:k≠("put":Str)) (hk:k=("out":Str)) (h:F2 dH sg ys):mS k [.tuple sg] ys
 |no (h0:k≠("put":Str)) (h1:k≠("out":Str)):mS k [] []
def mS.bg(h:mS k es ys):es.length≤1:=by cases h <;> exact ze rfl
structure Bm(ys:List Str):Prop where
 bg:ys.length≤1001
 DD:∀y∈ys,uJ y/\y.length≤1000
inductive zA(vs:List V)(H:Hp)(Q:VK)(E:XK):Prop
 |mk (k:Str) (p:Addr) (ys:List Str) (h0:vs=[.str k,.ref p]) (h1:Mr H) (h2:uJ k) (h3:H p=some (.lst (ys.map V.str))) (h4:Bm ys)
   (h5:∀es q xs H',mS k es ys->H q=none->ag H H'->H' q=some (.lst xs)->c8 H' xs es->Q (.ref q) H') (h6:(∀es,¬mS k es ys)->∀H',ag H H'->E (.ref aq) none H'):zA vs H Q E
def Be:Sp:=λvs H Q E=>zA vs H Q E
def zC:Rm->PyData->Str->Prop
 |.number=>dM|.plain=>cj|.name=>bE|.part=>l4|.fD=>iG "-" .none bE|.snN=>iG "-" .none dH|.side=>jE|.plainN=>iG "-" .none cj|.dD=>iG "!" (.str "") cj|.truth=>SU|.counts=>n9
def NX(rs:List Rm)(ds:List PyData)(zs:List Str):Prop:=ds.length=min rs.length zs.length/\∀(i:Nat) (r:Rm) (z:Str),rs[i]?=some r->zs[i]?=some z->∃d,ds[i]?=some d/\zC r d z
inductive iK:List PyData->List Str->Prop
 |mk {k:Str} {rest:List Str} {rs:List Rm} {ds es:List PyData} (h1:dP k=some rs) (h2:NX rs ds rest) (h3:mS k es (rest.drop rs.length)):iK (.str k::(ds++es)) (k::rest)
inductive xH(vs:List V)(H:Hp)(Q:VK)(E:XK):Prop
 |mk (p:Addr) (zs:List Str) (h0:vs=[.ref p]) (h1:Mr H) (h3:H p=some (.lst (zs.map V.str))) (h4:Bm zs)
   (h5:∀ds v H',iK ds zs->ag H H'->DT H' v (.tuple ds)->Q v H') (h6:(∀ds,¬iK ds zs)->∀H',ag H H'->E (.ref aq) none H'):xH vs H Q E
def DY:Sp:=λvs H Q E=>xH vs H Q E
def gY(f:Addr)(sp:Sp):Prop:=∃r,f=GU r/\sp=ng (zC r)
inductive jP:PyData->Str->Prop
 |mk {z w zn zc zb:Str} {rest:List Str} {n c b:PyData} {ds:List PyData} (h0:Txt.split z ⟨#[32]⟩=w::zn::zc::zb::rest) (h1:dM n zn) (h2:n9 c zc) (h3:iG "-" .none C3 b zb) (h4:iK ds rest):jP (.tuple [.str w,n,c,b,.tuple ds]) z
theorem oo(a:∀d z,z.length≤1000->P d z->gB d=true):∀{ds:List PyData} {zs:List Str},(∀z∈zs,z.length≤1000)->F2 P ds zs->fG ds=true
 |_,_,_,.nil=>rfl
 |_,_,hz,.cons h t=>(qv _ _).mpr {a _ _ (hz _ qo) h,oo a (λz h=>hz z (ql _ h)) t}
theorem JE(a:∀d z,P d z->gB d=true):∀{ds:List PyData} {zs:List Str},F2 P ds zs->fG ds=true
 |_,_,.nil=>rfl
 |_,_,.cons h t=>(qv _ _).mpr {a _ _ h,JE a t}
def Dh(h:dM d z):gB d=true:=by obtain⟨n,rfl,_⟩:=h;rfl
def vB(h:cj d z):gB d=true:=by obtain⟨rfl,h⟩:=h;exact qs (e_ h)
def EH(h:bE d z):gB d=true:=by
 obtain⟨w,n,rfl,h,_⟩:=h;show(decide (w.length≤1000)&&true)=true;rw[qs (e_ h)];rfl
def Eg(h:dH d z):gB d=true:=by
 obtain⟨w,n,i,rfl,h,_⟩:=h;show(decide (w.length≤1000)&&true)=true;rw[qs (e_ h)];rfl
def oU{d0:PyData}(b:gB d0=true)(a:∀{d z},P d z->gB d=true)(h:iG c d0 P d z):gB d=true:=by
 rcases h with⟨_,rfl⟩|⟨_,h⟩
 ·exact b
 ·exact a h
def LV(h:l4 d z):gB d=true:=oU ∅ EH h
def Hl(a:z.length≤1000)(h:zC r d z):gB d=true:=by
 have sp:∀{s:Nat},∀y∈Txt.split z ⟨#[s]⟩,y.length≤1000:=λy c=>qg (jL c).2 a
 cases r with
 |number=>exact Dh h
 |plain=>exact vB h
 |name=>exact EH h
 |part=>exact LV h
 |fD=>exact oU rfl EH h
 |snN=>exact oU rfl Eg h
 |side =>
  obtain⟨ds,y,s,rfl,h1,h2⟩:=h;show(gB ds&&(decide (s.length≤1000)&&true))=true;rw[Eg h1];rcases h2 with⟨rfl,_⟩|⟨rfl,_⟩ <;> decide +kernel
 |plainN=>exact oU rfl vB h
 |dD=>exact oU ∅ vB h
 |truth=>obtain⟨b,rfl,_⟩:=h;rfl
 |counts =>
  obtain⟨ds,rfl,h⟩:=h;exact oo (λ_ _ _=>Dh) sp h
def AO(a:z.length≤1000)(h:fm d z):gB d=true:=by
 cases h with
 |@qJ w _ h e =>
  show(decide (("picture":Str).length≤1000)&&(decide (w.length≤1000)&&true))=true;rw[qs (e_ h)];decide +kernel
 |ref h e =>
  show(decide (("refer":Str).length≤1000)&&(gB _&&true))=true;rw[LV h];decide +kernel
 |txt h1 h2 =>
  split
  ·decide +kernel
  ·exact qs a
def F8(c:∀z∈zs,z.length≤1000)(h:iK ds zs):fG ds=true:=by
 cases h with
 |@mk k rest rs ds es h1 h2 g =>
  refine tw λd a=>?_;rcases qr.mp a with rfl|a
  ·exact qs (c _ qo)
  rcases zf.mp a with a|a
  ·obtain⟨i,hi,rfl⟩:=ye a
   have e:=h2.1
   have n:i<rs.length:=()
   have f:i<rest.length:=()
   obtain⟨d,j,l⟩:=h2.2 i _ _ (qm n) (qm f);rw[qm hi]at j;rw[qD j];exact Hl (c _ (ql _ (vk f))) l
  ·have b:∀z∈rest.drop rs.length,z.length≤1000:=λz h=>c z (ql _ (jm h))
   generalize rest.drop rs.length=ys at g b
   cases g with
   |put m h =>
    rw[zh.mp a];exact oo (λ_ _=>AO) b h
   |out o m h =>
    rw[zh.mp a];exact oo (λ_ _ _=>Eg) b h
   |no o h1=>exact nomatch a
def Ft(hw:Bm (Txt.split z {#[32]}))(h:jP d z):gB d=true:=by
 cases h with
 |@mk z w l e i rest n c b ds m h1 h2 j k =>
  rw[m]at hw;have a:∀y∈w::l::e::i::rest,y.length≤1000:=λy h=>(hw.DD y h).2;show(decide (w.length≤1000)&&(gB n&&(gB c&&(gB b&&(fG ds&&true)))))=true;have f:gB c=true:=Hl (r:=.counts) (a e (by simp)) h2
  have g:gB b=true:=oU rfl (λ{d y} h=>by
   obtain⟨ds,rfl,h⟩:=h
   exact JE (λ_ _=>vB) h) j
  rw[qs (a w List.mem_cons_self),Dh h1,f,g,F8 (λy h=>a y (by simp[h])) k];rfl
def Un(P:PyData->Str->Prop):Prop:=∀(d d':PyData) (z:Str),P d z->P d' z->d=d'
theorem lb(b:Un P):∀{ds a:List PyData} {zs:List Str},F2 P ds zs->F2 P a zs->ds=a
 |_,_,_,.nil,.nil=>rfl
 |_,_,_,.cons h t,.cons h' t'=>by rw[b _ _ _ h h',lb b t t']
def uR:Un dM:=λ_ _ _ ⟨n,e,h,c⟩ ⟨m,b,h',a⟩=>by rw[e,b,ml h.1 h'.1 (c.symm.trans a)]
def vT:Un cj:=λ_ _ _ ⟨e,_⟩ ⟨a,_⟩=>e.trans a.symm
def qQ(hw:a8 w)(b:N7 n):Txt.split (Txt.join "." [w,toString n]) "."=[w,toString n]:=iN (wg _ _) λx a=>by
 simp only[List.mem_cons,List.not_mem_nil,or_false]at a
 rcases a with rfl|rfl
 ·exact m8 hw
 ·exact pV b.1
def ub(hw:a8 w)(b:N7 n)(hi:N7 i):Txt.split (Txt.join "." [w,toString n,toString i]) "."=[w,toString n,toString i]:=iN (wg _ _) λx a=>by
 simp only[List.mem_cons,List.not_mem_nil,or_false]at a
 rcases a with rfl|rfl|rfl
 ·exact m8 hw
 ·exact pV b.1
 ·exact pV hi.1
def uO:Un bE:=λ_ _ _ ⟨w,n,e,hw,d,g⟩ ⟨i,j,f,c,a,b⟩=>by
 have h:=qQ hw d;rw[←g,b,qQ c a]at h;injection h with h1 h;injection h with h2 _;rw[e,f,h1,ml a.1 d.1 h2]
def mV:Un dH:=λ_ _ _ ⟨w,n,i,e,hw,f,hi,j⟩ ⟨l,m,k,g,d,a,b,c⟩=>by
 have h:=ub hw f hi;rw[←j,c,ub d a b]at h;injection h with h1 h;injection h with h2 h;injection h with h3 _;rw[e,g,h1,ml a.1 f.1 h2,ml b.1 hi.1 h3]
def j0{d0:PyData}(b:Un P):Un (iG c d0 P):=λ_ _ _ h h'=>by
 rcases h with⟨e,h⟩|⟨e,h⟩ <;> rcases h' with⟨a,h'⟩|⟨a,h'⟩
 ·exact h.trans h'.symm
 ·exact absurd e a
 ·exact absurd a e
 ·exact b _ _ _ h h'
def K6:∀r,Un (zC r)
 |.number=>uR
 |.plain=>vT
 |.name=>uO
 |.part=>j0 uO
 |.fD=>j0 uO
 |.snN=>j0 mV
 |.side=>λ_ _ _ ⟨ds,y,s,e,h,h2⟩ ⟨f,j,s',c,h',g⟩=>by
  rcases h2 with⟨rfl,d⟩|⟨rfl,d⟩ <;> rcases g with⟨rfl,a⟩|⟨rfl,a⟩
  ·have:=(kH (d.symm.trans a)).1;subst this;rw[e,c,mV _ _ _ h h']
  ·exact absurd (kH (d.symm.trans a)).2 ⋯
  ·exact absurd (kH (d.symm.trans a)).2 ⋯
  ·have:=(kH (d.symm.trans a)).1;subst this;rw[e,c,mV _ _ _ h h']
 |.plainN=>j0 vT
 |.dD=>j0 vT
 |.truth=>λ_ _ _ ⟨b,e,h⟩ ⟨i,c,h'⟩=>by
  rw[e,c];rw[h]at h'
  cases b <;> cases i <;> first|rfl|exact absurd h' ∅
 |.counts=>λ_ _ _ ⟨ds,e,h⟩ ⟨f,c,h'⟩=>by rw[e,c,lb uR h h']
def Nl:Un fm:=λ_ _ _ h h'=>by
 cases h with
 |qJ h e =>
  cases h' with
  |qJ h' a=>rw[(mm (e.symm.trans a)).2]
  |ref h' a=>exact absurd (mm (e.symm.trans a)).1 ⋯
  |txt h1 h2=>exact absurd e (h1 _)
 |ref h e =>
  cases h' with
  |qJ h' a=>exact absurd (mm (e.symm.trans a)).1 ⋯
  |ref h' a =>
   have:=(mm (e.symm.trans a)).2;subst this;rw[j0 uO _ _ _ h h']
  |txt h1 h2=>exact absurd e (h2 _)
 |txt h1 h2 =>
  cases h' with
  |qJ h' a=>exact absurd a (h1 _)
  |ref h' a=>exact absurd a (h2 _)
  |txt _ _=>rfl
def G5(h:iK ds zs)(h':iK b zs):ds=b:=by
 cases h with
 |@mk k rest rs ds es h1 h2 m =>
  cases h' with
  |@mk _ _ o b j f g a =>
   rw[h1]at f;cases f
   have r:ds=b:=by
    refine km λi=>?_
    by_cases hi:i<min rs.length rest.length
    ·obtain⟨d,a1,a2⟩:=h2.2 i _ _ (qm ()) (qm ())
     obtain⟨d',p,q⟩:=g.2 i _ _ (qm ()) (qm ());rw[a1,p,K6 _ _ _ _ a2 q]
    ·rw[kz (by rw[h2.1];omega),kz (by rw[g.1];omega)]
   have n:es=j:=by
    generalize rest.drop rs.length=ys at m a
    cases m with
    |put c h =>
     cases a with
     |put _ h'=>rw[lb Nl h h']
     |out e _ _=>exact absurd c e
     |no e _=>exact absurd c e
    |out e c h =>
     cases a with
     |put l _=>exact absurd l e
     |out _ _ h'=>rw[lb mV h h']
     |no _ h1=>exact absurd c h1
    |no e h1 =>
     cases a with
     |put c _=>exact absurd c e
     |out _ c _=>exact absurd c h1
     |no _ _=>rfl
   rw[r,n]
def ov:Un jP:=λ_ _ _ h h'=>by
 cases h with
 |mk l h1 h2 j k =>
  cases h' with
  |mk b d a c i =>
   rw[l]at b;cases b;obtain⟨ds,e,h2⟩:=h2;obtain⟨g,f,a⟩:=a;rw[uR _ _ _ h1 d,e,f,lb uR h2 a,G5 k i,j0 (λ_ _ _ ⟨ds,e,h⟩ ⟨g,f,h'⟩=>by rw[e,f,lb vT h h']) _ _ _ j c]
inductive rT(vs:List V)(H:Hp)(Q:VK)(E:XK):Prop
 |no (p:Addr) (v:V) (h0:vs=[.ref p,v]) (h1:lZ H "str" v false) (h2:∀H',ag H H'->E (.ref aq) none H'):rT vs H Q E
 |mk (p:Addr) (ws:List Str) (z:Str) (h0:vs=[.ref p,.str z]) (h1:Mr H) (h2:RL H p ws) (h3:uJ z) (h4:z.length≤10000) (h5:Bm (Txt.split z ⟨#[32]⟩))
   (h6:∀d v H',jP d z->c9 ws (cU d)=true->ag H H'->DT H' v d->Q v H') (h7:(∀d,jP d z->c9 ws (cU d)=false)->∀H',ag H H'->E (.ref aq) none H'):rT vs H Q E
def qY:Sp:=λvs H Q E=>rT vs H Q E
def Qr(h:qY vs H Q E):vs.length=2:=by rcases h with⟨_,_,rfl,_⟩|⟨_,_,_,rfl,_⟩ <;> rfl
theorem AZ{P:PyData->Str->Prop}{R:PyData->Prop}:∀{ds:List PyData} {zs:List Str},F2 P ds zs->(∀d z,d∈ds->z∈zs->P d z->R d)->∀d∈ds,R d
 |_,_,.nil,_=>λ_ h=>nomatch h
 |_,_,.cons h t,k=>λd a=>by
  rcases qr.mp a with rfl|a
  ·exact k _ _ qo qo h
  ·exact AZ t (λd z h1 h2=>k d z (ql _ h1) (ql _ h2)) d a
def fX:V->Option Bool
 |.ref a=>if a=aq then some true else if a=fA\/a=de\/a=ej\/a=fB\/a=c_\/a=eg\/a=dW then some false else none
 |.ty t=>if t = "ValueError" then some true else none
 |_=>none
def Dm{K:PySem.W.Frag}(xi:XI K aq)(cl:∃cd,PySem.W.clsIn K aq=some cd)(k_NoDeed:PySem.W.kitOne K (.ref aq) (.ref aq)=some true)(k_NoSet:PySem.W.kitOne K (.ref aq) (.ref fA)=some false)(k_NoLeave:PySem.W.kitOne K (.ref aq) (.ref de)=some false)(k_NoPast:PySem.W.kitOne K (.ref aq) (.ref ej)=some false)(k_NoRow:PySem.W.kitOne K (.ref aq) (.ref fB)=some false)(k_NoThing:PySem.W.kitOne K (.ref aq) (.ref c_)=some false)(k_Poured:PySem.W.kitOne K (.ref aq) (.ref eg)=some false)(k_Unlike:PySem.W.kitOne K (.ref aq) (.ref dW)=some false)(k_ValueError:PySem.W.kitOne K (.ref aq) (.type "ValueError")=some true):PU K aq fX:=by
 refine{xi,cl,λv u b r h=>?_}
 cases v with
 |ref a =>
  cases r;have h:(if a=aq then some true else if a=fA\/a=de\/a=ej\/a=fB\/a=c_\/a=eg\/a=dW then some false else none)=some b:=h
  split at h
  ·rename_i e;cases h;rw[e];exact k_NoDeed
  ·split at h
   ·rename_i e
    cases h;rcases e with rfl|rfl|rfl|rfl|rfl|rfl|rfl <;> assumption
   ·cases h
 |ty t =>
  cases r;have h:(if t = "ValueError" then some true else none)=some b:=h
  split at h
  ·rename_i e;cases h;rw[e];exact k_ValueError
  ·cases h
 |_=>exact nomatch h
structure Tx(ws:List Str)(z:Str):Prop where
 sh:uJ z
 len:z.length≤10000
 aK:Bm (Txt.split z {#[32]})
 nb:∀y∈Txt.split z {#[32]},32∉y.cps.toList
inductive tU(vs:List V)(H:Hp)(Q:VK):Prop
 |no (p:Addr) (v:V) (h0:vs=[.ref p,v]) (h1:lZ H "str" v false) (h5:∀H',ag H H'->Q (.bl true) H'):tU vs H Q
 |mk (p:Addr) (ws:List Str) (z:Str) (h0:vs=[.ref p,.str z]) (h1:Mr H) (h2:RL H p ws) (h3:Tx ws z) (h4:∀d,jP d z->c9 ws (cU d)=false) (h5:∀H',ag H H'->Q (.bl true) H'):tU vs H Q
def nN:Sp:=λvs H Q _=>tU vs H Q
def Rn(h:nN vs H Q E):vs.length=2:=by rcases h with⟨_,_,rfl,_⟩|⟨_,_,_,rfl,_⟩ <;> rfl
theorem rb(s:Nat):∀l:List Nat,∃xs:List (List Nat),xs≠[]/\jl s xs=l/\∀x∈xs,s∉x
 |[]=>{[[]],by simp,Y,λx b=>by rw[List.mem_singleton.mp b];simp}
 |c::l=>by
  obtain⟨xs,d,h1,h2⟩:=rb s l
  cases xs with
  |nil=>exact absurd rfl d
  |cons x xs =>
   by_cases e:c=s
   ·subst e
    refine{[]::x::xs,by simp,?_,λy a=>?_}
    ·show[]++c::jl c (x::xs)=_
     rw[h1];rfl
    ·rcases qr.mp a with rfl|a
     ·simp
     ·exact h2 y a
   ·refine⟨(c::x)::xs,by simp,?_,λy a=>?_⟩
    ·rw[←h1]
     cases xs <;> rfl
    ·rcases qr.mp a with rfl|a
     ·intro h
      rcases qr.mp h with h|h
      ·exact e h.symm
      ·exact h2 x qo h
     ·exact h2 y (ql _ a)
def Jf(h1:jl s xs=z.cps.toList):z=Txt.join {#[s]} (xs.map λl=>({{l}}:Str)):=by
 have:(Txt.join ⟨#[s]⟩ (xs.map λl=>(⟨⟨l⟩⟩:Str))).cps.toList=z.cps.toList:=by
  rw[show Txt.join {#[s]} (xs.map λl=>({{l}}:Str))=Str.join {#[s]} (xs.map λl=>({{l}}:Str)) from StrLaws.glued_eq_join _ _,iQ,zq,←h1]
  congr 1
  exact List.map_id xs
 obtain⟨⟨l⟩⟩:=z;generalize Txt.join ⟨#[s]⟩ (xs.map λl=>(⟨⟨l⟩⟩:Str))=u at this;obtain⟨⟨m⟩⟩:=u;have this:m=l:=this;rw[this]
def split_free(h:y∈Txt.split z {#[s]}):s∉y.cps.toList:=by
 obtain⟨xs,b,h1,h2⟩:=rb s z.cps.toList;rw[Jf h1,fy (c:=s) (by simpa using b) λx a=>by obtain⟨l,hl,rfl⟩:=List.mem_map.mp a;exact h2 l hl]at h;obtain⟨l,hl,rfl⟩:=qk.mp h;exact h2 l hl
def OE(z:Str)(s:Nat):Txt.split z {#[s]}≠[]:=by
 obtain⟨xs,a,h1,h2⟩:=rb s z.cps.toList;rw[Jf h1,fy (c:=s) (by simpa using a) λx b=>by obtain⟨l,hl,rfl⟩:=List.mem_map.mp b;exact h2 l hl];simpa using a
def Al(c:Nat):Bool:=decide (97≤c/\c≤122)||(decide (48≤c/\c≤57)||decide (c∈[46,44,45,60,62,42,35,95,33]))
structure AL(z:Str):Prop where
 pos:0<z.cps.size
 al:∀c∈z.cps.toList,Al c=true
def eN(h:a8 z):AL z:={h.1,λc a=>by unfold Al;rw[qs (h.2.2 c a)];rfl}
def mo{n:Int}(h:0≤n):AL (toString n):={ur h,λc a=>by unfold Al;rw[qs (kB h c a)];simp}
def u_(hs:Al s=true)(d:ws≠[])(h:∀w∈ws,AL w):AL (Txt.join {#[s]} ws):=by
 refine{?_,λc b=>?_}
 ·cases ws with
  |nil=>exact absurd rfl d
  |cons a r =>
   have:=(uW (s:=s) (qk.mpr {a,qo,Y}:a.cps.toList∈(a::r).map λw=>w.cps.toList)).2;rw[←iQ,←show Txt.join {#[s]} (a::r)=Str.join {#[s]} (a::r) from StrLaws.glued_eq_join _ _,zt,zt]at this;exact zo (h a qo).pos this
 ·rcases sP b with rfl|⟨w,hw,b⟩
  ·exact hs
  ·exact(h w hw).al c b
def ir(h1:AL x)(h2:AL y):AL (x++y):={by
 show 0<(x.cps++y.cps).size;rw[yv]
 exact zo h1.pos (yx _ _),λc a=>by
 have a:c∈(x.cps++y.cps).toList:=a;rw[wm]at a;rcases zf.mp a with h|h
 ·exact h1.al c h
 ·exact h2.al c h}
def dR(h:(decide (0<z.cps.size)&&z.cps.toList.all Al)=true):AL z:=by
 have h:=(qv _ _).mp h;exact{qB h.1,λc a=>zk.mp h.2 c a}
def wc(h:bE d z):AL z:=by
 obtain⟨w,n,_,h1,h2,rfl⟩:=h;refine u_ ⋯ (by simp) λx a=>?_
 simp only[List.mem_cons,List.not_mem_nil,or_false]at a
 rcases a with rfl|rfl
 ·exact eN h1
 ·exact mo h2.1
def ox(h:dH d z):AL z:=by
 obtain⟨w,n,i,_,h1,h2,b,rfl⟩:=h;refine u_ ⋯ (by simp) λx a=>?_
 simp only[List.mem_cons,List.not_mem_nil,or_false]at a
 rcases a with rfl|rfl|rfl
 ·exact eN h1
 ·exact mo h2.1
 ·exact mo b.1
def lu{d0:PyData}(b:AL c)(a:∀{d z},P d z->AL z)(h:iG c d0 P d z):AL z:=by
 rcases h with⟨rfl,_⟩|⟨_,h⟩
 ·exact b
 ·exact a h
theorem ug(a:∀{d z},P d z->AL z):∀{ds:List PyData} {zs:List Str},F2 P ds zs->∀z∈zs,AL z
 |_,_,.nil,_,h=>nomatch h
 |_,_,.cons h t,z,hz=>by
  rcases qr.mp hz with rfl|hz
  ·exact a h
  ·exact ug a t z hz
def Kf(h:dM d z):AL z:=by obtain⟨n,_,h,rfl⟩:=h;exact mo h.1
def yC(h:n9 d z):AL z:=by
 obtain⟨ds,_,h⟩:=h;rw[nM (z:=z) (s:=44) rfl];exact u_ ⋯ (λe=>by have:=OE z 44;exact this e) (ug Kf h)
def Mz(h:zC r d z):AL z:=by
 have a:AL "-":=dR ∅;have c:AL ".":=dR ∅
 cases r with
 |number=>exact Kf h
 |plain=>exact eN h.2
 |name=>exact wc h
 |part=>exact lu c wc h
 |fD=>exact lu a wc h
 |snN=>exact lu a ox h
 |side =>
  obtain⟨ds,y,s,_,h1,h2⟩:=h;rcases h2 with⟨_,rfl⟩|⟨_,rfl⟩
  ·exact ir (ox h1) (dR ∅)
  ·exact ir (ox h1) (dR ∅)
 |plainN=>exact lu a (λh=>eN h.2) h
 |dD=>exact lu (dR ∅) (λh=>eN h.2) h
 |truth=>obtain⟨b,_,rfl⟩:=h;cases b <;> exact dR ∅
 |counts=>exact yC h
def JQ(h:fm d z)(a:32∉z.cps.toList)(m:eI ws (cU d)=true):AL z:=by
 cases h with
 |qJ h e=>rw[e];exact ir (dR ∅) (eN h)
 |ref h e=>rw[e];exact ir (dR ∅) (lu (dR ∅) wc h)
 |txt h1 h2 =>
  by_cases e:z=("_":Str)
  ·rw[e];exact dR ∅
  ·rw[qq e]at m
   have m:(decide (z.length=1)&&(bp z||decide (z∈([" ",".",","]:List Str))))=true:=m;rw[qv,vn]at m;rcases m.2 with m|m
   ·exact eN (FW m)
   ·have m:=qB m
    simp only[List.mem_cons,List.not_mem_nil,or_false]at m
    rcases m with rfl|rfl|rfl
    ·exact absurd ∅ a
    ·exact dR ∅
    ·exact dR ∅
def mU{fs:List Fm}(hm:bX ws n (.tup (aQ (.str k::(ds++es))))=true)(e:cF k=some fs):ds.length+es.length=fs.length/\all2 ws fs (aQ (ds++es))=true/\(k∈(["back","again"]:List Str)->gJ n (aQ (ds++es))=true):=by
 have a:=KP (ws:=ws) (n:=n) (ts:=aQ (ds++es)) e;have hm:bX ws n (.tup (.str k::aQ (ds++es)))=true:=hm;rw[hm]at a;have a:=a.symm;rw[qv,qv]at a;refine{?_,a.2.1,λb=>?_}
 ·have:=qB a.1
  rw[fv,qf,qu]at this;exact this
 ·have:=a.2.2
  rw[qs b]at this;exact this
def J'(o:∀y∈zs,32∉y.cps.toList)(h:iK ds zs)(hm:bX ws n (.tup (aQ ds))=true):∀y∈zs,AL y:=by
 cases h with
 |@mk k rest rs ds es r x hl =>
  have two:∀{a b:Bool},(a&&b)=true->a=true/\b=true:=λh=>(qv _ _).mp h
  have q:AL k:=by
   have w:∀p∈iP,(decide (0<p.1.cps.size)&&p.1.cps.toList.all Al)=true:=∅
   exact dR (w _ (vI r))
  have B:∀y∈rest.take rs.length,AL y:=λy c=>by
   obtain⟨i,hi,e⟩:=ye c;rw[wx]at hi
   have D:rest[i]?=some y:=by
    rw[←e,List.getElem_take];exact qm ()
   obtain⟨d,_,h⟩:=x.2 i _ _ (qm ()) D;exact Mz h
  have m:∀y∈rest.drop rs.length,AL y:=by
   have j:∀y∈rest.drop rs.length,32∉y.cps.toList:=λy c=>o y (ql _ (jm c));generalize rest.drop rs.length=ys at hl j
   cases hl with
   |no _ _=>exact λ_ h=>nomatch h
   |out w l h=>exact ug ox h
   |@put u _ l h =>
    subst l
    have s:rs=[.part,.snN]:=by
     have:dP "put"=some [.part,.snN]:=rfl;rw[this]at r;exact(qD r).symm
    subst s;have g:=mU hm (fs:=[.part,.vu,.signs]) rfl;have f:ds.length=2:=Nat.succ.inj g.1
    obtain⟨a,b,rfl⟩:∃a b,ds=[a,b]:=match ds,f with|[a,b],_=>{a,b,Y}
    have v:(decide (1≤(aQ u).length/\(aQ u).length≤12)&&(aQ u).all (eI ws))=true:=(two (two (two g.2.1).2).2).1;rw[fv]at v;have A:=zk.mp (two v).2
    have:∀{ds:List PyData} {zs:List Str},F2 fm ds zs->(∀d∈ds,eI ws (cU d)=true)->(∀y∈zs,32∉y.cps.toList)->∀z∈zs,AL z:=λ{ds zs} h=>by
     induction h with
     |nil=>exact λ_ _ _ h=>nomatch h
     |cons h t C =>
      intro hm o z f;rcases qr.mp f with rfl|f
      ·exact JQ h (o _ qo) (hm _ qo)
      ·exact C (λd m=>hm d (ql _ m)) (λy c=>o y (ql _ c)) z f
    exact this h (λd m=>A _ (qk.mpr ⟨d,m,Y⟩)) j
  intro y c;rcases qr.mp c with rfl|c
  ·exact q
  ·rw[←ku rs.length rest]at c
   rcases zf.mp c with c|c
   ·exact B y c
   ·exact m y c
def Ref(ws:List Str)(z:Str):Prop:=∀d,jP d z->c9 ws (cU d)=false
structure Gf(ws:List Str)(w zn zc zb:Str)(rest:List Str):Prop where
 out:∃(n:Int) (cs ds:List PyData),a8 w/\w∈ws/\1≤n/\n≤1000000/\zn=toString n/\F2 dM cs (Txt.split zc {#[44]})/\cs.length=ws.length/\cs[ws.idxOf w]?=some (.int (n - 1))/\(∀x∈cs,∃i,x=.int i/\0≤i/\i≤1000000) ∧
  (zb = "-" \/ ∃a b,zb=Txt.join {#[46]} [a,b]/\a8 a/\a∈ws/\a8 b)/\iK ds rest/\bX ws n (.tup (aQ ds))=true
def AI(h:kO ws (.str w) (.int n) (.tup (aQ cs))=true):cs[ws.idxOf w]?=some (.int (n - 1)):=by
 have h:(match(aQ cs)[ws.idxOf w]? with|some (.int c)=>decide (c=n - 1)|_=>false)=true:=h;rw[fv,zj]at h
 cases e:cs[ws.idxOf w]? with
 |none=>rw[e]at h;exact nomatch h
 |some d =>
  rw[e]at h
  cases d with
  |int i=>rw[qB (show decide (i=n - 1)=true from h)]
  |_=>exact nomatch h
def yU(h:jP d z)(hm:c9 ws (cU d)=true):∃w o l j rest,Txt.split z {#[32]}=w::o::l::j::rest/\Gf ws w o l j rest:=by
 cases h with
 |@mk z w o l j rest n c b ds B q m v C =>
  obtain⟨n,rfl,_,rfl⟩:=q;have hm:(a_ ws (.tup [.str w,.int n])&&(bu ws (cU c)&&(kO ws (.str w) (.int n) (cU c)&&(bN ws (cU b)&&bX ws n (.tup (aQ ds))))))=true:=hm
  simp only[Bool.and_eq_true]at hm
  obtain⟨f,k,x,a,A⟩:=hm;have f:((bp w&&decide (1≤n/\n≤1000000))&&decide (w∈ws))=true:=f;rw[qv,qv]at f;have p:=qB f.1.2;obtain⟨cs,rfl,m⟩:=m;have k:(decide ((aQ cs).length=ws.length)&&(aQ cs).all (dA 0))=true:=k;rw[qv,zk,fv]at k;have hl:=qB k.1;rw[qf]at hl;refine{w,_,l,j,rest,B,n,cs,ds,FW f.1.1,qB f.2,p.1,p.2,Y,m,hl,AI x,AZ m λd z y _ s=>?_,?_,C,A}
  ·obtain⟨i,rfl,hi,_⟩:=s
   exact{i,Y,qB (show decide (0≤i/\i≤1000000)=true from k.2 _ (qk.mpr {_,y,Y}))}
  ·rcases v with⟨e,_⟩|⟨_,es,rfl,g⟩
   ·exact .inl e
   ·refine .inr ?_
    cases g':Txt.split j ⟨#[46]⟩ with
    |nil =>
     rw[g']at g;cases g;exact nomatch a
    |cons z1 r =>
     rw[g']at g
     cases g with
     |cons a1 t =>
      cases t with
      |nil=>obtain⟨rfl,_⟩:=a1;exact nomatch a
      |cons a2 t =>
       cases t with
       |cons E t=>obtain⟨rfl,_⟩:=a1;obtain⟨rfl,_⟩:=a2;exact nomatch a
       |nil =>
        obtain⟨rfl,D⟩:=a1;obtain⟨rfl,u⟩:=a2;have a:((bp z1&&decide (z1∈ws))&&_)=true:=a;rw[qv,qv]at a;exact{_,_,nM g',D,qB a.1.2,u}
def r_(h:∀w c a b rest,Txt.split z {#[32]}=w::c::a::b::rest->Gf ws w c a b rest->False):Ref ws z:=λd f=>by
 cases e:c9 ws (cU d) with
 |false=>rfl
 |true =>
  obtain⟨w,c,a,b,rest,h1,h2⟩:=yU f e;exact(h _ _ _ _ _ h1 h2).elim
def yN(fr:∀y∈rest,32∉y.cps.toList)(g:Gf ws w k h i rest):∀y∈w::k::h::i::rest,AL y:=λy c=>by
 obtain⟨n,cs,ds,h1,h2,l,r,m,h6,q,o,p,f,e,d⟩:=g
 simp only[List.mem_cons]at c
 rcases c with rfl|rfl|rfl|rfl|c
 ·exact eN h1
 ·rw[m];exact mo ()
 ·exact yC {cs,Y,h6}
 ·rcases f with rfl|⟨a,b,rfl,ha,_,hb⟩
  ·exact dR ∅
  ·refine u_ ⋯ (by simp) λx j=>?_
   simp only[List.mem_cons,List.not_mem_nil,or_false]at j
   rcases j with rfl|rfl
   ·exact eN ha
   ·exact eN hb
 ·exact J' fr e d y c
def xj(a:y∈Txt.split z {#[32]})(h:¬AL y):Ref ws z:=r_ λw d b c rest hs g=>by
 rw[hs]at a;exact h (yN (λy a=>split_free (by rw[hs];simp[a])) g y a)
def tf(a:c∈z.cps.toList)(d:c≠32)(b:Al c=false):Ref ws z:=by
 rw[nM (z:=z) (s:=32) rfl]at a;rcases sP (s:=32) a with e|⟨y,hy,a⟩
 ·exact absurd e d
 ·exact xj hy λh=>by rw[h.al c a]at b;exact nomatch b
def mO(h:Nb n):N7 n:={h.1,by have:=h.2;omega}
def BF(h:ij d z):bE d z:=by
 obtain⟨w,n,e,h1,h2,a⟩:=h;exact{w,n,e,h1,mO h2,a}
def A_(h:uL d z):dH d z:=by
 obtain⟨w,n,i,e,h1,h2,b,a⟩:=h;exact{w,n,i,e,h1,mO h2,mO b,a}
def oh(hw:a8 w):Txt.join {#[46]} (w::r)≠{#[c]}\/97≤c:=by
 by_cases h:97≤c
 ·exact .inr h
 ·refine .inl λe=>h ?_
  obtain⟨⟨l⟩⟩:=w;obtain⟨h1,_,g⟩:=hw
  cases l with
  |nil=>exact absurd h1 ⋯
  |cons a l =>
   have d:=congrArg (λz:Str=>z.cps.toList) e;have d:(Txt.join ⟨#[46]⟩ ((⟨⟨a::l⟩⟩:Str)::r)).cps.toList=[c]:=d;rw[show Txt.join {#[46]} (({{a::l}}:Str)::r)=Str.join {#[46]} (({{a::l}}:Str)::r) from StrLaws.glued_eq_join _ _,iQ]at d;have f:=(g a qo).1
   cases r with
   |nil =>
    have d:a::l=[c]:=d;cases d;exact f
   |cons b r =>
    have d:a::(l++46::_)=[c]:=d;rw[←(List.cons.inj d).1];exact f
def Ag{d0 d:PyData}(b:c<97)(a:P d z->∃w r,a8 w/\z=Txt.join {#[46]} (w::r))(h:(d=d0/\z={#[c]})\/P d z):iG {#[c]} d0 P d z:=by
 rcases h with⟨h1,h2⟩|h
 ·exact .inl ⟨h2,h1⟩
 ·refine .inr ⟨?_,h⟩
  obtain⟨w,r,hw,rfl⟩:=a h;exact(oh hw).resolve_right ()
def L3(h:bE d z):∃w r,a8 w/\z=Txt.join {#[46]} (w::r):=by
 obtain⟨w,n,_,h1,_,e⟩:=h;exact{w,_,h1,e}
def Su(h:dH d z):∃w r,a8 w/\z=Txt.join {#[46]} (w::r):=by
 obtain⟨w,n,i,_,h1,_,_,e⟩:=h;exact{w,_,h1,e}
def Lb(h:cj d z):∃w r,a8 w/\z=Txt.join {#[46]} (w::r):={z,[],h.2,Y}
def KN(h:jT d z):l4 d z:=Ag (c:=46) ⋯ L3 (by
 rcases h with⟨h1,h2⟩|h
 ·exact .inl ⟨h1,h2⟩
 ·exact .inr (BF h))
def As(b:∀{d z},P d z->a d z)(e:∀{d z},a d z->∃w r,a8 w/\z=Txt.join {#[46]} (w::r))(h:Ny P d z):iG "-" .none a d z:=Ag (c:=45) ⋯ e (by
 rcases h with⟨h1,h2⟩|h
 ·exact .inl ⟨h1,h2⟩
 ·exact .inr (b h))
def M6(h:fz d z):n9 d z:=by
 obtain⟨cs,i,_,e,h1,rfl⟩:=h;refine{_,e,?_}
 have hs:Txt.split (Txt.join "," (cs.map λc=>(toString c:Str))) ⟨#[44]⟩=cs.map λc=>(toString c:Str):=fy (c:=44) (by simpa using i) λx f=>by
  obtain⟨c,b,rfl⟩:=qk.mp f;exact SA (h1 c b)
 rw[hs]
 have:∀l:List Int,(∀c∈l,Nb c)->F2 dM (l.map PyData.int) (l.map λc=>(toString c:Str)):=λl=>by
  induction l with
  |nil=>exact λ_=>.nil
  |cons a l g=>exact λh=>.cons {a,Y,mO (h a qo),Y} (g λc b=>h c (ql _ b))
 exact this cs h1
def QR(h:vA r d z):zC r d z:=by
 cases r with
 |number=>obtain⟨n,e,h,a⟩:=h;exact{n,e,mO h,a}
 |plain=>exact h
 |name=>exact BF h
 |part=>exact KN h
 |fD=>exact As BF L3 h
 |snN=>exact As A_ Su h
 |side =>
  obtain⟨ds,y,s,e,h1,h2⟩:=h;exact{ds,y,s,e,A_ h1,h2}
 |plainN=>exact As id Lb h
 |dD=>exact Ag (c:=33) ⋯ Lb h
 |truth=>exact h
 |counts=>exact M6 h
def CW(h:lB d z):fm d z:=by
 rcases h with⟨c,rfl,g,rfl⟩|⟨w,rfl,h,rfl⟩|⟨p,y,rfl,h,rfl⟩
 ·have j:∀c∈("abcdefghijklmnopqrstuvwxyz .,":Str).cps.toList,c≠42/\c≠35/\c≠95/\(c≠32\/(⟨#[c]⟩:Str) = " "):=∅
  obtain⟨a1,a2,f,_⟩:=j c g
  by_cases e:(⟨#[c]⟩:Str) = " "
  ·rw[q0 e,e]
   have:=fm.txt (z:="_") (λy h=>absurd (congrArg (λz:Str=>z.cps.toList[0]?) h) (by
    show(some 95:Option Nat)=_->False;intro h2;have a:(some 95:Option Nat)=some 42:=h2.trans (by show((#[42]++y.cps).toList)[0]?=_;rw[wm];rfl)
    cases a)) (λy h=>absurd (congrArg (λz:Str=>z.cps.toList[0]?) h) (by
    show(some 95:Option Nat)=_->False;intro h2;have a:(some 95:Option Nat)=some 35:=h2.trans (by show((#[35]++y.cps).toList)[0]?=_;rw[wm];rfl)
    cases a))
   rw[q0 rfl]at this;exact this
  ·rw[qq e]
   have b:∀k,c≠k->∀y:Str,(⟨#[c]⟩:Str)≠(⟨#[k]⟩:Str)++y:=λk i y h=>by
    have h2:=congrArg (λz:Str=>z.cps.toList[0]?) h;have a:(some c:Option Nat)=some k:=(show(some c:Option Nat)=_ from h2).trans (by show((#[k]++y.cps).toList)[0]?=_;rw[wm];rfl);exact i (qD a)
   have:=fm.txt (z:={#[c]}) (b 42 a1) (b 35 a2)
   rw[qq (λh=>f (by
    have h2:=congrArg (λz:Str=>z.cps.toList) h;have h2:[c]=[95]:=h2
    cases h2;rfl))]at this
   exact this
 ·exact .qJ h rfl
 ·exact .ref (KN h) rfl
theorem Ar(a:∀{d z},P d z->b d z):∀{ds:List PyData} {zs:List Str},F2 P ds zs->F2 b ds zs
 |_,_,.nil=>.nil
 |_,_,.cons h t=>.cons (a h) (Ar a t)
theorem L4:∀{rs:List Rm} {ds:List PyData} {zs ys:List Str},F3 rs ds zs->NX rs ds (zs++ys)
 |_,_,_,_,.nil=>{by simp,λi r z h=>by simp at h}
 |_,_,_,ys,.cons h t=>by
  obtain⟨h1,h2⟩:=L4 (ys:=ys) t;refine{by simp only[List.length_cons,List.cons_append];omega,λi r z b a=>?_}
  cases i with
  |zero=>cases b;cases a;exact{_,Y,QR h}
  |succ i=>exact h2 i r z b a
def Dt(h:gT ds zs):iK ds zs:=by
 cases h with
 |mk k rs ds zs es ys h1 c d =>
  refine .mk h1 (L4 c) ?_;rw[←c.len.2,List.drop_left]
  cases d with
  |put f _ e h =>
   subst e;exact .put rfl (Ar CW h)
  |out f _ e h =>
   subst e;exact .out ∅ rfl (Ar A_ h)
  |no a b=>exact .no a b
structure ie(ws:List Str)(za:Str)(n:Int)(cs:List Int)(b:PyData)(wt:List PyData)(aK:List Str):Prop where
 qK:za∈ws
 n1:1≤n
 n2:n≤63
 lc:cs.length=ws.length
 hc:∀c∈cs,0≤c/\c≤1000000
 own:cs[ws.idxOf za]?=some (n - 1)
 br:xO ws b
 wh:bY ws n wt
 rw:gT wt aK
 bg:aK.length≤15/\∀w∈aK,w.length≤100
def K'(h:RL H1 I ws)(nd:ws.Nodup)(W:Hs.Wh ws.length ds)(F:ds.length≤62)(r:d∈ds)(at':Hs.eM H ws v d)(g:xO ws d.br)(w:bY ws d.num d.wt):∃(za:Str) (aK:List Str) (_:Unit) (n:Int) (cs:List Int) (b:PyData) (wt:List PyData),sv H v za n (cs.map PyData.int) b aK/\ie ws za n cs b wt aK/\DT H v (.tuple [.str za,.int n,.tuple (cs.map PyData.int),b,.tuple wt]):=by
 have bg:=E8 W r;have x:=W.c7 d r;have o:=W.len d r;have own:=W.own d r;obtain⟨aK,l,s⟩:=PB h.wd h.pos h.bg (num:=d.num) () w;have B:=at';obtain⟨q,za,A,G,M,rfl,m,z,L,tb,u⟩:=at';have hm:za∈ws:=qx m;have t:=h.wd za hm
 have p:DT H (.ref A) (.tuple ((d.hd.map λ(n:Nat)=>(n:Int)).map PyData.int)):=.tup L (by
  have:=ib H (d.hd.map λ(n:Nat)=>(n:Int));rw[zq]at this
  exact this)
 have f:∀c∈d.hd.map (λ(n:Nat)=>(n:Int)),0≤c/\c≤1000000:=λc i=>by
  obtain⟨k,C,rfl⟩:=qk.mp i;obtain⟨j,E,e⟩:=ye C;have:=bg.2 j ()
  have K:Hs.bf d.hd j=k:=by
   unfold Hs.bf;rw[ww,qm E,e];rfl
  omega
 refine{za,aK,Unit.unit,d.num,d.hd.map (λ(n:Nat)=>(n:Int)),d.br,d.wt,{{q,.ref A,G,M,d.wt,Y,z,p,tb,u,l},bK t,{(),()},by rw[qf,qf,o];have:=h.bg;omega,λy D=>?_,?_},{hm,(),(),by rw[qf];exact o,f,?_,g,w,s,l.len},.tup z (.cons (.str _) (.cons (.int _) (.cons p (.cons tb (.cons u .nil)))))}
 ·obtain⟨c,i,rfl⟩:=qk.mp D
  exact .inr {c,Y,(f c i).1,by have:=(f c i).2;omega}
 ·rcases g with g|⟨a,c,g,ha,i⟩
  ·exact .inl g
  ·exact .inr ⟨a,c,g,bK (h.wd a ha),bK i⟩
 ·have J:ws.idxOf za=d.c7:=Hs.nj nd (u9 hm) m
  rw[J,zj,qm ()]
  have K:Hs.bf d.hd d.c7=d.hd[d.c7]'():=by
   unfold Hs.bf;rw[ww,qm ()];rfl
  show some ((d.hd[d.c7]'():Nat):Int)=_
  congr 1
  omega
abbrev d0(za:Str)(n:Int)(cs:List Int)(b:PyData)(wt:List PyData):PyData:=.tuple [.str za,.int n,.tuple (cs.map PyData.int),b,.tuple wt]
abbrev w0(za:Str)(n:Int)(cs:List Int)(b:PyData)(aK:List Str):List Str:=za::toString n::Txt.join "," (cs.map λc=>(toString c:Str))::cz b::aK
section
variable {ws:List Str}{za:Str}{n:Int}{cs:List Int}{b:PyData}{wt:List PyData}{aK:List Str}
def FH:Py za n (cs.map PyData.int) b aK=Txt.join " " (w0 za n cs b aK):=by
 unfold Py;rw[zq];rfl
def ie.cnt(D:ie ws za n cs b wt aK)(h1:1≤ws.length)(h6:ws.length≤6):fz (.tuple (cs.map PyData.int)) (Txt.join "," (cs.map λc=>(toString c:Str))):={cs,λe=>by have:=D.lc;rw[e]at this;simp at this;omega,by have:=D.lc;omega,Y,λc a=>{(D.hc c a).1,by have:=(D.hc c a).2;omega},Y}
def ie.sp(D:ie ws za n cs b wt aK)(hw:∀w∈ws,a8 w)(h1:1≤ws.length)(h6:ws.length≤6):Txt.split (Txt.join " " (w0 za n cs b aK)) {#[32]}=w0 za n cs b aK:=fy (c:=32) (by simp) λx a d=>by
 have fr:eW x:=by
  simp only[List.mem_cons]at a
  rcases a with rfl|rfl|rfl|rfl|a
  ·exact lP (hw _ D.qK)
  ·exact oR ⟨by have:=D.n1;omega,by have:=D.n2;omega⟩
  ·exact fz.fr (D.cnt h1 h6)
  ·exact Nx.fr (FQ hw D.br)
  ·exact gT.fr D.rw x a
 exact(fr 32 d).1 rfl
def ie.rd(D:ie ws za n cs b wt aK)(hw:∀w∈ws,a8 w)(h1:1≤ws.length)(h6:ws.length≤6):jP (d0 za n cs b wt) (Txt.join " " (w0 za n cs b aK)):=by
 refine .mk (D.sp hw h1 h6) {n,Y,{by have:=D.n1;omega,by have:=D.n2;omega},Y} (M6 (D.cnt h1 h6)) ?_ (Dt D.rw);rcases FQ hw D.br with⟨rfl,e⟩|⟨a,c,rfl,d,g,e⟩
 ·exact .inl ⟨e,Y⟩
 ·refine .inr ⟨?_,_,Y,?_⟩
  ·rw[e]
   exact(oh (c:=45) d).resolve_right ⋯
  ·have h:Txt.split (Txt.join "." [a,c]) ⟨#[46]⟩=[a,c]:=iN (wg _ _) λx f=>by
    simp only[List.mem_cons,List.not_mem_nil,or_false]at f
    rcases f with rfl|rfl
    ·exact m8 d
    ·exact m8 g
   rw[e,h];exact .cons {Y,d} (.cons {Y,g} .nil)
def Q8{l:List Int}(h:∀c∈l,0≤c/\c≤1000000):(aQ (l.map PyData.int)).all (dA 0)=true:=by
 rw[fv,zq,wy,zk];exact λc a=>qs (h c a)
def ie.En(D:ie ws za n cs b wt aK)(hw:∀w∈ws,a8 w):c9 ws (cU (d0 za n cs b wt))=true:=by
 have h:=C7 hw D.br;have wo:=NK hw (by have:=D.n2;omega) D.wh
 have e:bX ws n (.tup (aQ wt))=true:=by cases wo with|mk z fs dd h1 h2 j g i=>exact g
 have d:bu ws (.tup (aQ (cs.map PyData.int)))=true:=by
  show(decide ((aQ (cs.map PyData.int)).length=ws.length)&&(aQ (cs.map PyData.int)).all (dA 0))=true;rw[Q8 D.hc,fv,qf,qf,D.lc,qs rfl];rfl
 have f:kO ws (.str za) (.int n) (.tup (aQ (cs.map PyData.int)))=true:=by
  show(match(aQ (cs.map PyData.int))[ws.idxOf za]? with|some (.int c)=>decide (c=n - 1)|_=>false)=true;rw[fv,zq,zj,D.own];exact qs rfl
 have a:a_ ws (.tup [.str za,.int n])=true:=by
  show((bp za&&decide (1≤n/\n≤1000000))&&decide (za∈ws))=true;rw[h_ (hw _ D.qK),qs {D.n1,by have:=D.n2;omega},qs D.qK];rfl
 show(a_ ws (.tup [.str za,.int n])&&(bu ws (.tup (aQ (cs.map PyData.int)))&&(kO ws (.str za) (.int n) (.tup (aQ (cs.map PyData.int)))&&(bN ws (cU b)&&bX ws n (.tup (aQ wt))))))=true;rw[a,d,f,h.2,e];rfl
def ie.gf(D:ie ws za n cs b wt aK)(hw:∀w∈ws,a8 w)(h1:1≤ws.length)(h6:ws.length≤6):∀y∈w0 za n cs b aK,AL y:=by
 obtain⟨w,h,d,f,rest,e,g⟩:=yU (D.rd hw h1 h6) (D.En hw);have a:=D.sp hw h1 h6;rw[e]at a;have:=yN (λy c=>split_free (z:=Txt.join " " (w0 za n cs b aK)) (s:=32) (by rw[e];simp[c])) g;rw[a]at this;exact this
end
def fY(h:AL y):32∉y.cps.toList:=λa=>by have:=h.al 32 a;exact absurd this ⋯
def jJ(i:a≠[])(fr:∀y∈a,32∉y.cps.toList)(h:∀w f b d rest,a=w::f::b::d::rest->Gf ws w f b d rest->False):Ref ws (Txt.join " " a):=r_ λw f b d rest hs g=>by
 have e:Txt.split (Txt.join " " a) ⟨#[32]⟩=a:=fy (c:=32) i fr;rw[e]at hs;exact h _ _ _ _ _ hs g
def MR(hw:w∈a)(b:c∈w.cps.toList):c∈(Txt.join {#[s]} a).cps.toList:=by
 rw[show Txt.join {#[s]} a=Str.join {#[s]} a from StrLaws.glued_eq_join _ _,iQ];exact(uW (qk.mpr {w,hw,Y})).1 c b
def nz:s∈(Txt.join {#[s]} (x::y::r)).cps.toList:=by
 rw[show Txt.join {#[s]} (x::y::r)=Str.join {#[s]} (x::y::r) from StrLaws.glued_eq_join _ _,iQ];exact we _ qo
def mC{x y:Str}{c:Nat}(h:c∈x.cps.toList\/c∈y.cps.toList):c∈(x++y).cps.toList:=by
 show c∈(x.cps++y.cps).toList;rw[wm];exact zf.mpr h
def nY(x y:Str):(x++y).cps.size=x.cps.size+y.cps.size:=by
 show(x.cps++y.cps).size=_;rw[yv]
def cC{u v:Str}(h:u.cps.toList=v.cps.toList):u=v:=by
 obtain⟨⟨u⟩⟩:=u;obtain⟨⟨v⟩⟩:=v;have h:u=v:=h;rw[h]
def ig(xs:List Str):(Txt.join {#[s]} xs).cps.toList=jl s (xs.map λw=>w.cps.toList):=by
 rw[show Txt.join {#[s]} xs=Str.join {#[s]} xs from StrLaws.glued_eq_join _ _,iQ]
def aT(x y:Str):(x++y).cps.toList=x.cps.toList++y.cps.toList:=by
 show(x.cps++y.cps).toList=_;rw[wm]
theorem LJ(y:List Nat):∀xs:List (List Nat),xs≠[]->jl s (xs++[y])=jl s xs++s::y
 |[],h=>absurd rfl h
 |[a],_=>rfl
 |a::b::r,_=>by
  show a++s::jl s (b::r++[y])=(a++s::jl s (b::r))++s::y;rw[LJ y (b::r) (by simp),List.append_assoc];rfl
def Ji(h:xs≠[]):Txt.join {#[s]} xs++(({#[s]}:Str)++y)=Txt.join {#[s]} (xs++[y]):=cC (by
 rw[aT,aT,ig,ig,List.map_append,show[y].map (λw:Str=>w.cps.toList)=[y.cps.toList] from rfl,LJ _ _ (by simpa using h)]
 rfl)
theorem LU(y t:List Nat):∀xs:List (List Nat),jl s (xs++[y])++t=jl s (xs++[y++t])
 |[]=>rfl
 |a::r=>by
  cases r with
  |nil =>
   show(a++s::y)++t=a++s::(y++t);rw[vt];rfl
  |cons b r =>
   show(a++s::jl s (b::r++[y]))++t=a++s::jl s (b::r++[y++t]);rw[←LU y t (b::r),vt];rfl
def C1(t:Str):Txt.join {#[s]} (xs++[y])++t=Txt.join {#[s]} (xs++[y++t]):=cC (by
 rw[aT,ig,ig,zm,zm,show[y].map (λw:Str=>w.cps.toList)=[y.cps.toList] from rfl,LU,show[y++t].map (λw:Str=>w.cps.toList)=[(y++t).cps.toList] from rfl,aT])
def Qy(t:Str):t++Txt.join {#[s]} (y::r)=Txt.join {#[s]} ((t++y)::r):=cC (by
 rw[aT,ig,ig]
 cases r with
 |nil=>show t.cps.toList++y.cps.toList=(t++y).cps.toList;rw[aT]
 |cons b r=>show t.cps.toList++(y.cps.toList++s::_)=(t++y).cps.toList++s::_;rw[aT,vt])
def Oc{n:Int}(h:0≤n):¬a8 (toString n):=λhw=>by
 obtain⟨c,d⟩:∃c,c∈(toString n:Str).cps.toList:={_,vk (n:=0) (by rw[zt];exact ur h)};have a:=kB h c d;have b:=hw.2.2 c d;omega
def JB(h:F2 dM cs (Txt.split z {#[44]})):∀c∈z.cps.toList,c=44\/(48≤c/\c≤57):=λc a=>by
 rw[nM (z:=z) (s:=44) rfl]at a;rcases sP (s:=44) a with e|⟨y,hy,a⟩
 ·exact .inl e
 ·obtain⟨d,m,_,hm,rfl⟩:=h.mem hy
  exact .inr (kB hm.1 c a)
def FU{m n:Int}(hm:0≤m)(b:0≤n):(toString m:Str)≠({#[48]}:Str)++toString n:=λe=>by
 have c:(toString m:Str).cps.toList[0]?=some 48:=by
  rw[e];show(#[48]++(toString n:Str).cps).toList[0]?=_;rw[wm];rfl
 have:=HR hm c;subst this;have a:=congrArg (λz:Str=>z.cps.size) e;have a:(toString (0:Int):Str).cps.size=((⟨#[48]⟩:Str)++toString n).cps.size:=a;rw[nY]at a;have p:=ur b
 have d:(toString (0:Int):Str).cps.size=1:=∅
 have f:(⟨#[48]⟩:Str).cps.size=1:=rfl;omega
section
variable {ws:List Str}{za:Str}{n:Int}{cs:List Int}{b:PyData}{wt:List PyData}{aK:List Str}
def ie.kind(D:ie ws za n cs b wt aK):∃k a rs,aK=k::a/\(k,rs)∈iP:=by
 have h:=D.rw
 cases h with
 |mk k rs ds zs es ys h1 c d=>exact{k,_,rs,Y,vI h1}
def ie.two(D:ie ws za n cs b wt aK)(h2:2≤ws.length):∃c1 c2 r,cs=c1::c2::r:=by
 have:=D.lc
 match cs,this with
 |c1::c2::r,_=>exact{c1,c2,r,Y}
 |[_],h=>exact absurd h (by simp;omega)
 |[],h=>exact absurd h (by simp;omega)
variable (D:ie ws za n cs b wt aK)(hw:∀w∈ws,a8 w)(h2:2≤ws.length)(h6:ws.length≤6)
include D hw h2 h6
theorem ie.fr:∀y∈w0 za n cs b aK,32∉y.cps.toList:=λy a=>fY (D.gf hw () h6 y a)
theorem ie.Tr:∃c,c∈(cz b).cps.toList/\(c=45\/c=46):=by
 rcases FQ hw D.br with⟨rfl,e⟩|⟨a,c,rfl,d,f,e⟩
 ·exact⟨45,by rw[e];decide +kernel,.inl rfl⟩
 ·exact⟨46,by rw[e];exact nz (s:=46),.inr rfl⟩
theorem Tv:Ref ws (Txt.join " " (toString n::Txt.join "," (cs.map λc=>(toString c:Str))::cz b::aK)):=jJ (by simp) (λy a=>D.fr hw h2 h6 y (List.mem_cons_of_mem _ a)) λw h d f rest e g=>by
 obtain⟨m,ds,es,a1,_⟩:=g.out;injection e with e _;rw[←e]at a1;exact Oc (by have:=D.n1;omega) a1
theorem Tw:Ref ws (Txt.join " " (za::Txt.join "," (cs.map λc=>(toString c:Str))::cz b::aK)):=jJ (by simp) (λy a=>D.fr hw h2 h6 y (by simp at a ⊢;rcases a with h|h|h|h <;> simp[h])) λw l i j rest e g=>by
 obtain⟨m,ds,es,a1,a2,f,k,d,_⟩:=g.out;injection e with e1 e;injection e with e2 e;obtain⟨c1,c2,r,rfl⟩:=D.two h2
 have:(44:Nat)∈(toString m:Str).cps.toList:=by rw[←d,←e2];exact nz (s:=44)
 have:=kB () 44 this;omega
theorem Tc:Ref ws (Txt.join " " (za::toString n::cz b::aK)):=jJ (by simp) (λy d=>D.fr hw h2 h6 y (by simp at d ⊢;rcases d with h|h|h|h <;> simp[h])) λw p k l rest e g=>by
 obtain⟨m,ds,es,a1,a2,j,o,q,i,_⟩:=g.out;injection e with e1 e;injection e with e2 e;injection e with e3 e;obtain⟨c,a,f⟩:=D.Tr hw h2 h6;rw[e3]at a;have:=JB i c a;omega
theorem Td:Ref ws (Txt.join " " (za::toString n::Txt.join "," (cs.map λc=>(toString c:Str))::aK)):=jJ (by simp) (λy i=>D.fr hw h2 h6 y (by simp at i ⊢;rcases i with h|h|h|h <;> simp[h])) λw v q s rest e g=>by
 obtain⟨m,ds,es,a1,a2,o,u,x,z,r,t,l,d,_⟩:=g.out;obtain⟨k,f,rs,rfl,b⟩:=D.kind;injection e with e1 e;injection e with e2 e;injection e with e3 e;injection e with e4 e
 have j:∀p∈iP,p.1≠("-":Str)/\46∉p.1.cps.toList:=∅
 have b:=j _ b;rcases d with h|⟨a,c,h,_⟩
 ·exact b.1 (e4.trans h)
 ·refine b.2 ?_
  show 46∈k.cps.toList;rw[e4,h];exact nz
theorem Tt:Ref ws (Txt.join " " ((za++"zzzzzzzz")::toString n::Txt.join "," (cs.map λc=>(toString c:Str))::cz b::aK)):=jJ (by simp) (λy a=>by
 rcases qr.mp a with rfl|a
 ·exact fY (ir (D.gf hw () h6 za (by simp)) (dR ∅))
 ·exact D.fr hw h2 h6 y (ql _ a)) λw i f h rest e g=>by
 obtain⟨m,ds,es,a1,_⟩:=g.out;injection e with e _;rw[←e]at a1;have d:=a1.2.1;rw[nY]at d;have p:=(hw _ D.qK).1
 have:("zzzzzzzz":Str).cps.size=8:=∅
 omega
theorem R4(f:AL a)(h:∀m:Int,1≤m->a≠toString m):Ref ws (Txt.join " " (za::a::Txt.join "," (cs.map λc=>(toString c:Str))::cz b::aK)):=jJ (by simp) (λy d=>by
 simp only[List.mem_cons]at d
 rcases d with rfl|rfl|rfl|rfl|d
 ·exact D.fr hw h2 h6 _ (by simp)
 ·exact fY f
 ·exact D.fr hw h2 h6 _ (by simp)
 ·exact D.fr hw h2 h6 _ (by simp)
 ·exact D.fr hw h2 h6 y (by simp[d])) λw o k l rest e g=>by
 obtain⟨m,ds,es,a1,a2,i,n,j,_⟩:=g.out;injection e with e1 e;injection e with e2 e;exact h m i (e2.trans j)
theorem Tu:Ref ws (Txt.join " " (za::(({#[48]}:Str)++toString n)::Txt.join "," (cs.map λc=>(toString c:Str))::cz b::aK)) :=
 R4 D hw h2 h6 (ir (dR ∅) (mo (by have:=D.n1;omega))) λm hm e=>FU () (by have:=D.n1;omega) e.symm
theorem T4:Ref ws (Txt.join " " (za::(toString n++({#[44]}:Str)++toString n)::Txt.join "," (cs.map λc=>(toString c:Str))::cz b::aK)) :=
 R4 D hw h2 h6 (ir (ir (mo (by have:=D.n1;omega)) (dR ∅)) (mo (by have:=D.n1;omega))) λm hm e=>by
  have:(44:Nat)∈(toString m:Str).cps.toList:=by rw[←e];exact mC (.inl (mC (.inr ∅)))
  have:=kB () 44 this;omega
theorem S':Ref ws (Txt.join " " (za::("0":Str)::Txt.join "," (cs.map λc=>(toString c:Str))::cz b::aK)) :=
 R4 D hw h2 h6 (dR ∅) λm hm e=>by
  have:=ml (n:=0) (m:=m) () () e;omega
theorem Q3(d:AL a)(h:∀ds,F2 dM ds (Txt.split a {#[44]})->ds.length≠ws.length):Ref ws (Txt.join " " (za::toString n::a::cz b::aK)):=jJ (by simp) (λy c=>by
 simp only[List.mem_cons]at c
 rcases c with rfl|rfl|rfl|rfl|c
 ·exact D.fr hw h2 h6 _ (by simp)
 ·exact D.fr hw h2 h6 _ (by simp)
 ·exact fY d
 ·exact D.fr hw h2 h6 _ (by simp)
 ·exact D.fr hw h2 h6 y (by simp[c])) λw p k l rest e g=>by
 obtain⟨m,ds,es,a1,a2,j,o,q,f,i,_⟩:=g.out;injection e with e1 e;injection e with e2 e;injection e with e3 e;rw[←e3]at f;exact h ds f i
theorem nL:∀x∈cs.map λc=>(toString c:Str),44∉x.cps.toList:=λx b=>by
 obtain⟨c,a,rfl⟩:=qk.mp b;exact SA {(D.hc c a).1,by have:=(D.hc c a).2;omega}
theorem BB:AL (Txt.join "," (cs.map λc=>(toString c:Str))):=D.gf hw () h6 _ (by simp)
theorem oI:(cs.map λc=>(toString c:Str))≠[]:=λe=>by
 obtain⟨c1,c2,r,rfl⟩:=D.two h2;cases e
theorem Qo:Ref ws (Txt.join " " (za::toString n::(Txt.join "," (cs.map λc=>(toString c:Str))++",0")::cz b::aK)) :=
 Q3 D hw h2 h6 (ir (BB D hw h2 h6) (dR ∅)) λds h=>by
  have e:Txt.join "," (cs.map λc=>(toString c:Str))++",0"=Txt.join ⟨#[44]⟩ ((cs.map λc=>(toString c:Str))++[("0":Str)]):=by
   have:=Ji (s:=44) (y:="0") (oI D hw h2 h6);rw[←this]
   congr 1
  rw[e,fy (c:=44) (by simp) λx a=>?_]at h
  ·have:=h.len
   rw[qu,qf,D.lc]at this;rw[this];show ws.length+1≠_;omega
  ·rcases zf.mp a with a|a
   ·exact nL D hw h2 h6 x a
   ·rw[zh.mp a];decide +kernel
theorem ON:Ref ws (Txt.join " " (za::toString n::(({#[48]}:Str)++Txt.join "," (cs.map λc=>(toString c:Str)))::cz b::aK)) :=
 Q3 D hw h2 h6 (ir (dR ∅) (BB D hw h2 h6)) λds h=>by
  obtain⟨c1,c2,r,rfl⟩:=D.two h2;have g:=nL D hw h2 h6;have e:(⟨#[48]⟩:Str)++Txt.join "," ((c1::c2::r).map λc=>(toString c:Str))=Txt.join ⟨#[44]⟩ (((⟨#[48]⟩:Str)++toString c1)::(c2::r).map λc=>(toString c:Str)):=Qy (s:=44) _;rw[e,fy (c:=44) (by simp) λx f=>?_]at h
  ·obtain⟨d,j⟩:=h.at (i:=0) rfl
   obtain⟨m,_,hm,e⟩:=j.2;exact absurd e.symm (FU hm.1 (D.hc c1 qo).1)
  ·rcases qr.mp f with rfl|f
   ·intro a
    rw[aT]at a;rcases zf.mp a with a|a
    ·exact absurd a ⋯
    ·exact g _ (by simp) a
   ·exact g x (ql _ f)
theorem Oh:Ref ws (Txt.join " " (za::toString n::(Txt.join "," (cs.map λc=>(toString c:Str))++",")::cz b::aK)) :=
 Q3 D hw h2 h6 (ir (BB D hw h2 h6) (dR ∅)) λds h=>by
  have e:Txt.join "," (cs.map λc=>(toString c:Str))++","=Txt.join ⟨#[44]⟩ ((cs.map λc=>(toString c:Str))++[("":Str)]):=Ji (s:=44) (y:="") (oI D hw h2 h6);rw[e,fy (c:=44) (by simp) λx a=>?_]at h
  ·obtain⟨d,m,_,hm,e⟩:=h.mem (z:="") (by simp)
   have:=ur hm.1;rw[←e]at this;exact absurd this ⋯
  ·rcases zf.mp a with a|a
   ·exact nL D hw h2 h6 x a
   ·rw[zh.mp a];decide +kernel
theorem S9{b:Str}(f:AL b)(j:b≠"-")(h:∀a c,a8 a->a8 c->b≠Txt.join {#[46]} [a,c]):Ref ws (Txt.join " " (za::toString n::Txt.join "," (cs.map λc=>(toString c:Str))::b::aK)):=jJ (by simp) (λy d=>by
 simp only[List.mem_cons]at d
 rcases d with rfl|rfl|rfl|rfl|d
 ·exact D.fr hw h2 h6 _ (by simp)
 ·exact D.fr hw h2 h6 _ (by simp)
 ·exact D.fr hw h2 h6 _ (by simp)
 ·exact fY f
 ·exact D.fr hw h2 h6 y (by simp[d])) λw t o q rest e g=>by
 obtain⟨m,ds,es,a1,a2,l,s,u,v,p,r,k,i,_⟩:=g.out;injection e with e1 e;injection e with e2 e;injection e with e3 e;injection e with e4 e;rcases i with h' |⟨a,c,h',ha,_,hc⟩
 ·exact j (e4.trans h')
 ·exact h a c ha hc (e4.trans h')
theorem xU(d:a8 a)(e:a8 c):Txt.split (Txt.join {#[46]} [a,c]) {#[46]}=[a,c]:=iN (wg _ _) λx b=>by
 simp only[List.mem_cons,List.not_mem_nil,or_false]at b
 rcases b with rfl|rfl
 ·exact m8 d
 ·exact m8 e
theorem OJ:Ref ws (Txt.join " " (za::toString n::Txt.join "," (cs.map λc=>(toString c:Str))::("a.b.c":Str)::aK)) :=
 S9 D hw h2 h6 (dR ∅) ∅ λa c d f e=>by
  have h:=xU D hw h2 h6 d f;rw[←e]at h;have g:Txt.split (Txt.join ⟨#[46]⟩ [("a":Str),"b","c"]) ⟨#[46]⟩=([("a":Str),"b","c"]:List Str):=fy (c:=46) (by simp) ∅
  have b:("a.b.c":Str)=Txt.join ⟨#[46]⟩ [("a":Str),"b","c"]:=∅
  rw[b,g]at h;cases h
theorem P7{b:Str}(h1:a8 b):Ref ws (Txt.join " " (za::toString n::Txt.join "," (cs.map λc=>(toString c:Str))::(b++".")::aK)):=by
 have g:b++"."=Txt.join ⟨#[46]⟩ [b,""]:=(HZ b "").symm;refine S9 D hw h2 h6 (ir (eN h1) (dR ∅)) (λe=>?_) λa c i d e=>?_
 ·rw[g]at e
  exact((oh (c:=45) h1).resolve_right ⋯) e
 ·have h:=xU D hw h2 h6 i d
  rw[←e,g,fy (c:=46) (by simp) λx f=>?_]at h
  ·cases h
   exact absurd d.1 ⋯
  ·simp only[List.mem_cons,List.not_mem_nil,or_false]at f
   rcases f with rfl|rfl
   ·exact m8 h1
   ·decide +kernel
theorem O3(e:aK=k::d):Ref ws (Txt.join " " (za::toString n::Txt.join "," (cs.map λc=>(toString c:Str))::cz b::(k++"s")::d)):=jJ (by simp) (λy j=>by
 have f:=D.gf hw () h6
 simp only[List.mem_cons]at j
 rcases j with rfl|rfl|rfl|rfl|rfl|j
 ·exact fY (f _ (by simp))
 ·exact fY (f _ (by simp))
 ·exact fY (f _ (by simp))
 ·exact fY (f _ (by simp))
 ·exact fY (ir (f _ (by simp[e])) (dR ∅))
 ·exact fY (f _ (by simp[e,j]))) λw v u A rest a g=>by
 obtain⟨m,ds,es,a1,a2,t,C,E,G,F,B,x,s,h,_⟩:=g.out;obtain⟨z,l,rs,o,q⟩:=D.kind;rw[e]at o;cases o;injection a with e1 a;injection a with e2 a;injection a with e3 a;injection a with e4 a;rw[←a]at h
 have r:∀p∈iP,dP (p.1++"s")=none:=∅
 cases h with
 |mk i _ _ =>
  rw[r _ q]at i;exact nomatch i
end
def LG:∀c<128,((Unicode.upperOf c).length=1/\∀d∈Unicode.upperOf c,d<128):=∅
def Cc:∀c<123,97≤c->Unicode.upperOf c=[c - 32]:=∅
def Lo:Unicode.upperOf 32=[32]:=∅
def vF(z:Str):(Txt.upper z).cps.toList=z.cps.toList.flatMap Unicode.upperOf:=by
 show((z.cps.mapIdx λ_ c=>(Unicode.upperOf c).toArray).flatten).toList=_;rw[Array.toList_flatten,Array.toList_mapIdx];generalize z.cps.toList=l
 have:(l.mapIdx λ_ c=>(Unicode.upperOf c).toArray)=l.map λc=>(Unicode.upperOf c).toArray:=by
  induction l with
  |nil=>rfl
  |cons a l b=>rw[List.mapIdx_cons,qw];exact congrArg _ b
 rw[this,zq];rw[List.flatMap_def];rfl
theorem zM(c:f s=[s]):∀xs:List (List Nat),(jl s xs).flatMap f=jl s (xs.map λx=>x.flatMap f)
 |[]=>rfl
 |[a]=>rfl
 |a::b::r=>by
  show(a++s::jl s (b::r)).flatMap f=a.flatMap f++s::jl s ((b::r).map λx=>x.flatMap f);rw[List.flatMap_append,me,c,zM c (b::r)];rfl
def Rz(ws:List Str):Txt.upper (Txt.join " " ws)=Txt.join " " (ws.map Txt.upper):=cC (by
 have e:∀l:List Str,(Txt.join " " l).cps.toList=jl 32 (l.map λw=>w.cps.toList):=λl=>ig (s:=32) l;rw[vF,e,e,zM Lo,zq,zq]
 exact congrArg _ (y7 λw _=>(vF w).symm))
def sF(a:c∈z.cps.toList)(h1:97≤c)(h2:c≤122):c - 32∈(Txt.upper z).cps.toList:=by
 rw[vF,List.mem_flatMap];exact{c,a,by rw[Cc c () h1];simp}
structure fb(z:Str):Prop where
 fr:eW z
 len:z.length≤400
def xT(h:AL z):eW z:=λc a=>by
 have b:∀c,Al c=true->c≠32/\c<256:=λc h=>by
  unfold Al at h;rw[vn,vn]at h;rcases h with h|h|h
  ·have:=qB h;omega
  ·have:=qB h;omega
  ·have:=qB h
   simp only[List.mem_cons,List.not_mem_nil,or_false]at this
   omega
 have:=b c (h.al c a);exact{this.1,by have:=this.2;omega}
def hH(h:AL z)(l:z.length≤400):fb z:={xT h,l}
def gI(h1:fb x)(h2:fb y)(h:x.length+y.length≤400):fb (x++y):={sx h1.fr h2.fr,by rw[bL];exact h}
def dC(z:Str):Bool:=(z.cps.toList.all λc=>decide (c≠32/\c<16 ^ 8))&&decide (z.length≤400)
def bQ(h:dC z=true):fb z:=by
 have h:=(qv _ _).mp h;exact{iU h.1,qB h.2}
def E1(h:AL z):∀c∈z.cps.toList,c<128:=λc a=>by
 have h:=h.al c a;unfold Al at h;rw[vn,vn]at h;rcases h with h|h|h
 ·have:=qB h;omega
 ·have:=qB h;omega
 ·have:=qB h
  simp only[List.mem_cons,List.not_mem_nil,or_false]at this
  omega
def uy(h:AL z)(l:z.length≤400):fb (Txt.upper z):=by
 have g:=E1 h;have j:∀c∈z.cps.toList,c≠32/\c<16 ^ 8:=xT h;have e:=vF z
 have l:z.cps.toList.length≤400:=by rw[zt];exact l
 generalize z.cps.toList=zs at e g j l
 have h1:∀ys:List Nat,(∀c∈ys,c<128)->(ys.flatMap Unicode.upperOf).length=ys.length:=λys=>by
  induction ys with
  |nil=>exact λ_=>rfl
  |cons a r k=>exact λh=>by rw[me,qu,k λc b=>h c (ql _ b),(LG a (h a qo)).1,zi];omega
 refine{λd f=>?_,?_}
 ·rw[e,List.mem_flatMap]at f
  obtain⟨c,b,f⟩:=f;have:=(LG c (g c b)).2 d f;refine{λi=>?_,()}
  have m:∀c<128,32∈Unicode.upperOf c->c=32:=∅
  exact(j c b).1 (m c (g c b) (i▸f))
 ·have:=h1 zs g
  rw[←e,zt]at this;show(Txt.upper z).cps.size≤400;omega
def lV(i:0<zs.length)(h6:zs.length≤24)(wo:∀z∈zs,fb z):Tx ws (Txt.join " " zs):=by
 have hs:Txt.split (Txt.join " " zs) ⟨#[32]⟩=zs:=fy (c:=32) (λe=>by rw[e]at i;exact absurd i ⋯) λx g f=>((wo x g).fr 32 f).1 rfl;have a:=my " " zs;have c:=pw (c:=400) λx g=>(wo x g).len;have e:(" ":Str).length=1:=rfl;rw[e]at a;refine{{(),λc b=>?_},(),by rw[hs];exact{(),λy d=>{{qg (wo y d).len ⋯,λc b=>((wo y d).fr c b).2},qg (wo y d).len ⋯}},by rw[hs];exact λy d h=>((wo y d).fr 32 h).1 rfl};rcases sP (s:=32) b with rfl|⟨w,hw,b⟩
 ·decide
 ·exact((wo w hw).fr c b).2
structure gE(ws wl:List Str):Prop where
 pos:0<wl.length
 bg:wl.length≤24
 wo:∀y∈wl,fb y
 rf:Ref ws (Txt.join " " wl)
def gE.tx(h:gE ws a):Tx ws (Txt.join " " a):=lV h.pos h.bg h.wo
def ra(d:y∈a)(b:c∈y.cps.toList)(e:c≠32)(f:Al c=false):Ref ws (Txt.join " " a):=tf (MR (s:=32) d b) e f
def FD(b:("":Str)∈a)(wo:∀y∈a,fb y):Ref ws (Txt.join " " a):=by
 have hs:Txt.split (Txt.join " " a) ⟨#[32]⟩=a:=fy (c:=32) (λe=>by rw[e]at b;exact nomatch b) λx f d=>((wo x f).fr 32 d).1 rfl
 exact xj (y:="") (by rw[hs];exact b) λh=>absurd h.pos ⋯
section
variable {ws:List Str}{za:Str}{n:Int}{cs:List Int}{b:PyData}{wt:List PyData}{aK:List Str}
variable (D:ie ws za n cs b wt aK)(hw:∀w∈ws,a8 w)(h2:2≤ws.length)(h6:ws.length≤6)
include D hw h2 h6
theorem ie.wo:∀y∈w0 za n cs b aK,fb y:=λy d=>by
 refine hH (D.gf hw () h6 y d) ?_
 simp only[List.mem_cons]at d
 rcases d with rfl|rfl|rfl|rfl|d
 ·exact qg (bK (hw _ D.qK)) ⋯
 ·exact qg (n4 ⟨by have:=D.n1;omega,by have:=D.n2;omega⟩) ⋯
 ·have:=vG (ds:=cs.map PyData.int) (by rw[qf,D.lc];omega) λx e=>by
   obtain⟨i,hi,rfl⟩:=qk.mp e;exact .inr {i,Y,(D.hc i hi).1,by have:=(D.hc i hi).2;omega}
  rw[zq]at this;exact qg this ⋯
 ·refine qg (vQ ?_) ⋯
  rcases D.br with hb|⟨a,c,hb,ha,hc⟩
  ·exact .inl hb
  ·exact .inr ⟨a,c,hb,bK (hw a ha),bK hc⟩
 ·exact qg (D.bg.2 y d) ⋯
end
section
variable {ws:List Str}{za:Str}{n:Int}{cs:List Int}{b:PyData}{wt:List PyData}{aK:List Str}
def n6{x y:Str}{k:Nat}(h:y.length=k)(h2:x.length+k≤400):x.length+y.length≤400:=()
def EJ{x y:Str}{k:Nat}(h:y.length=k)(h2:x.length+k≤400):y.length+x.length≤400:=()
abbrev cW(cs:List Int):Str:=Txt.join "," (cs.map λc=>(toString c:Str))
def RK(h:44∈x.cps.toList):Txt.replace x "," {#[d]}=Txt.join {#[d]} (Txt.split x {#[44]})/\2≤(Txt.split x {#[44]}).length:=by
 have c:(Builtin.Str.occurrences x ⟨#[44]⟩ 0 x.length (x.length+1)).isEmpty=false/\(decide (x.length<(⟨#[44]⟩:Str).length)||decide (Builtin.Str.strKind x<Builtin.Str.strKind ⟨#[44]⟩))=false:=by
  by_cases b:(decide (x.length<(⟨#[44]⟩:Str).length)||decide (Builtin.Str.strKind x<Builtin.Str.strKind ⟨#[44]⟩))=true
  ·rw[vn]at b
   rcases b with b|b
   ·have b:x.cps.size<1:=qB b
    have:x.cps.toList=[]:=List.length_eq_zero_iff.mp (by rw[zt];omega);rw[this]at h;exact nomatch h
   ·have b:=qB b
    have e:Builtin.Str.strKind ⟨#[44]⟩=1:=∅
    rw[e]at b;unfold Builtin.Str.strKind at b
    split at b
    ·omega
    ·split at b <;> omega
  ·have b:(decide (x.length<(⟨#[44]⟩:Str).length)||decide (Builtin.Str.strKind x<Builtin.Str.strKind ⟨#[44]⟩))=false:=by simpa using b
   refine{?_,b}
   cases f:(Builtin.Str.occurrences x ⟨#[44]⟩ 0 x.length (x.length+1)).isEmpty with
   |false=>rfl
   |true =>
    have es:Txt.split x ⟨#[44]⟩=[x]:=(qq (ne_true_of_eq_false b)).trans (q0 f);exact absurd h (split_free (z:=x) (s:=44) (by rw[es];simp))
 have es:Txt.split x ⟨#[44]⟩=Builtin.Str.partsBetween x (Builtin.Str.occurrences x ⟨#[44]⟩ 0 x.length (x.length+1)) 1:=(qq (ne_true_of_eq_false c.2)).trans (qq (ne_true_of_eq_false c.1));refine{?_,?_}
 ·rw[es]
  have:((Builtin.Str.occurrences x "," 0 x.length (x.length+1)).isEmpty||((",":Str).length==0&&(⟨#[d]⟩:Str).length==0))=false:=by
   have e:(",":Str)=⟨#[44]⟩:=∅
   rw[e,c.1];rfl
  exact qq (ne_true_of_eq_false this)
 ·rw[es,length_partsBetween]
  cases f:Builtin.Str.occurrences x ⟨#[44]⟩ 0 x.length (x.length+1) with
  |nil=>rw[f]at c;exact absurd c.1 ⋯
  |cons a r=>simp
variable (D:ie ws za n cs b wt aK)(hw:∀w∈ws,a8 w)(h2:2≤ws.length)(h6:ws.length≤6)
include D hw h2 h6
theorem vS(e:∀y∈a,y∈w0 za n cs b aK)(c:0<a.length)(l:a.length≤20)(r:Ref ws (Txt.join " " a)):gE ws a:={c,(),λy d=>D.wo hw h2 h6 y (e y d),r}
theorem oN(x:Str)(f:∀y∈a,y=x\/y∈w0 za n cs b aK)(c:fb x)(d:0<a.length)(l:a.length≤20)(r:Ref ws (Txt.join " " a)):gE ws a:={d,(),λy e=>by
 rcases f y e with rfl|h
 ·exact c
 ·exact D.wo hw h2 h6 y h,r}
theorem M8:za.length≤8:=bK (hw _ D.qK)
theorem J3:(toString n:Str).length≤7:=n4 {by have:=D.n1;omega,by have:=D.n2;omega}
theorem uB:(cW cs).length≤100:=by
 have:=vG (ds:=cs.map PyData.int) (by rw[qf,D.lc];omega) λx a=>by
  obtain⟨i,hi,rfl⟩:=qk.mp a;exact .inr {i,Y,(D.hc i hi).1,by have:=(D.hc i hi).2;omega}
 rw[zq]at this;exact this
theorem J_:∃c,c∈za.cps.toList/\97≤c/\c≤122:=by
 have h:=hw _ D.qK;have b:=h.1;rw[←zt]at b;have a:=vk b;exact{_,a,(h.2.2 _ a).1,(h.2.2 _ a).2}
theorem tz(h1:97≤c)(h2:c≤122):Al (c - 32)=false:=by
 have:∀c<123,97≤c->Al (c - 32)=false:=⋯
 exact this c () h1
theorem Ld:44∈(cW cs).cps.toList:=by
 obtain⟨c1,c2,r,rfl⟩:=D.two h2;exact nz (s:=44)
theorem lI:aK.length+4≤19:=by have:=D.bg.1;omega
theorem zW:∀y∈w0 za n cs b aK,fb y:=D.wo hw h2 h6
theorem RO:gE ws (toString n::cW cs::cz b::aK):=vS D hw h2 h6 (λy a=>List.mem_cons_of_mem _ a) (by simp) (by have:=lI D hw h2 h6;simp only[List.length_cons];omega) (Tv D hw h2 h6)
theorem PZ:gE ws (za::cW cs::cz b::aK):=vS D hw h2 h6 (λy a=>by simp at a ⊢;rcases a with h|h|h|h <;> simp[h,cW]) (by simp) (by have:=lI D hw h2 h6;simp only[List.length_cons];omega) (Tw D hw h2 h6)
theorem QS:gE ws (za::toString n::cz b::aK):=vS D hw h2 h6 (λy a=>by simp at a ⊢;rcases a with h|h|h|h <;> simp[h,cW]) (by simp) (by have:=lI D hw h2 h6;simp only[List.length_cons];omega) (Tc D hw h2 h6)
theorem Qs:gE ws (za::toString n::cW cs::aK):=vS D hw h2 h6 (λy a=>by simp at a ⊢;rcases a with h|h|h|h <;> simp[h,cW]) (by simp) (by have:=lI D hw h2 h6;simp only[List.length_cons];omega) (Td D hw h2 h6)
theorem sA(c:fb x)(r:Ref ws (Txt.join " " (x::toString n::cW cs::cz b::aK))):gE ws (x::toString n::cW cs::cz b::aK):=oN D hw h2 h6 x (λy a=>by simp at a ⊢;rcases a with h|h|h|h|h <;> simp[h,cW]) c (by simp) (by have:=lI D hw h2 h6;simp only[List.length_cons];omega) r
theorem sN(c:fb x)(r:Ref ws (Txt.join " " (za::x::cW cs::cz b::aK))):gE ws (za::x::cW cs::cz b::aK):=oN D hw h2 h6 x (λy a=>by simp at a ⊢;rcases a with h|h|h|h|h <;> simp[h,cW]) c (by simp) (by have:=lI D hw h2 h6;simp only[List.length_cons];omega) r
theorem sC(c:fb x)(r:Ref ws (Txt.join " " (za::toString n::x::cz b::aK))):gE ws (za::toString n::x::cz b::aK):=oN D hw h2 h6 x (λy a=>by simp at a ⊢;rcases a with h|h|h|h|h <;> simp[h,cW]) c (by simp) (by have:=lI D hw h2 h6;simp only[List.length_cons];omega) r
theorem sB(b:fb x)(r:Ref ws (Txt.join " " (za::toString n::cW cs::x::aK))):gE ws (za::toString n::cW cs::x::aK):=oN D hw h2 h6 x (λy a=>by simp at a ⊢;rcases a with h|h|h|h|h <;> simp[h,cW]) b (by simp) (by have:=lI D hw h2 h6;simp only[List.length_cons];omega) r
theorem sK(e:aK=k::a)(d:fb x)(r:Ref ws (Txt.join " " (za::toString n::cW cs::cz b::x::a))):gE ws (za::toString n::cW cs::cz b::x::a):=oN D hw h2 h6 x (λy c=>by subst e;simp at c ⊢;rcases c with h|h|h|h|h|h <;> simp[h,cW]) d (by simp) (by have:=lI D hw h2 h6;rw[e]at this;simp only[List.length_cons]at this ⊢;omega) r
theorem Rl:gE ws (Txt.upper za::toString n::cW cs::cz b::aK):=by
 obtain⟨c,a,c1,c2⟩:=J_ D hw h2 h6;exact sA D hw h2 h6 (uy (eN (hw _ D.qK)) (by have:=M8 D hw h2 h6;omega)) (ra qo (sF a c1 c2) () (tz D hw h2 h6 c1 c2))
theorem Pf:gE ws ((za++"zzzzzzzz")::toString n::cW cs::cz b::aK):=sA D hw h2 h6 (gI (zW D hw h2 h6 za (by simp)) (bQ ∅) (by have:=M8 D hw h2 h6;exact n6 (k:=8) ∅ ())) (Tt D hw h2 h6)
theorem Dy:fb (toString n)/\(toString n:Str).length≤7:={zW D hw h2 h6 _ (by simp),J3 D hw h2 h6}
theorem xP:fb (cW cs)/\(cW cs).length≤100:={zW D hw h2 h6 _ (.tail _ (.tail _ (.head _))),uB D hw h2 h6}
theorem OW:gE ws (za::("0"++toString n)::cW cs::cz b::aK):=sN D hw h2 h6 (gI (bQ ∅) (Dy D hw h2 h6).1 (by have:=(Dy D hw h2 h6).2;exact EJ (k:=1) ∅ ())) (by
 have e:("0":Str)=⟨#[48]⟩:=∅
 rw[e]
 exact Tu D hw h2 h6)
theorem RB:gE ws (za::("+"++toString n)::cW cs::cz b::aK):=sN D hw h2 h6 (gI (bQ ∅) (Dy D hw h2 h6).1 (by have:=(Dy D hw h2 h6).2;exact EJ (k:=1) ∅ ()))
 (ra (y:="+"++toString n) (c:=43) (by simp) (mC (.inl ∅)) ⋯ ⋯)
theorem OX:gE ws (za::((toString n++",")++toString n)::cW cs::cz b::aK):=sN D hw h2 h6 (by
 have l:=(Dy D hw h2 h6).2
 have e:(",":Str).length=1:=∅
 exact gI (gI (Dy D hw h2 h6).1 (bQ ∅) ()) (Dy D hw h2 h6).1 (by rw[bL];omega)) (by
 have e:(",":Str)=⟨#[44]⟩:=∅
 rw[e]
 exact T4 D hw h2 h6)
theorem OH:gE ws (za::("0":Str)::cW cs::cz b::aK):=sN D hw h2 h6 (bQ ∅) (S' D hw h2 h6)
theorem Jd:gE ws (za::toString n::(cW cs++",0")::cz b::aK):=sC D hw h2 h6 (gI (xP D hw h2 h6).1 (bQ ∅) (by have:=(xP D hw h2 h6).2;exact n6 (k:=2) ∅ ())) (Qo D hw h2 h6)
theorem Mb:gE ws (za::toString n::("0"++cW cs)::cz b::aK):=sC D hw h2 h6 (gI (bQ ∅) (xP D hw h2 h6).1 (by have:=(xP D hw h2 h6).2;exact EJ (k:=1) ∅ ())) (by
 have e:("0":Str)=⟨#[48]⟩:=∅
 rw[e]
 exact ON D hw h2 h6)
theorem LZ:gE ws (za::toString n::(cW cs++",")::cz b::aK):=sC D hw h2 h6 (gI (xP D hw h2 h6).1 (bQ ∅) (by have:=(xP D hw h2 h6).2;exact n6 (k:=1) ∅ ())) (Oh D hw h2 h6)
theorem Hr:gE ws (za::toString n::(Txt.replace (cW cs) "," ";")::cz b::aK):=by
 have i:=Ld D hw h2 h6;obtain⟨e,hl⟩:=RK (d:=59) i
 have j:(";":Str)=⟨#[59]⟩:=∅
 have k:=xP D hw h2 h6;have es:=nM (z:=cW cs) (s:=44) rfl;refine sC D hw h2 h6 ?_ (ra (y:=Txt.replace (cW cs) "," ";") (c:=59) (by simp) ?_ ⋯ ⋯)
 ·rw[j,e]
  refine{uh ⋯ λw g c f=>k.1.fr c ((jL g).1 c f),?_};have a:=my {#[59]} (Txt.split (cW cs) {#[44]});have nL:=nL D hw h2 h6
  have p:(Txt.split (cW cs) ⟨#[44]⟩).length=ws.length:=by
   have:Txt.split (cW cs) ⟨#[44]⟩=cs.map λc=>(toString c:Str):=fy (c:=44) (oI D hw h2 h6) nL;rw[this,qf,D.lc]
  have sm:((Txt.split (cW cs) ⟨#[44]⟩).map λw=>w.length).sum≤100:=by
   have:Txt.split (cW cs) ⟨#[44]⟩=cs.map λc=>(toString c:Str):=fy (c:=44) (oI D hw h2 h6) nL;rw[this]
   have:∀l:List Int,(∀c∈l,0≤c/\c≤1000000)->l.length≤6->((l.map λc=>(toString c:Str)).map λw=>w.length).sum≤7 * l.length:=λl=>by
    induction l with
    |nil=>exact λ_ _=>qi _
    |cons a r m =>
     intro h hl;have:=m (λc f=>h c (List.mem_cons_of_mem _ f)) (by simp at hl;omega);have:=n4 (n:=a) {(h a qo).1,by have:=(h a qo).2;omega}
     simp only[List.map_cons,List.sum_cons,List.length_cons]
     omega
   have:=this cs D.hc (by rw[D.lc];exact h6);rw[D.lc]at this;omega
  have o:(⟨#[59]⟩:Str).length=1:=rfl;rw[o]at a;omega
 ·rw[j,e]
  match hs:Txt.split (cW cs) ⟨#[44]⟩,hl with
  |x::y::r,_=>exact nz (s:=59)
end
section
variable {ws:List Str}{za:Str}{n:Int}{cs:List Int}{b:PyData}{wt:List PyData}{aK:List Str}
variable (D:ie ws za n cs b wt aK)(hw:∀w∈ws,a8 w)(h2:2≤ws.length)(h6:ws.length≤6)
include D hw h2 h6
theorem Ka:gE ws (za::toString n::cW cs::("a.b.c":Str)::aK):=sB D hw h2 h6 (bQ ∅) (OJ D hw h2 h6)
theorem Mv(h1:a8 a):gE ws (za::toString n::cW cs::(a++".")::aK):=sB D hw h2 h6 (gI (hH (eN h1) (qg (bK h1) ⋯)) (bQ ∅) (by have:=bK h1;exact n6 (k:=1) ∅ ())) (P7 D hw h2 h6 h1)
theorem kd(e:aK=k::a):a8 k:=by
 obtain⟨h,b,rs,d,f⟩:=D.kind;rw[e]at d;cases d
 have g:∀p∈iP,(decide (0<p.1.cps.size)&&(decide (p.1.cps.size≤8)&&p.1.cps.toList.all λc=>decide (97≤c/\c≤122)))=true:=∅
 exact vX (g _ f)
theorem ML(e:aK=k::a):gE ws (za::toString n::cW cs::cz b::Txt.upper k::a):=by
 have h:=kd D hw h2 h6 e;have d:=h.1;rw[←zt]at d;have c:=vk d;have c2:=h.2.2 _ c;exact sK D hw h2 h6 e (uy (eN h) (Nat.le_trans (bK h) ⋯)) (ra (y:=Txt.upper k) (by simp) (sF c c2.1 c2.2) () (tz D hw h2 h6 c2.1 c2.2))
theorem L9(e:aK=k::a):gE ws (za::toString n::cW cs::cz b::(k++"s")::a):=by
 have h:=kd D hw h2 h6 e;exact sK D hw h2 h6 e (gI (hH (eN h) (qg (bK h) ⋯)) (bQ ∅) (by have:=bK h;exact n6 (k:=1) ∅ ())) (O3 D hw h2 h6 e)
theorem sE(d:a.length=aK.length+5)(h:∀y∈a,y=x\/y∈w0 za n cs b aK)(c:fb x)(r:Ref ws (Txt.join " " a)):gE ws a:=oN D hw h2 h6 x h c () (by have:=D.bg.1;omega) r
theorem LN:gE ws (w0 za n cs b aK++[("??":Str)]):=sE D hw h2 h6 (x:="??") (by simp) (λy a=>by
 rcases zf.mp a with h|h
 ·exact .inr h
 ·exact .inl (List.mem_singleton.mp h)) (bQ ∅) (ra (y:="??") (c:=63) (by simp) ∅ ⋯ ⋯)
theorem Lq:gE ws (w0 za n cs b aK++[("":Str)]):=by
 have h:∀y∈w0 za n cs b aK++[("":Str)],y = "" \/ y∈w0 za n cs b aK:=λy a=>by
  rcases zf.mp a with h|h
  ·exact .inr h
  ·exact .inl (zh.mp h)
 refine sE D hw h2 h6 (x:="") (by simp) h (bQ ∅) (FD (by simp) λy a=>?_);rcases h y a with rfl|h
 ·exact bQ ∅
 ·exact D.wo hw h2 h6 y h
theorem Kg:gE ws (("":Str)::w0 za n cs b aK):=by
 have h:∀y∈("":Str)::w0 za n cs b aK,y = "" \/ y∈w0 za n cs b aK:=λy a=>qr.mp a;refine sE D hw h2 h6 (x:="") (by simp) h (bQ ∅) (FD (by simp) λy a=>?_);rcases h y a with rfl|h
 ·exact bQ ∅
 ·exact D.wo hw h2 h6 y h
theorem L5:gE ws (za::("":Str)::toString n::cW cs::cz b::aK):=by
 have h:∀y∈za::("":Str)::toString n::cW cs::cz b::aK,y = "" \/ y∈w0 za n cs b aK:=λy a=>by
  rcases qr.mp a with rfl|a
  ·exact .inr (.head _)
  ·rcases qr.mp a with h|a
   ·exact .inl h
   ·exact .inr (.tail _ a)
 refine sE D hw h2 h6 (x:="") (by simp) h (bQ ∅) (FD (by simp) λy a=>?_);rcases h y a with rfl|h
 ·exact bQ ∅
 ·exact D.wo hw h2 h6 y h
theorem IT:∃(e:List Str) (y:Str),w0 za n cs b aK=e++[y]/\fb y/\y.length≤399/\0<y.cps.size/\(∀x∈e,fb x)/\e.length+1≤20:=by
 have d:w0 za n cs b aK≠[]:=by simp
 have f:=D.gf hw () h6;have wo:=D.wo hw h2 h6;refine{(w0 za n cs b aK).dropLast,(w0 za n cs b aK).getLast d,(gi d).symm,wo _ (gj d),?_,(f _ (gj d)).pos,λx g=>wo x (List.dropLast_subset _ g),?_}
 ·have hm:=gj d
  generalize (w0 za n cs b aK).getLast d=y at hm
  simp only[List.mem_cons]at hm
  rcases hm with rfl|rfl|rfl|rfl|hy
  ·exact qg (bK (hw _ D.qK)) ⋯
  ·exact qg (n4 ⟨by have:=D.n1;omega,by have:=D.n2;omega⟩) ⋯
  ·exact qg (uB D hw h2 h6) ⋯
  ·refine qg (vQ ?_) ⋯
   rcases D.br with hb|⟨a,c,hb,ha,hc⟩
   ·exact .inl hb
   ·exact .inr ⟨a,c,hb,bK (hw a ha),bK hc⟩
  ·exact qg (D.bg.2 y hy) ⋯
 ·rw[List.length_dropLast]
  have:=D.bg.1
  simp only[List.length_cons]
  omega
theorem N6:Tx ws (Txt.join " " (w0 za n cs b aK)++"\n")/\Ref ws (Txt.join " " (w0 za n cs b aK)++"\n"):=by
 refine{?_,tf (c:=10) (mC (.inr ∅)) ⋯ ⋯};obtain⟨a,y,e,f,l,_,g,i⟩:=IT D hw h2 h6;rw[e,show Txt.join " " (a++[y])++"\n"=Txt.join " " (a++[y++"\n"]) from C1 (s:=32) _];refine lV (by simp) (by simp;omega) λz d=>?_;rcases zf.mp d with h|h
 ·exact g z h
 ·rw[zh.mp h]
  exact gI f (bQ ∅) (n6 (k:=1) ∅ ())
theorem NS:Tx ws (aJ (Txt.join " " (w0 za n cs b aK)) none (some (-1))++"?")/\Ref ws (aJ (Txt.join " " (w0 za n cs b aK)) none (some (-1))++"?"):=by
 refine{?_,tf (c:=63) (mC (.inr ∅)) ⋯ ⋯};obtain⟨f,y,e,i,l,o,j,p⟩:=IT D hw h2 h6
 obtain⟨a,c,rfl⟩:∃(a:Str) (c:Nat),y=a++(⟨#[c]⟩:Str):=by
  obtain⟨⟨zs⟩⟩:=y
  have g:zs≠[]:=λe=>by subst e;exact absurd o ⋯
  exact{{{zs.dropLast}},zs.getLast g,cC (by rw[aT];exact(gi g).symm)}
 rw[e,←show Txt.join " " (f++[a])++{#[c]}=Txt.join " " (f++[a++{#[c]}]) from C1 (s:=32) _,Ga,show Txt.join " " (f++[a])++"?"=Txt.join " " (f++[a++"?"]) from C1 (s:=32) _];refine lV (by simp) (by simp;omega) λz g=>?_;rcases zf.mp g with h|h
 ·exact j z h
 ·rw[zh.mp h]
  rw[bL]at l;exact gI {λd m=>i.fr d (mC (.inl m)),()} (bQ ∅) (n6 (k:=1) ∅ ())
theorem Sv:Tx ws (Txt.upper (Txt.join " " (w0 za n cs b aK)))/\Ref ws (Txt.upper (Txt.join " " (w0 za n cs b aK))):=by
 have e:=D.gf hw () h6;have wo:=D.wo hw h2 h6;constructor
 ·rw[Rz]
  refine lV (by simp) (by have:=D.bg.1;simp only[List.length_map,List.length_cons];omega) λz d=>?_;obtain⟨y,a,rfl⟩:=qk.mp d;exact uy (e y a) (wo y a).len
 ·obtain⟨c,f,c1,c2⟩:=J_ D hw h2 h6
  exact tf (sF (MR (s:=32) (w:=za) (by simp) f) c1 c2) () (tz D hw h2 h6 c1 c2)
end
def OS(h:c∈x.cps.toList):∃p q:Str,x=Txt.join {#[c]} [p,q]/\gZ x {#[c]} {#[d]} 1=Txt.join {#[d]} [p,q]:=by
 have i:=StrLaws.found_one x c;rw[qs h]at i
 have g:(Builtin.Str.occurrences x ⟨#[c]⟩ 0 x.length 1).isEmpty=false:=by simpa using i
 have hl:=StrLaws.occ_length_le x {#[c]} 0 x.length 1;have j:=length_partsBetween x (Builtin.Str.occurrences x {#[c]} 0 x.length 1) 1;have b:=StrLaws.glued_between_self x {#[c]} 1
 have f:gZ x ⟨#[c]⟩ ⟨#[d]⟩ 1=Builtin.Str.glued ⟨#[d]⟩ (Builtin.Str.partsBetween x (Builtin.Str.occurrences x ⟨#[c]⟩ 0 x.length 1) 1):=by
  unfold gZ;exact qq (ne_true_of_eq_false (by rw[g];rfl))
 have b:Builtin.Str.glued ⟨#[c]⟩ (Builtin.Str.partsBetween x (Builtin.Str.occurrences x ⟨#[c]⟩ 0 x.length 1) 1)=x:=b
 cases e:Builtin.Str.occurrences x ⟨#[c]⟩ 0 x.length 1 with
 |nil=>rw[e]at g;exact absurd g ⋯
 |cons a r =>
  rw[e]at hl j b f
  have:r=[]:=by simpa using hl
  subst this
  match Builtin.Str.partsBetween x [a] 1,j,b,f with
  |[p,q],_,b,f=>exact{p,q,b.symm,f}
theorem wM(s:Nat):∀(xs ys:List (List Nat)),xs≠[]->ys≠[]->jl s (xs++ys)=jl s xs++s::jl s ys
 |[],_,h,_=>absurd rfl h
 |[a],y::ys,_,_=>rfl
 |[a],[],_,h=>absurd rfl h
 |a::b::r,ys,_,h=>by
  show a++s::jl s ((b::r)++ys)=(a++s::jl s (b::r))++s::jl s ys;rw[wM s (b::r) ys (by simp) h,List.append_assoc];rfl
def vV(s:Nat)(x:List Nat)(h:l≠[]):jl s (x::l)=x++s::jl s l:=by
 cases l with
 |nil=>exact absurd rfl h
 |cons a r=>rfl
def QM(s:Nat)(t a:List Nat):∀r:List (List Nat),t++jl s (a::r)=jl s ((t++a)::r)
 |[]=>rfl
 |b::r=>by
  show t++(a++s::jl s (b::r))=(t++a)++s::jl s (b::r);rw[vt]
theorem MV(s:Nat)(t a c:List Nat)(B:List (List Nat)):∀A:List (List Nat),jl s (A++[a])++(t++jl s (c::B))=jl s (A++[a++(t++c)]++B)
 |[]=>by
  show a++(t++jl s (c::B))=jl s ((a++(t++c))::B);rw[←vt,QM,vt]
 |x::A=>by
  show jl s (x::(A++[a]))++_=jl s (x::(A++[a++(t++c)]++B));rw[vV s x (by simp),vV s x (by simp),List.append_assoc,List.cons_append,MV s t a c B A]
section
variable {ws:List Str}{za:Str}{n:Int}{cs:List Int}{b:PyData}{wt:List PyData}{aK:List Str}
variable (D:ie ws za n cs b wt aK)(hw:∀w∈ws,a8 w)(h2:2≤ws.length)(h6:ws.length≤6)
include D hw h2 h6
theorem PK:Tx ws (gZ (Txt.join " " (w0 za n cs b aK)) " " "\t" 1)/\Ref ws (gZ (Txt.join " " (w0 za n cs b aK)) " " "\t" 1):=by
 have k:32∈(Txt.join " " (w0 za n cs b aK)).cps.toList:=nz (s:=32);obtain⟨p,q,H,M⟩:=OS (d:=9) k;have v:gZ (Txt.join " " (w0 za n cs b aK)) " " "\t" 1=Txt.join ⟨#[9]⟩ [p,q]:=M;have fr:=D.fr hw h2 h6;have wo:=D.wo hw h2 h6;refine{?_,by rw[v];exact tf (c:=9) (nz (s:=9)) ⋯ ⋯};rw[v];obtain⟨ps,r,E,F⟩:=rb 32 p.cps.toList;obtain⟨g,u,C,N⟩:=rb 32 q.cps.toList
 have I:jl 32 (ps++g)=jl 32 ((w0 za n cs b aK).map λw=>w.cps.toList):=by
  rw[wM 32 ps g r u,E,C];have:=congrArg (λz:Str=>z.cps.toList) H;have this:(Txt.join ⟨#[32]⟩ (w0 za n cs b aK)).cps.toList=(Txt.join ⟨#[32]⟩ [p,q]).cps.toList:=this;rw[ig,ig]at this;exact this.symm
 have hi:=Ek (c:=32) (by simp[r]) (by simp) (λx j=>by
  rcases zf.mp j with h|h
  ·exact F x h
  ·exact N x h) (λy m=>by obtain⟨w,e,rfl⟩:=qk.mp m;exact fr w e) I
 obtain⟨A,a,rfl⟩:∃A a,ps=A++[a]:={_,_,(gi r).symm}
 obtain⟨c,B,rfl⟩:∃c B,g=c::B:=match g,u with|c::B,_=>{c,B,Y}
 have i:∀x∈A++[a]++c::B,((∀d∈x,d≠32/\d<16 ^ 8)/\x.length≤199):=λx j=>by
  rw[hi]at j;obtain⟨w,e,rfl⟩:=qk.mp j;refine{(wo w e).fr,?_};rw[zt]
  simp only[List.mem_cons]at e
  rcases e with rfl|rfl|rfl|rfl|m
  ·exact qg (bK (hw _ D.qK)) ⋯
  ·exact qg (n4 ⟨by have:=D.n1;omega,by have:=D.n2;omega⟩) ⋯
  ·exact qg (uB D hw h2 h6) ⋯
  ·refine qg (vQ ?_) ⋯
   rcases D.br with hb|⟨a,c,hb,t,o⟩
   ·exact .inl hb
   ·exact .inr ⟨a,c,hb,bK (hw a t),bK o⟩
  ·exact qg (D.bg.2 _ m) ⋯
 have J:(A++[a]++c::B).length=aK.length+4:=by rw[hi];simp
 have O:Txt.join ⟨#[9]⟩ [p,q]=Txt.join " " ((A++[(a++([9]++c))]++B).map λl=>(⟨⟨l⟩⟩:Str)):=cC (by
  have K:∀l:List Str,(Txt.join " " l).cps.toList=jl 32 (l.map λw=>w.cps.toList):=λl=>ig (s:=32) l;rw[ig,K,zq];have L:∀l:List (List Nat),l.map ((λw:Str=>w.cps.toList)∘λl=>(⟨⟨l⟩⟩:Str))=l:=λl=>List.map_id l;rw[L];show p.cps.toList++9::q.cps.toList=_;rw[←E,←C]
  exact MV 32 [9] a c B A)
 rw[O];refine lV (by simp;omega) (by simp at J ⊢;have:=D.bg.1;omega) λz G=>?_;obtain⟨l,hl,rfl⟩:=qk.mp G;have t:=i a (by simp);have o:=i c (by simp)
 have:(∀d∈l,d≠32/\d<16 ^ 8)/\l.length≤400:=by
  simp only[List.mem_append,List.mem_singleton]at hl
  rcases hl with(hl|rfl)|hl
  ·have:=i l (by simp[hl]);exact{this.1,()}
  ·refine{λd f=>?_,by simp;omega}
   rcases zf.mp f with f|f
   ·exact t.1 d f
   ·rcases qr.mp f with rfl|f
    ·decide
    ·exact o.1 d f
  ·have:=i l (by simp[hl]);exact{this.1,()}
 exact{this.1,this.2}
end
section
variable {ws ws':List Str}(hm:∀z,z∈ws'↔z∈ws)(hl:ws'.length=ws.length)
include hm
theorem IR:CF ws'=CF ws:=funext λt=>by
 unfold CF
 split
 ·exact decide_eq_decide.mpr (hm _)
 ·rfl
theorem rY:a_ ws'=a_ ws:=funext λt=>by unfold a_;rw[IR hm]
theorem LL:fP ws'=fP ws:=funext λt=>by unfold fP;rw[IR hm]
theorem J5:du ws'=du ws:=funext λt=>by unfold du;rw[rY hm]
theorem B9:kS ws'=kS ws:=funext λt=>by unfold kS;rw[rY hm]
theorem A1:fE ws'=fE ws:=funext λt=>by unfold fE;rw[rY hm]
theorem IZ:o6 ws'=o6 ws:=funext λt=>by unfold o6;rw[A1 hm]
theorem DJ:fS ws'=fS ws:=funext λt=>by unfold fS;rw[A1 hm]
theorem Kc:eI ws'=eI ws:=funext λt=>by unfold eI;rw[J5 hm]
theorem Om:dF ws'=dF ws:=funext λt=>by unfold dF;rw[Kc hm]
theorem Hq:gP ws'=gP ws:=funext λt=>by unfold gP;rw[A1 hm]
theorem QD:bN ws'=bN ws:=funext λt=>by unfold bN;rw[LL hm]
include hl
theorem Lh:bu ws'=bu ws:=funext λt=>by unfold bu;rw[hl]
theorem OM(f:Fm):l6 ws' f=l6 ws f:=by
 cases f with
 |part=>exact J5 hm
 |name=>exact rY hm
 |vu=>exact IZ hm
 |signs=>exact Om hm
 |pX=>exact Hq hm
 |side=>exact DJ hm
 |line=>exact B9 hm
 |hand=>exact LL hm
 |counts=>exact Lh hm hl
 |_=>rfl
theorem MG:∀(fs:List Fm) (ts:List Th),all2 ws' fs ts=all2 ws fs ts
 |[],_=>rfl
 |_::_,[]=>rfl
 |f::fs,t::ts=>by
  show(l6 ws' f t&&all2 ws' fs ts)=(l6 ws f t&&all2 ws fs ts);rw[OM hm hl f,MG fs ts]
theorem EO(n:Int):bX ws' n=bX ws n:=funext λt=>by
 have h:=MG hm hl;unfold bX
 split
 ·split
  ·rw[h]
  ·rfl
 ·rfl
theorem By:c9 ws' (.tup [a,.int n,c,d,e])=(a_ ws (.tup [a,.int n])&&(bu ws c&&(kO ws' a (.int n) c&&(bN ws d&&bX ws n e)))):=by
 show(a_ ws' (.tup [a,.int n])&&(bu ws' c&&(kO ws' a (.int n) c&&(bN ws' d&&bX ws' n e))))=_;rw[rY hm,Lh hm hl,QD hm,EO hm hl]
end
section
variable {ws ws':List Str}{za:Str}{n:Int}{cs:List Int}{b:PyData}{wt:List PyData}{aK:List Str}
def Jp(D:ie ws za n cs b wt aK)(hw:∀w∈ws,a8 w)(hm:∀z,z∈ws'↔z∈ws)(hl:ws'.length=ws.length):c9 ws' (cU (d0 za n cs b wt))=decide (cs[ws'.idxOf za]?=some (n - 1)):=by
 have h:=D.En hw;have h:(a_ ws (.tup [.str za,.int n])&&(bu ws (.tup (aQ (cs.map PyData.int)))&&(kO ws (.str za) (.int n) (.tup (aQ (cs.map PyData.int)))&&(bN ws (cU b)&&bX ws n (.tup (aQ wt))))))=true:=h
 simp only[Bool.and_eq_true]at h
 obtain⟨h1,h2,_,f,g⟩:=h;have e:=By hm hl (a:=.str za) (n:=n) (c:=.tup (aQ (cs.map PyData.int))) (d:=cU b) (e:=.tup (aQ wt));rw[h1,h2,f,g]at e;refine e.trans ?_;rw[zu,zu,ge,ge];show(match(aQ (cs.map PyData.int))[ws'.idxOf za]? with|some (.int c)=>decide (c=n - 1)|_=>false)=_;rw[fv,zq,zj]
 cases cs[ws'.idxOf za]? with
 |none=>rfl
 |some c =>
  show decide (c=n - 1)=decide (some c=some (n - 1));exact decide_eq_decide.mpr (by simp)
def RJ(D:ie ws za n cs b wt aK)(hw:∀w∈ws,a8 w)(h1:1≤ws.length)(h6:ws.length≤6)(hm:∀z,z∈ws'↔z∈ws)(hl:ws'.length=ws.length)(no:cs[ws'.idxOf za]?≠some (n - 1)):Ref ws' (Txt.join " " (w0 za n cs b aK)):=λd a=>by
 rw[ov _ _ _ a (D.rd hw h1 h6),Jp D hw hm hl];exact decide_eq_false no
def BU(D:ie ws za n cs b wt aK)(hw:∀w∈ws,a8 w)(h2:2≤ws.length)(h6:ws.length≤6):Tx ws' (Txt.join " " (w0 za n cs b aK)):=lV (by simp) (by have:=D.bg.1;simp only[List.length_cons];omega) (D.wo hw h2 h6)
end
def OB(ws:List Str)(z:Str):z∈ws.drop 1++ws.take 1↔z∈ws:=by
 cases ws with
 |nil=>simp
 |cons a r=>simp[or_comm]
def GZ(ws:List Str)(n:Int)(a:List Str):Prop:=∀ds,iK ds a->bX ws n (.tup (aQ ds))=true->False
theorem vN:∀{fs:List Fm} {ts:List Th} {i:Nat} {f:Fm} {t:Th},all2 ws fs ts=true->fs[i]?=some f->ts[i]?=some t->l6 ws f t=true
 |f::fs,t::ts,i,g,u,h,e1,e2=>by
  have h:=(qv _ _).mp (show(l6 ws f t&&all2 ws fs ts)=true from h)
  cases i with
  |zero=>cases e1;cases e2;exact h.1
  |succ i=>exact vN h.2 e1 e2
 |[],_,_,_,_,_,e1,_=>by simp at e1
 |_::_,[],_,_,_,_,_,e2=>by simp at e2
def cq{fs:List Fm}(i:Nat)(r:Rm)(f:Fm)(y:Str)(o:dP k=some rs)(e:cF k=some fs)(m:rs[i]?=some r)(a:fs[i]?=some f)(p:rest[i]?=some y)(h:∀d,zC r d y->l6 ws f (cU d)=true->False):GZ ws n (k::rest):=λds q hm=>by
 cases q with
 |@mk _ _ l ds es h1 h2 s =>
  rw[o]at h1;cases h1;obtain⟨d,b,c⟩:=h2.2 i r y m p;have g:=mU hm e
  have j:(aQ (ds++es))[i]?=some (cU d):=by
   rw[fv,zj,ym (zr.mp b).1,b];rfl
  exact h d c (vN g.2.1 a j)
def IV{ws:List Str}{n m:Int}{k:Str}(i:k = "back" \/ k = "again")(c:0≤m)(h:¬m<n):GZ ws n [k,toString m]:=λds l hm=>by
 have b:dP k=some [.number]/\cF k=some [.num]/\k∈(["back","again"]:List Str):=by rcases i with rfl|rfl <;> exact{Y,Y,by simp}
 cases l with
 |@mk _ _ o ds es h1 h2 q =>
  rw[b.1]at h1;cases h1;obtain⟨d,f,p,rfl,j,e⟩:=h2.2 0 .number _ rfl rfl;have:=ml c j.1 e;subst this;have g:=(mU hm b.2.1).2.2 b.2.2
  obtain⟨r,rfl⟩:∃r,ds=.int m::r:=by
   cases ds with
   |nil=>cases f
   |cons a r=>cases f;exact{r,Y}
  exact h (qB (show decide (m<n)=true from g))
def n0(h:∀e,F2 fm e ys->dF ws (.tup (aQ e))=true->False):GZ ws n ("put"::a::b::ys):=λds j hm=>by
 cases j with
 |@mk _ _ rs ds es h1 h2 f =>
  have c:rs=[.part,.snN]:=(qD (show dP "put"=some rs from h1)).symm;subst c;have g:=mU hm (fs:=[.part,.vu,.signs]) rfl;have hl:ds.length=2:=h2.1.trans (by simp)
  obtain⟨x,y,rfl⟩:∃a b,ds=[a,b]:=match ds,hl with|[a,b],_=>{a,b,Y}
  cases f with
  |put _ h'=>exact h _ h' (vN (i:=2) g.2.1 rfl rfl)
  |out d k h'=>exact absurd rfl d
  |no d _=>exact absurd rfl d
def sH(h:∀d,F2 dH d ys->gP ws (.tup (aQ d))=true->False):GZ ws n ("out"::a::ys):=λds j hm=>by
 cases j with
 |@mk _ _ rs ds es h1 h2 f =>
  have b:rs=[.part]:=(qD (show dP "out"=some rs from h1)).symm;subst b;have g:=mU hm (fs:=[.part,.pX]) rfl;have hl:ds.length=1:=h2.1.trans (by simp)
  obtain⟨x,rfl⟩:∃a,ds=[a]:=match ds,hl with|[a],_=>{a,Y}
  cases f with
  |put c _=>exact absurd c ∅
  |out e c h'=>exact h _ h' (vN (i:=1) g.2.1 rfl rfl)
  |no _ e=>exact absurd rfl e
def v_(h q:Str):h++(({#[46]}:Str)++q)=Txt.join "." [h,q]:=cC (by
 rw[show Txt.join "." [h,q]=Txt.join {#[46]} [h,q] from rfl,ig,aT,aT];rfl)
def LH(h p q:Str):h++(({#[46]}:Str)++(p++(({#[46]}:Str)++q)))=Txt.join "." [h,p,q]:=cC (by
 rw[show Txt.join "." [h,p,q]=Txt.join {#[46]} [h,p,q] from rfl,ig,aT,aT,aT,aT];rfl)
def x2(f:a8 h)(g:46∉q.cps.toList)(r:bE d (Txt.join "." [h,q])):∃n,N7 n/\q=toString n/\d=.tuple [.str h,.int n]:=by
 obtain⟨w,n,rfl,hw,b,e⟩:=r;have i:=qQ hw b
 have a:Txt.split (Txt.join "." [h,q]) "."=[h,q]:=iN (wg _ _) λx c=>by
  simp only[List.mem_cons,List.not_mem_nil,or_false]at c
  rcases c with rfl|rfl
  ·exact m8 f
  ·exact g
 rw[e,i]at a;cases a;exact{n,b,Y,Y}
def xw(f:a8 h)(j:46∉p.cps.toList)(g:46∉q.cps.toList)(r:dH d (Txt.join "." [h,p,q])):∃n i,N7 n/\N7 i/\p=toString n/\q=toString i/\d=.tuple [.str h,.int n,.int i]:=by
 obtain⟨w,n,i,rfl,hw,b,hi,e⟩:=r;have k:=ub hw b hi
 have a:Txt.split (Txt.join "." [h,p,q]) "."=[h,p,q]:=iN (wg _ _) λx c=>by
  simp only[List.mem_cons,List.not_mem_nil,or_false]at c
  rcases c with rfl|rfl|rfl
  ·exact m8 f
  ·exact j
  ·exact g
 rw[e,k]at a;cases a;exact{n,i,b,hi,Y,Y,Y}
def Gg:¬bE d ".":=λ⟨w,n,_,hw,_,e⟩=>(oh (c:=46) hw (r:=[toString n])).resolve_right ⋯ (show Txt.join {#[46]} [w,toString n]={#[46]} from e.symm)
def nJ{n:Int}{m:Int}(a:0≤n)(hm:0≤m){q:Str}(e:q=({#[48]}:Str)++toString m):q≠toString n:=λb=>FU a hm (b.symm.trans e)
def SY{n:Int}(a:0≤n){q:Str}{c:Nat}(b:c∈q.cps.toList)(h:¬(48≤c/\c≤57)):q≠toString n:=λe=>h (kB a c (by rw[←e];exact b))
def q_(h:a_ ws (cU (.tuple [.str z,.int n]))=true):z∈ws/\1≤n/\n≤1000000:=by
 have h:((bp _&&decide (1≤n/\n≤1000000))&&decide (_∈ws))=true:=h;rw[qv,qv]at h;exact{qB h.2,qB h.1.2}
def zl(h:fE ws (cU (.tuple [.str z,.int n,.int i]))=true):z∈ws/\(1≤n/\n≤1000000)/\0≤i/\i≤1000000:=by
 have h:(a_ ws (.tup [.str _,.int n])&&decide (0≤i/\i≤1000000))=true:=h;rw[qv]at h;have a:=q_ (n:=n) h.1;exact{a.1,a.2,qB h.2}
def iM(l:List Str):(Txt.join " " l).cps.toList=jl 32 (l.map λw=>w.cps.toList):=ig (s:=32) l
structure BT(ws:List Str)(n:Int)(z:Str):Prop where
 out:∃k rest,z=Txt.join " " (k::rest)/\rest.length≤15/\(∀y∈k::rest,fb y)/\GZ ws n (k::rest)
def bt(e:z=Txt.join " " (k::rest))(no:GZ ws n (k::rest))(wo:∀y∈k::rest,fb y)(l:rest.length≤15:=by exact ze rfl):BT ws n z:={k,rest,e,l,wo,no}
def dI{P:Str->Prop}{a:Str}(h:P a):∀y∈[a],P y:=λy b=>by rw[zh.mp b];exact h
def aY{P:Str->Prop}{a:Str}{l:List Str}(h:P a)(t:∀y∈l,P y):∀y∈a::l,P y:=λy b=>by
 rcases qr.mp b with rfl|b
 ·exact h
 ·exact t y b
section
variable {ws:List Str}{h o:Str}{n:Int}
def wA(a:a8 h)(b:dC x=true)(l:x.length≤20:=by decide +kernel):fb (h++x):=gI (hH (eN a) (qg (bK a) ⋯)) (bQ b) (by have:=bK a;omega)
def wB(a:a8 h)(c:dC x=true)(b:dC y=true)(l:x.length≤20:=by decide +kernel)(d:y.length≤20:=by decide +kernel):fb (x++(h++y)):=gI (bQ c) (wA a b d) (by rw[bL];have:=bK a;omega)
def nB(c:a8 h)(q:Str)(e:x=({#[46]}:Str)++q)(a:46∉q.cps.toList)(no:∀m:Int,0≤m->1≤m->m≤1000000->q≠toString m):∀d,bE d (h++x)->a_ ws (cU d)=true->False:=λd r m=>by
 rw[e,v_]at r;obtain⟨k,f,b,rfl⟩:=x2 c a r;have:=q_ m;exact no k f.1 this.2.1 this.2.2 b
def nO(b:a8 o)(c:o∉ws)(q:Str)(e:x=({#[46]}:Str)++q)(a:46∉q.cps.toList):∀d,bE d (o++x)->a_ ws (cU d)=true->False:=λd r m=>by
 rw[e,v_]at r;obtain⟨k,g,f,rfl⟩:=x2 b a r;exact c (q_ m).1
def Pu(b:a8 h)(p q:Str)(e:x=({#[46]}:Str)++(p++(({#[46]}:Str)++q)))(f:46∉p.cps.toList)(c:46∉q.cps.toList)(no:∀m i:Int,1≤m->0≤i->i≤1000000->p=toString m->q=toString i->False):∀d,dH d (h++x)->fE ws (cU d)=true->False:=λd r m=>by
 rw[e,LH]at r;obtain⟨k,i,j,hi,g,a,rfl⟩:=xw b f c r;have:=zl m;exact no k i this.2.1.1 this.2.2.1 this.2.2.2 g a
def sO(b:a8 o)(f:o∉ws)(p q:Str)(e:x=({#[46]}:Str)++(p++(({#[46]}:Str)++q)))(c:46∉p.cps.toList)(a:46∉q.cps.toList):∀d,dH d (o++x)->fE ws (cU d)=true->False:=λd r m=>by
 rw[e,LH]at r;obtain⟨k,i,h,hi,j,g,rfl⟩:=xw b c a r;exact f (zl m).1
def lit{m k:Int}{q:Str}(e:q=toString k)(a:0≤k)(hm:0≤m)(h:q=toString m):m=k:=ml hm a (h.symm.trans e)
def Kw{q:Str}{k:Int}(b:0≤k)(e:q=({#[48]}:Str)++toString k):∀d,¬dM d q:=λd ⟨m,_,hm,a⟩=>nJ hm.1 b e a
def c0:("0":Str)=toString (0:Int):=∅
def c1:("1":Str)=toString (1:Int):=∅
def cM:("1000001":Str)=toString (1000001:Int):=∅
def z1:("01":Str)=({#[48]}:Str)++toString (1:Int):=∅
def z2:("02":Str)=({#[48]}:Str)++toString (2:Int):=∅
def z0:("00":Str)=({#[48]}:Str)++toString (0:Int):=∅
def Ta(a:a8 h):∀d,bE d (h++".0")->a_ ws (cU d)=true->False:=nB a "0" ∅ ∅ λm b h1 _ e=>by have:=lit c0 ⋯ b e;omega
def TF(a:a8 h):∀d,bE d (h++".1000001")->a_ ws (cU d)=true->False:=nB a "1000001" ∅ ∅ λm b h1 h2 e=>by have:=lit cM ⋯ b e;omega
def Jx(a:a8 h):∀d,bE d (h++".01")->a_ ws (cU d)=true->False:=nB a "01" ∅ ∅ λm b _ _=>nJ b ⋯ z1
def N5(a:a8 h):∀d,bE d (h++".1_0")->a_ ws (cU d)=true->False:=nB a "1_0" ∅ ∅ λm b _ _=>SY (c:=95) b ∅ ⋯
def S3(a:a8 o)(b:o∉ws):∀d,bE d (o++".1")->a_ ws (cU d)=true->False:=nO a b "1" ∅ ∅
def Ti(a:a8 h):∀d,dH d (h++".1.1000001")->fE ws (cU d)=true->False:=Pu a "1" "1000001" ∅ ∅ ∅ λm i _ h1 h2 _ e=>by have:=lit cM ⋯ h1 e;omega
def Ky(a:a8 h):∀d,dH d (h++".1.00")->fE ws (cU d)=true->False:=Pu a "1" "00" ∅ ∅ ∅ λm i _ h1 h2 _ e=>nJ h1 ⋯ z0 e
def Sm(a:a8 h):∀d,dH d (h++".01.0")->fE ws (cU d)=true->False:=Pu a "01" "0" ∅ ∅ ∅ λm i b h1 h2 e _=>nJ () ⋯ z1 e
def T2(a:a8 o)(b:o∉ws):∀d,dH d (o++".1.0")->fE ws (cU d)=true->False:=sO a b "1" "0" ∅ ∅ ∅
def rE(h:(a&&b)=true):a=true/\b=true:=(qv _ _).mp h
def Kv(g:a8 h)(b:60∉x.cps.toList/\62∉x.cps.toList):∀d,¬jE d (h++x):=λd ⟨_,y,_,_,_,e⟩=>by
 have a:∀c,c=60\/c=62->c∉(h++x).cps.toList:=λc f hm=>by
  rw[aT]at hm;rcases zf.mp hm with hm|hm
  ·have:=g.2.2 c hm;omega
  ·rcases f with rfl|rfl
   ·exact b.1 hm
   ·exact b.2 hm
 rcases e with⟨_,e⟩|⟨_,e⟩
 ·exact a 60 (.inl rfl) (by rw[e];exact mC (.inr ⋯))
 ·exact a 62 (.inr rfl) (by rw[e];exact mC (.inr ⋯))
def JP(e:x++({#[c]}:Str)=y++{#[d]}):x=y/\c=d:=by
 have e:=congrArg (λz:Str=>z.cps.toList) e;have e:(x++(⟨#[c]⟩:Str)).cps.toList=(y++(⟨#[d]⟩:Str)).cps.toList:=e;rw[aT,aT]at e;have:=List.append_inj' e rfl;exact{cC this.1,by have h:=this.2;have h:[c]=[d]:=h;cases h;rfl}
def La(e:x=h++(y++{#[60]}))(no:∀d,dH d (h++y)->fE ws (cU d)=true->False):∀d,jE d x->fS ws (cU d)=true->False:=λd ⟨ds,z,s,c,r,a⟩ m=>by
 have b:x=(h++y)++(⟨#[60]⟩:Str):=by rw[e];exact cC (by rw[aT,aT,aT,aT,vt])
 subst c;have m:(fE ws (cU ds)&&cH ["ahead","behind"] (.str s))=true:=m;rcases a with⟨_,a⟩|⟨_,a⟩
 ·rw[b]at a
  have:=(JP a).1;rw[←this]at r;exact no ds r (rE m).1
 ·rw[b]at a
  exact absurd (JP a).2 ⋯
def zQ(a:¬a8 x):∀d,¬cj d x:=λd ⟨_,h⟩=>a h
def w9(a:8<x.cps.size):¬a8 x:=λh=>by have:=h.2.1;omega
def wO:¬a8 ("abcdefghi":Str):=w9 ∅
def ou(e:({#[a]}:Str)++x=({#[b]}:Str)++y):a=b/\x=y:=by
 have e:=congrArg (λz:Str=>z.cps.toList) e;have e:((⟨#[a]⟩:Str)++x).cps.toList=((⟨#[b]⟩:Str)++y).cps.toList:=e;rw[aT,aT]at e;have e:a::x.cps.toList=b::y.cps.toList:=e;exact{(List.cons.inj e).1,cC (List.cons.inj e).2}
def EA(a:z=({#[42]}:Str)++y)(b:¬a8 y):∀d,¬fm d z:=λd r=>by
 subst a
 cases r with
 |qJ h e=>exact b (by rw[(ou e).2];exact h)
 |ref h e=>exact absurd (ou e).1 ⋯
 |txt h1 h2=>exact h1 y rfl
def Io(c:z=({#[35]}:Str)++y)(f:y≠".")(no:∀d,bE d y->a_ ws (cU d)=true->False):∀d,fm d z->eI ws (cU d)=true->False:=λd r m=>by
 subst c
 cases r with
 |qJ h e=>exact absurd (ou e).1 ⋯
 |@ref p g _ h e =>
  have:=(ou e).2;subst this;have m:(dJ (.tup [.str "refer",cU p])&&(cH ["picture"] (.str "refer")||du ws (cU p)))=true:=m;have a:=(rE m).2;rw[show cH ["picture"] (.str "refer")=false from ∅,je]at a;rcases h with⟨e,_⟩|⟨_,h⟩
  ·exact f e
  ·have b:=h
   obtain⟨w,k,rfl,hw,_,_⟩:=h;have a:(eZ (.tup [.str w,.int k])||a_ ws (cU (.tuple [.str w,.int k])))=true:=a;rw[vn]at a;rcases a with a|a
   ·have a:(decide (w∈([""]:List Str))&&decide (k=0))=true:=a
    have:=qB (rE a).1;exact hE hw (by simpa using this)
   ·exact no _ b a
 |txt h1 h2=>exact h2 y rfl
def Lu(m:dF ws (.tup l)=true):(1≤l.length/\l.length≤12)/\l.all (eI ws)=true:=by
 have m:(decide (1≤l.length/\l.length≤12)&&l.all (eI ws))=true:=m;rw[qv]at m;exact{qB m.1,m.2}
def Ct(m:gP ws (.tup l)=true):(1≤l.length/\l.length≤12)/\l.all (fE ws)=true/\(l.map oj).Nodup:=by
 have m:(decide (1≤l.length/\l.length≤12)&&(l.all (fE ws)&&decide ((l.map oj).Nodup)))=true:=m;rw[qv,qv]at m;exact{qB m.1,m.2.1,qB m.2.2}
def Iu(no:∀d,fm d z->eI ws (cU d)=true->False):∀b,F2 fm b [z]->dF ws (.tup (aQ b))=true->False:=λb c m=>by
 cases c with
 |cons a t=>exact no _ a (List.all_eq_true.mp (Lu m).2 _ (by rw[fv];simp))
def SF(no:∀d,dH d z->fE ws (cU d)=true->False):∀b,F2 dH b [z]->gP ws (.tup (aQ b))=true->False:=λb c m=>by
 cases c with
 |cons a t=>exact no _ a (List.all_eq_true.mp (Ct m).2.1 _ (by rw[fv];simp))
def KZ(hl:ys.length=0\/12<ys.length):∀a,F2 fm a ys->dF ws (.tup (aQ a))=true->False:=λa b m=>by
 have m:=(Lu m).1;rw[fv,qf,b.len]at m;omega
def KG(hl:ys.length=0\/12<ys.length):∀a,F2 dH a ys->gP ws (.tup (aQ a))=true->False:=λa b m=>by
 have m:=(Ct m).1;rw[fv,qf,b.len]at m;omega
def C_:∀b,F2 dH b [y,y]->gP ws (.tup (aQ b))=true->False:=λb d m=>by
 cases d with
 |cons a t =>
  cases t with
  |cons c t =>
   cases t;rw[mV _ _ _ c a]at m;have m:=(Ct m).2.2;rw[fv]at m
   simp at m
end
def iI(m:Nat):Str:="1000001"++gL ",0" (m - 1)
def fC(h:Str):List Str:=(List.range 13).map λ(k:Nat)=>(h++".1.")++(toString (k:Int):Str)
def things(h o:Str)(m:Nat):List Str:=([("cut "++h)++".0",("cut "++h)++".1000001","cut .","move . .",("cut "++o)++".1","pour "++iI m]:List Str) ++
 ([("out . "++h)++".1.1000001","out . "++Txt.join " " [h++".1.0",h++".1.0"],"back 1","again 2"]:List Str) ++
 (["out . "++Txt.join " " (fC h),"put . -"++gL " a" 13,"put . -"]:List Str) ++
 ([("put . "++o)++".1.0 a",("put . - #"++o)++".1","line . way -","line . row .","out ."]:List Str) ++
 ([("leave . "++o)++" read yes",("leave . "++h)++" read on","back 0"]:List Str) ++
 (["mark . "++(h++".1.0"),((("mark . "++h)++".01.0< ")++(h++".1.0"))++"> b -",("cut "++h)++".01"]:List Str) ++
 (["pour 00"++aJ (iI m) (some 7) none,("cut "++h)++".1_0",("cut "++h)++".+1",("out . "++(h++".1.0"))++"0"]:List Str) ++
 (["bring abcdefghi","put . - *","put . - *A","put . - *abcdefghi",("put . - #"++h)++".01"]:List Str) ++
 ([((("note . "++h)++".1.00< ")++(h++".1.0"))++"> so"]:List Str) ++
 ([((("cell . "++h)++".1 ")++h)++".2 abcdefghi"]:List Str)
section
variable {ws:List Str}{h o:Str}
def xZ(e:x=Txt.join {#[44]} (y::r))(fr:∀w∈y::r,44∉w.cps.toList)(no:∀m:Int,0≤m->m≤1000000->y≠toString m):∀d,n9 d x->bu ws (cU d)=true->False:=λd ⟨ds,g,b⟩ m=>by
 rw[e,fy (c:=44) (by simp) fr]at b
 cases b with
 |@cons d0 _ ds _ a t =>
  obtain⟨k,rfl,h,f⟩:=a;subst g;have m:(decide ((aQ (PyData.int k::ds)).length=ws.length)&&(aQ (PyData.int k::ds)).all (dA 0))=true:=m;have:=zk.mp (rE m).2 (.int k) (.head _);have:=qB (show decide (0≤k/\k≤1000000)=true from this);exact no k h.1 this.2 f
def zO:∀m,2≤m->m≤6->iI m=Txt.join {#[44]} ("1000001"::List.replicate (m - 1) "0")/\aJ (iI m) (some 7) none=gL ",0" (m - 1)/\("00"++gL ",0" (m - 1):Str)=Txt.join {#[44]} ("00"::List.replicate (m - 1) "0")/\dC (iI m)=true/\dC ("00"++gL ",0" (m - 1))=true:=by
 have h:∀m<7,2≤m->iI m=Txt.join ⟨#[44]⟩ ("1000001"::List.replicate (m - 1) "0")/\aJ (iI m) (some 7) none=gL ",0" (m - 1)/\("00"++gL ",0" (m - 1):Str)=Txt.join ⟨#[44]⟩ ("00"::List.replicate (m - 1) "0")/\dC (iI m)=true/\dC ("00"++gL ",0" (m - 1))=true:=∅
 exact λm h1 h2=>h m () h1
def M3(f:a8 h)(j:a8 o)(l:o∉ws)(B:2≤m)(A:m≤6):∀z∈things h o m,BT ws 1 z:=by
 have a:∀{x:Str},dC x=true->fb x:=bQ;obtain⟨f1,f2,v,C,u⟩:=zO m B A;intro z p;unfold things at p
 simp only[List.mem_append,List.mem_cons,List.not_mem_nil,or_false]at p
 have t:∀k,∀w∈List.replicate k ("0":Str),44∉w.cps.toList:=λk w hw=>by rw[jr hw];decide +kernel
 rcases p with((((((((((rfl|rfl|rfl|rfl|rfl|rfl)|rfl|rfl|rfl|rfl)|rfl|rfl|rfl)|rfl|rfl|rfl|rfl|rfl)|rfl|rfl|rfl)|rfl|rfl|rfl)|rfl|rfl|rfl|rfl)|rfl|rfl|rfl|rfl|rfl)|rfl)|rfl)
 ·exact bt (k:="cut") (rest:=[h++".0"]) (cC (by simp only[iM,List.map_cons,List.map_nil,aT,jl,List.append_assoc];rfl)) (cq 0 .name .name _ rfl rfl rfl rfl rfl (Ta f)) (aY (a ∅) (dI (wA f ∅)))
 ·exact bt (k:="cut") (rest:=[h++".1000001"]) (cC (by simp only[iM,List.map_cons,List.map_nil,aT,jl,List.append_assoc];rfl)) (cq 0 .name .name _ rfl rfl rfl rfl rfl (TF f)) (aY (a ∅) (dI (wA f ∅)))
 ·exact bt (k:="cut") (rest:=["."]) ∅ (cq 0 .name .name _ rfl rfl rfl rfl rfl λd r _=>Gg r) (aY (a ∅) (dI (a ∅)))
 ·exact bt (k:="move") (rest:=[".","."]) ∅ (cq 0 .name .name _ rfl rfl rfl rfl rfl λd r _=>Gg r) (aY (a ∅) (aY (a ∅) (dI (a ∅))))
 ·exact bt (k:="cut") (rest:=[o++".1"]) (cC (by simp only[iM,List.map_cons,List.map_nil,aT,jl,List.append_assoc];rfl)) (cq 0 .name .name _ rfl rfl rfl rfl rfl (S3 j l)) (aY (a ∅) (dI (wA j ∅)))
 ·exact bt (k:="pour") (rest:=[iI m]) (cC (by simp only[iM,List.map_cons,List.map_nil,aT,jl,List.append_assoc];rfl)) (cq 0 .counts .counts _ rfl rfl rfl rfl rfl (xZ f1 (aY ∅ (t _)) λk g h1 e=>by have:=lit cM ⋯ g e;omega)) (aY (a ∅) (dI (a C)))
 ·exact bt (k:="out") (rest:=[".",h++".1.1000001"]) (cC (by simp only[iM,List.map_cons,List.map_nil,aT,jl,List.append_assoc];rfl)) (sH (SF (Ti f))) (aY (a ∅) (aY (a ∅) (dI (wA f ∅))))
 ·exact bt (k:="out") (rest:=[".",h++".1.0",h++".1.0"]) (cC (by simp only[iM,List.map_cons,List.map_nil,aT,jl,List.append_assoc];rfl)) (sH C_) (aY (a ∅) (aY (a ∅) (aY (wA f ∅) (dI (wA f ∅)))))
 ·exact bt (k:="back") (rest:=[toString (1:Int)]) ∅ (IV (.inl rfl) ⋯ ⋯) (aY (a ∅) (dI (a ∅)))
 ·exact bt (k:="again") (rest:=[toString (2:Int)]) ∅ (IV (.inr rfl) ⋯ ⋯) (aY (a ∅) (dI (a ∅)))
 ·refine bt (k:="out") (rest:="."::fC h) (cC ?_) (sH (KG (.inr (by unfold fC;rw[qf,yc];decide)))) (aY (a ∅) (aY (a ∅) λy q=>?_)) (by unfold fC;rw[zi,qf,yc];decide)
  ·rw[iM,aT,iM]
   show _=jl 32 (_::_::(fC h).map _)
   have:(fC h).map (λw:Str=>w.cps.toList)≠[]:=by unfold fC;simp
   rw[vV 32 _ (by simp),vV 32 _ this];rfl
  ·obtain⟨k,n,rfl⟩:=qk.mp q
   have g:∀k<13,dC (toString ((k:Nat):Int))=true/\(toString ((k:Nat):Int):Str).length≤20:=∅
   have:=g k (w5.mp n);exact gI (wA f ∅) (a this.1) (by rw[bL];have:=bK f;have:(".1.":Str).length=3:=∅;omega)
 ·exact bt (k:="put") (rest:="."::"-"::List.replicate 13 "a") ∅ (n0 (KZ (.inr ⋯))) (λy q=>a (by
   have g:∀y∈("put"::"."::"-"::List.replicate 13 "a":List Str),dC y=true:=∅
   exact g y q))
 ·exact bt (k:="put") (rest:=[".","-"]) ∅ (n0 (KZ (.inl rfl))) (aY (a ∅) (aY (a ∅) (dI (a ∅))))
 ·exact bt (k:="put") (rest:=[".",o++".1.0","a"]) (cC (by simp only[iM,List.map_cons,List.map_nil,aT,jl,List.append_assoc];rfl)) (cq 1 .snN .vu _ rfl rfl rfl rfl rfl λd r m=>by
   rcases r with⟨e,_⟩|⟨_,r⟩
   ·have:=congrArg (λz:Str=>z.cps.size) e
    have this:(o++".1.0").cps.size=1:=this;rw[nY]at this
    have s:(".1.0":Str).cps.size=4:=∅
    omega
   ·have D:=r
    obtain⟨w,k,i,rfl,_⟩:=r
    exact T2 j l _ D m) (aY (a ∅) (aY (a ∅) (aY (wA j ∅) (dI (a ∅)))))
 ·exact bt (k:="put") (rest:=[".","-","#"++(o++".1")]) (cC (by simp only[iM,List.map_cons,List.map_nil,aT,jl,List.append_assoc];rfl)) (n0 (Iu (Io (y:=o++".1") (by rw[show("#":Str)={#[35]} from ∅]) (λe=>by
       have:=congrArg (λz:Str=>z.cps.size) e;have this:(o++".1").cps.size=1:=this;rw[nY]at this
       have s:(".1":Str).cps.size=2:=∅
       omega) (S3 j l)))) (aY (a ∅) (aY (a ∅) (aY (a ∅) (dI (wB j ∅ ∅)))))
 ·exact bt (k:="line") (rest:=[".","way","-"]) ∅ (cq 1 .plain .way _ rfl rfl rfl rfl rfl λd r m=>by obtain⟨rfl,_⟩:=r;exact absurd (show cH ["row","column"] (.str "way")=true from m) ∅) (aY (a ∅) (aY (a ∅) (aY (a ∅) (dI (a ∅)))))
 ·exact bt (k:="line") (rest:=[".","row","."]) ∅ (cq 2 .fD .line _ rfl rfl rfl rfl rfl λd r m=>by
   rcases r with⟨e,_⟩|⟨_,r⟩
   ·exact absurd e ∅
   ·exact Gg r) (aY (a ∅) (aY (a ∅) (aY (a ∅) (dI (a ∅)))))
 ·exact bt (k:="out") (rest:=["."]) ∅ (sH (KG (.inl rfl))) (aY (a ∅) (dI (a ∅)))
 ·exact bt (k:="leave") (rest:=[".",o,"read","yes"]) (cC (by simp only[iM,List.map_cons,List.map_nil,aT,jl,List.append_assoc];rfl)) (cq 1 .plain .hand _ rfl rfl rfl rfl rfl λd r m=>by
   obtain⟨rfl,_⟩:=r
   exact l (qB (rE (show(cO (.str o)&&decide (o∈ws))=true from m)).2)) (aY (a ∅) (aY (a ∅) (aY (hH (eN j) (qg (bK j) ⋯)) (aY (a ∅) (dI (a ∅))))))
 ·exact bt (k:="leave") (rest:=[".",h,"read","on"]) (cC (by simp only[iM,List.map_cons,List.map_nil,aT,jl,List.append_assoc];rfl)) (cq 3 .truth .truth _ rfl rfl rfl rfl rfl λd r _=>by
   obtain⟨b,_,e⟩:=r
   cases b <;> exact absurd e ∅) (aY (a ∅) (aY (a ∅) (aY (hH (eN f) (qg (bK f) ⋯)) (aY (a ∅) (dI (a ∅))))))
 ·exact bt (k:="back") (rest:=["0"]) ∅ (cq 0 .number .num _ rfl rfl rfl rfl rfl λd r m=>by
   obtain⟨k,rfl,n,e⟩:=r;have:=lit c0 ⋯ n.1 e;have m:=qB (show decide (1≤k/\k≤1000000)=true from m)
   omega) (aY (a ∅) (dI (a ∅)))
 ·exact bt (k:="mark") (rest:=[".",h++".1.0"]) (cC (by simp only[iM,List.map_cons,List.map_nil,aT,jl,List.append_assoc];rfl)) (cq 1 .side .side _ rfl rfl rfl rfl rfl λd r _=>Kv f ∅ d r) (aY (a ∅) (aY (a ∅) (dI (wA f ∅))))
 ·exact bt (k:="mark") (rest:=[".",h++".01.0<",h++".1.0>","b","-"]) (cC (by simp only[iM,List.map_cons,List.map_nil,aT,jl,List.append_assoc];rfl)) (cq 1 .side .side _ rfl rfl rfl rfl rfl (La (y:=".01.0") (by rw[show(".01.0<":Str) = ".01.0"++{#[60]} from ∅]) (Sm f))) (aY (a ∅) (aY (a ∅) (aY (wA f ∅) (aY (wA f ∅) (aY (a ∅) (dI (a ∅)))))))
 ·exact bt (k:="cut") (rest:=[h++".01"]) (cC (by simp only[iM,List.map_cons,List.map_nil,aT,jl,List.append_assoc];rfl)) (cq 0 .name .name _ rfl rfl rfl rfl rfl (Jx f)) (aY (a ∅) (dI (wA f ∅)))
 ·rw[f2]
  exact bt (k:="pour") (rest:=["00"++gL ",0" (m - 1)]) (cC (by simp only[iM,List.map_cons,List.map_nil,aT,jl,List.append_assoc];rfl)) (cq 0 .counts .counts _ rfl rfl rfl rfl rfl (xZ v (aY ∅ (t _)) λk g h1 e=>nJ g ⋯ z0 e)) (aY (a ∅) (dI (a u)))
 ·exact bt (k:="cut") (rest:=[h++".1_0"]) (cC (by simp only[iM,List.map_cons,List.map_nil,aT,jl,List.append_assoc];rfl)) (cq 0 .name .name _ rfl rfl rfl rfl rfl (N5 f)) (aY (a ∅) (dI (wA f ∅)))
 ·exact bt (k:="cut") (rest:=[h++".+1"]) (cC (by simp only[iM,List.map_cons,List.map_nil,aT,jl,List.append_assoc];rfl)) (cq 0 .name .name _ rfl rfl rfl rfl rfl (nB f "+1" ∅ ∅ λk g _ _=>SY (c:=43) g ∅ ⋯)) (aY (a ∅) (dI (wA f ∅)))
 ·exact bt (k:="out") (rest:=[".",h++".1.00"]) (cC (by simp only[iM,List.map_cons,List.map_nil,aT,jl,List.append_assoc];rfl)) (sH (SF (Ky f))) (aY (a ∅) (aY (a ∅) (dI (wA f ∅))))
 ·exact bt (k:="bring") (rest:=["abcdefghi"]) ∅ (cq 0 .plain .word _ rfl rfl rfl rfl rfl λd r _=>zQ wO d r) (aY (a ∅) (dI (a ∅)))
 ·exact bt (k:="put") (rest:=[".","-","*"]) ∅ (n0 (Iu λd r _=>EA (y:="") ∅ (λh=>absurd h.1 ∅) d r)) (aY (a ∅) (aY (a ∅) (aY (a ∅) (dI (a ∅)))))
 ·exact bt (k:="put") (rest:=[".","-","*A"]) ∅ (n0 (Iu λd r _=>EA (y:="A") ∅ (λh=>absurd (h.2.2 65 ∅) ⋯) d r)) (aY (a ∅) (aY (a ∅) (aY (a ∅) (dI (a ∅)))))
 ·exact bt (k:="put") (rest:=[".","-","*abcdefghi"]) ∅ (n0 (Iu λd r _=>EA (y:="abcdefghi") ∅ wO d r)) (aY (a ∅) (aY (a ∅) (aY (a ∅) (dI (a ∅)))))
 ·exact bt (k:="put") (rest:=[".","-","#"++(h++".01")]) (cC (by simp only[iM,List.map_cons,List.map_nil,aT,jl,List.append_assoc];rfl)) (n0 (Iu (Io (y:=h++".01") (by rw[show("#":Str)={#[35]} from ∅]) (λe=>by
       have:=congrArg (λz:Str=>z.cps.size) e;have this:(h++".01").cps.size=1:=this;rw[nY]at this
       have s:(".01":Str).cps.size=3:=∅
       omega) (Jx f)))) (aY (a ∅) (aY (a ∅) (aY (a ∅) (dI (wB f ∅ ∅)))))
 ·exact bt (k:="note") (rest:=[".",h++".1.00<",h++".1.0>","so"]) (cC (by simp only[iM,List.map_cons,List.map_nil,aT,jl,List.append_assoc];rfl)) (cq 1 .side .side _ rfl rfl rfl rfl rfl (La (y:=".1.00") (by rw[show(".1.00<":Str) = ".1.00"++{#[60]} from ∅]) (Ky f))) (aY (a ∅) (aY (a ∅) (aY (wA f ∅) (aY (wA f ∅) (dI (a ∅))))))
 ·exact bt (k:="cell") (rest:=[".",h++".1",h++".2","abcdefghi"]) (cC (by simp only[iM,List.map_cons,List.map_nil,aT,jl,List.append_assoc];rfl)) (cq 3 .dD .GS _ rfl rfl rfl rfl rfl λd r m=>by
   rcases r with⟨e,_⟩|⟨_,r⟩
   ·exact absurd e ∅
   ·exact zQ wO d r) (aY (a ∅) (aY (a ∅) (aY (wA f ∅) (aY (wA f ∅) (dI (a ∅))))))
end
def NW(b:ys≠[])(e:x=Txt.join " " ys):Txt.join " " (xs++[x])=Txt.join " " (xs++ys):=cC (by
 subst e;rw[iM,iM,zm,zm];show jl 32 (_++[(Txt.join " " ys).cps.toList])=_;rw[iM]
 cases xs with
 |nil=>rfl
 |cons a r =>
  have h1:ys.map (λw:Str=>w.cps.toList)≠[]:=by simpa using b
  rw[wM 32 _ _ (by simp) (by simp),wM 32 _ _ (by simp) h1];rfl)
section
variable {ws:List Str}{h o:Str}{n:Int}
def Bb(o:a8 h)(f:0≤m)(u:fb c)(b:BT ws m z)(p:fb (toString m)):Tx ws (Txt.join " " [h,toString m,c,"-",z])/\Ref ws (Txt.join " " [h,toString m,c,"-",z]):=by
 obtain⟨k,rest,e,hl,wo,no⟩:=b.out;have r:Txt.join " " [h,toString m,c,"-",z]=Txt.join " " (h::toString m::c::"-"::k::rest):=NW (xs:=[h,toString m,c,"-"]) (by simp) e;have n:∀y∈h::toString m::c::"-"::k::rest,fb y:=aY (hH (eN o) (qg (bK o) ⋯)) (aY p (aY u (aY (bQ ∅) wo)));rw[r];refine{lV (by simp) (by simp;omega) n,jJ (by simp) (λy q i=>((n y q).fr 32 i).1 rfl) λw A s C j a g=>?_};obtain⟨F,ds,es,a1,a2,x,E,t,H,G,D,B,v,d,l⟩:=g.out;injection a with e1 a;injection a with e2 a;injection a with e3 a;injection a with e4 a;have:=ml f () (e2.trans t);subst this;rw[←a]at d;exact no es d l
def mh(h:∀y∈[w,d,b,c,k],fb y)(no:Gf ws w d b c [k]->False):Tx ws (Txt.join " " [w,d,b,c,k])/\Ref ws (Txt.join " " [w,d,b,c,k]):=by
 refine{lV (by simp) (by simp) h,jJ (by simp) (λy j f=>((h y j).fr 32 f).1 rfl) λn l m i e a g=>?_};injection a with e1 a;injection a with e2 a;injection a with e3 a;injection a with e4 a;subst e1 e2 e3 e4 a;exact no g
def bM(m:Nat):Str:=Txt.join "," (List.replicate m "0")
def Ki:∀m,2≤m->m≤6->dC (bM m)=true/\dC ("2"++aJ (bM m) (some 1) none)=true ∧
  (aJ (bM m) none (some (-1))++"01"=Txt.join {#[44]} (List.replicate (m - 1) ("0":Str)++[("01":Str)])/\dC (aJ (bM m) none (some (-1))++"01")=true) ∧
  (("2"++aJ (bM m) (some 1) (some (-1)))++"00"=Txt.join {#[44]} ((("2":Str)::List.replicate (m - 2) ("0":Str))++[("00":Str)])/\dC (("2"++aJ (bM m) (some 1) (some (-1)))++"00")=true) ∧
  (aJ (bM m) none (some (-1))++"1000001"=Txt.join {#[44]} (List.replicate (m - 1) ("0":Str)++[("1000001":Str)])/\dC (aJ (bM m) none (some (-1))++"1000001")=true) ∧
  dC ("1000000"++aJ (bM m) (some 1) none)=true:=by
 have h:∀m<7,2≤m->dC (bM m)=true/\dC ("2"++aJ (bM m) (some 1) none)=true ∧
  (aJ (bM m) none (some (-1))++"01"=Txt.join {#[44]} (List.replicate (m - 1) ("0":Str)++[("01":Str)])/\dC (aJ (bM m) none (some (-1))++"01")=true) ∧
  (("2"++aJ (bM m) (some 1) (some (-1)))++"00"=Txt.join {#[44]} ((("2":Str)::List.replicate (m - 2) ("0":Str))++[("00":Str)])/\dC (("2"++aJ (bM m) (some 1) (some (-1)))++"00")=true) ∧
  (aJ (bM m) none (some (-1))++"1000001"=Txt.join {#[44]} (List.replicate (m - 1) ("0":Str)++[("1000001":Str)])/\dC (aJ (bM m) none (some (-1))++"1000001")=true) ∧
  dC ("1000000"++aJ (bM m) (some 1) none)=true:=∅
 exact λm h1 h2=>h m () h1
def FA{x y:Str}{r:List Str}{ds:List PyData}(e:x=Txt.join {#[44]} (r++[y]))(fr:∀w∈r++[y],44∉w.cps.toList)(a:F2 dM ds (Txt.split x {#[44]})):∃k,N7 k/\y=toString k/\PyData.int k∈ds:=by
 rw[e,fy (c:=44) (by simp) fr]at a;obtain⟨d,h,f⟩:=(a.at (i:=r.length) (z:=y) (by simp));obtain⟨k,rfl,b,g⟩:=f;exact{k,b,g,qx h}
end
def IM(h o:Str)(m:Nat):List Str:=(things h o m).map (λz=>Txt.join " " [h,"1",bM m,"-",z]) ++
 [Txt.join " " [h,"3","2"++aJ (bM m) (some 1) none,"-","back 01"]]++[Txt.join " " [h,"3","2"++aJ (bM m) (some 1) none,"-","again 02"]] ++
 [Txt.join " " [h,"1",aJ (bM m) none (some (-1))++"01","-","nothing"]]++[Txt.join " " [h,"3",("2"++aJ (bM m) (some 1) (some (-1)))++"00","-","nothing"]] ++
 [Txt.join " " [h,"2",bM m,"-","nothing"]]++[Txt.join " " [h,"1",bM m,o++".a","nothing"]]++[Txt.join " " [h,"1",bM m,h++".abcdefghi","nothing"]] ++
 [Txt.join " " [o,"1",bM m,"-","nothing"]]++[Txt.join " " [h,"1",aJ (bM m) none (some (-1))++"1000001","-","nothing"]] ++
 [Txt.join " " [h,"1000001","1000000"++aJ (bM m) (some 1) none,"-","nothing"]]
def A9(p:a8 h)(h0:ws[0]?=some h)(H:a8 o)(N:o∉ws)(X:2≤ws.length)(U:ws.length≤6):∀z∈IM h o ws.length,Tx ws z/\Ref ws z:=by
 have b:∀{x:Str},dC x=true->fb x:=bQ;obtain⟨f1,f2,W,V,S,f6⟩:=Ki ws.length X U;have hm:h∈ws:=qx h0;have A:fb h:=hH (eN p) (qg (bK p) ⋯)
 have M:∀k,∀w∈List.replicate k ("0":Str),44∉w.cps.toList:=λk w hw=>by rw[jr hw];decide +kernel
 have I:∀{k:Nat} {y:Str},44∉y.cps.toList->∀w∈List.replicate k ("0":Str)++[y],44∉w.cps.toList:=λhy w hw=>by
  rcases zf.mp hw with hw|hw
  ·exact M _ w hw
  ·rw[zh.mp hw];exact hy
 have q:fb "nothing":=b ∅;have L:fb "1":=b ∅;have G:fb "-":=b ∅
 have T:("3":Str)=toString (3:Int):=∅
 intro z u;unfold IM at u
 simp only[List.mem_append,List.mem_singleton]at u
 rcases u with(((((((((u|rfl)|rfl)|rfl)|rfl)|rfl)|rfl)|rfl)|rfl)|rfl)|rfl
 ·obtain⟨t,ht,rfl⟩:=qk.mp u
  rw[c1];exact Bb (m:=1) p ⋯ (b f1) (M3 p H N X U t ht) (b ∅)
 ·rw[T]
  exact Bb (m:=3) p ⋯ (b f2) (bt (k:="back") (rest:=["01"]) ∅ (cq 0 .number .num _ rfl rfl rfl rfl rfl λd r _=>Kw ⋯ z1 d r) (aY (b ∅) (dI (b ∅)))) (b ∅)
 ·rw[T]
  exact Bb (m:=3) p ⋯ (b f2) (bt (k:="again") (rest:=["02"]) ∅ (cq 0 .number .num _ rfl rfl rfl rfl rfl λd r _=>Kw ⋯ z2 d r) (aY (b ∅) (dI (b ∅)))) (b ∅)
 ·refine mh (aY A (aY L (aY (b W.2) (aY G (dI q))))) λg=>?_
  obtain⟨B,ds,es,a1,a2,C,F,s,n,K,E,D,f,j,l⟩:=g.out;obtain⟨k,v,e,_⟩:=FA W.1 (I ∅) n;exact nJ v.1 ⋯ z1 e
 ·refine mh (aY A (aY (b ∅) (aY (b V.2) (aY G (dI q))))) λg=>?_
  obtain⟨B,ds,es,a1,a2,C,F,s,n,K,E,D,f,j,l⟩:=g.out
  obtain⟨k,v,e,_⟩:=FA V.1 (λw hw=>by
   rcases zf.mp hw with hw|hw
   ·rcases qr.mp hw with rfl|hw
    ·decide +kernel
    ·exact M _ w hw
   ·rw[zh.mp hw];decide +kernel) n
  exact nJ v.1 ⋯ z0 e
 ·refine mh (aY A (aY (b ∅) (aY (b f1) (aY G (dI q))))) λg=>?_
  obtain⟨B,ds,es,a1,a2,C,F,s,n,K,E,D,f,j,l⟩:=g.out;have O:=lit (k:=2) ∅ ⋯ () s
  have ea:∀d∈ds,d=.int 0:=λd hd=>by
   have hs:Txt.split (bM ws.length) ⟨#[44]⟩=List.replicate ws.length ("0":Str):=fy (c:=44) (λe=>by have:=congrArg List.length e;rw[yt,jg]at this;omega) (M _);rw[hs]at n;refine AZ n (R:=λd=>d=.int 0) (λd z _ u Y=>?_) d hd;obtain⟨k,rfl,v,e⟩:=Y;rw[jr u]at e;rw[lit c0 ⋯ v.1 e]
  have:=ea _ (qx E);injection this with this;omega
 ·have wo:fb (o++".a"):=wA H ∅
  refine mh (aY A (aY L (aY (b f1) (aY wo (dI q))))) λg=>?_;obtain⟨B,ds,es,a1,a2,C,F,s,n,K,E,D,f,j,l⟩:=g.out;rcases f with e|⟨a,c,e,ha,hma,hc⟩
  ·have:=congrArg (λz:Str=>z.cps.size) e
   have this:(o++".a").cps.size=1:=this;rw[nY]at this
   have Z:(".a":Str).cps.size=2:=∅
   omega
  ·rw[show(".a":Str)=({#[46]}:Str)++"a" from ∅,v_]at e
   have J:Txt.split (Txt.join "." [o,"a"]) "."=[o,"a"]:=iN (wg _ _) (aY (m8 H) (dI ∅));have P:Txt.split (Txt.join "." [a,c]) "."=[a,c]:=iN (wg _ _) (aY (m8 ha) (dI (m8 hc)));rw[e,show Txt.join {#[46]} [a,c]=Txt.join "." [a,c] from rfl,P]at J;cases J;exact N hma
 ·have wo:fb (h++".abcdefghi"):=wA p ∅
  refine mh (aY A (aY L (aY (b f1) (aY wo (dI q))))) λg=>?_;obtain⟨B,ds,es,a1,a2,C,F,s,n,K,E,D,f,j,l⟩:=g.out;rcases f with e|⟨a,c,e,ha,hma,hc⟩
  ·have:=congrArg (λz:Str=>z.cps.size) e
   have this:(h++".abcdefghi").cps.size=1:=this;rw[nY]at this
   have Z:(".abcdefghi":Str).cps.size=10:=∅
   omega
  ·rw[show(".abcdefghi":Str)=({#[46]}:Str)++"abcdefghi" from ∅,v_]at e
   have J:Txt.split (Txt.join "." [h,"abcdefghi"]) "."=[h,"abcdefghi"]:=iN (wg _ _) (aY (m8 p) (dI ∅));have P:Txt.split (Txt.join "." [a,c]) "."=[a,c]:=iN (wg _ _) (aY (m8 ha) (dI (m8 hc)));rw[e,show Txt.join {#[46]} [a,c]=Txt.join "." [a,c] from rfl,P]at J;cases J;exact wO hc
 ·have wo:fb o:=hH (eN H) (qg (bK H) ⋯)
  refine mh (aY wo (aY L (aY (b f1) (aY G (dI q))))) λg=>?_;obtain⟨B,ds,es,a1,a2,_⟩:=g.out;exact N a2
 ·refine mh (aY A (aY L (aY (b S.2) (aY G (dI q))))) λg=>?_
  obtain⟨B,ds,es,a1,a2,C,F,s,n,K,E,D,f,j,l⟩:=g.out;obtain⟨k,v,e,Q⟩:=FA S.1 (I ∅) n;obtain⟨i,O,_,h2⟩:=D _ Q;injection O with O;have:=lit cM ⋯ v.1 e;omega
 ·refine mh (aY A (aY (b ∅) (aY (b f6) (aY G (dI q))))) λg=>?_
  obtain⟨B,ds,es,a1,a2,C,F,s,_⟩:=g.out;have:=lit cM ⋯ () s;omega
def ik{pv:List V}(h:r≤pv.length):bR pv none (some (r:Int))=pv.take r:=by
 unfold bR;rw[HT.cL,HT.cG,yd]
 congr 1
 omega
theorem IG:∀{xs:List V} {ds:List PyData} {i:Nat} {d:PyData},c8 H xs ds->ds[i]?=some d->∃x,xs[i]?=some x/\DT H x d
 |_,_,0,_,.cons h _,e=>by cases e;exact{_,Y,h}
 |_,_,_+1,_,.cons _ t,e=>let⟨x,a,tx⟩:=IG t e;{x,a,tx}
def CU(b:BT ws n z):z.length≤8000:=by
 obtain⟨k,rest,e,hl,wo,_⟩:=b.out;rw[e];have a:=my " " (k::rest);have c:=pw (c:=400) λx d=>(wo x d).len;have f:(" ":Str).length=1:=rfl;rw[f]at a;rw[zi]at a c;omega
def uI(h:a.length+b.length+c.length+d.length+e.length≤20000):((([a,b,c,d,e]:List Str).map (·.length)).sum+([a,b,c,d,e]:List Str).length * (" ":Str).length)≤16777216:=by
 have f:(" ":Str).length=1:=rfl;rw[f]
 simp only[List.map_cons,List.map_nil,List.sum_cons,List.sum_nil,List.length_cons,List.length_nil]
 omega
def mJ(h:dC z=true):z.length≤400:=(bQ h).len
def i8(e:upd H q (.lst (xs.map V.str++[.str y]))=H'):H' q=some (.lst ((xs++[y]).map V.str)):=by
 rw[←e,aN,zm];rfl
def AS{ws:List Str}{h:Str}(e:ws[0]?=some h):kR (ws.map V.str) 0=some (.str h):=by
 cases ws with
 |nil=>cases e
 |cons a r=>cases e;exact fU
def RX{x y:Str}{a b:Nat}(h1:x.length≤a)(h2:y.length≤b)(h:a+b≤100000:=by decide):y.length+x.length<sizeLine:=by rw[sizeLine_eq];omega
inductive uu(ws:List Str)(H:Hp)(u:V):Prop
 |mk(q:Addr)(wl:List Str)(h0:u=.ref q)(h1:H q=some (.lst (wl.map V.str)))(h2:gE ws wl)
def uu.mono(h:uu ws H u)(s:ag H H'):uu ws H' u:=by
 obtain⟨q,a,b,h1,h2⟩:=h;exact{q,a,b,s _ _ h1,h2}
def nP{ws:List Str}{H H':Hp}{xs ys:List V}(h:∀u∈xs,uu ws H u)(s:ag H H')(h2:∀u∈ys,uu ws H' u):∀u∈xs++ys,uu ws H' u:=λu a=>by
 rcases zf.mp a with a|a
 ·exact(h u a).mono s
 ·exact h2 u a
def iC:∀u∈([]:List V),uu ws H u:=λ_ h=>nomatch h
def cA(h:uu ws H u)(t:∀v∈xs,uu ws H v):∀v∈u::xs,uu ws H v:=λv a=>by
 rcases qr.mp a with rfl|a
 ·exact h
 ·exact t v a
inductive yF(ws:List Str)(za:Str)(n:Int)(cs:List Int)(b:PyData)(kk:Str)(more:List Str)(p q1 q3:Addr)(c:Int)(H:Hp)(N:Nat)(σ:L2.St)(H':Hp):Prop
 |mk(L:List V)(qL:Addr)(h0:σ=[some (.str (Txt.join " " (w0 za n cs b (kk::more)))),some (.ref p),some (.int c),some (.ref q1),some (.str za),some (.str (toString n)),some (.str (cW cs)),some (.str (cz b)),some (.str kk),some (.ref q3),some (.ref qL)])(h1:ag H H')(h2:H' q1=some (.lst ((w0 za n cs b (kk::more)).map V.str)))(h3:H' q3=some (.lst (more.map V.str)))(h4:H' qL=some (.lst L))(h5:L.length=N)(h6:∀u∈L,uu ws H' u)
def Ol(h:(Txt.split z {#[32]}).length<5):Ref ws z:=r_ λw n i k rest hs g=>by
 rw[hs]at h;obtain⟨f,ds,es,a1,a2,e,m,o,p,j,l,d,b,a,c⟩:=g.out
 cases a with
 |mk _ _ _ =>
  simp only[List.length_cons]at h
  omega
def Gb(zs:List Str)(e:z=Txt.join " " zs)(b:0<zs.length)(f:zs.length<5)(wo:∀y∈zs,fb y):Tx ws z/\Ref ws z:=by
 subst e;refine{lV b () wo,Ol ?_};have hs:Txt.split (Txt.join " " zs) ⟨#[32]⟩=zs:=fy (c:=32) (λe=>by rw[e]at b;exact absurd b ⋯) λx d a=>((wo x d).fr 32 a).1 rfl;rw[hs];exact f
inductive pZ(ws:List Str)(H:Hp):V->Prop
 |s (z:Str) (h1:Tx ws z) (h2:Ref ws z):pZ ws H (.str z)
 |k (v:V) (h:∀H',ag H H'->lZ H' "str" v false):pZ ws H v
def pZ.mono(h:pZ ws H v)(s:ag H H'):pZ ws H' v:=by
 cases h with
 |s z h1 h2=>exact .s z h1 h2
 |k v h=>exact .k v λa s'=>h a (s.trans s')
def K_(i:Int):lZ H "str" (.int i) false:=by
 have h:("str"=="int")=false:=⋯
 rw[←h];exact .int i
def QU(b:Bool):lZ H "str" (.bl b) false:=by
 have h:(("str":String)=="bool"||"str"=="int")=false:=⋯
 rw[←h];exact .bl b
def xk(e:H p=some (.lst xs)):lZ H "str" (.ref p) false:=by
 have h:("str"=="list")=false:=⋯
 rw[←h];exact .lst e
def Hn(e:H p=some (.tup xs)):lZ H "str" (.ref p) false:=by
 have h:("str"=="tuple")=false:=⋯
 rw[←h];exact .tup e
def Mq(e:H p=some (.dK xs)):lZ H "str" (.ref p) false:=by
 have h:("str"=="dict")=false:=⋯
 rw[←h];exact .mx e
def ic(h:pZ ws H v)(t:∀u∈xs,pZ ws H u):∀u∈v::xs,pZ ws H u:=λu a=>by
 rcases qr.mp a with rfl|a
 ·exact h
 ·exact t u a
def Lf:∀u∈([]:List V),pZ ws H u:=λ_ h=>nomatch h
structure GC(k:Nat)(d:PyData):Prop where
 lay:d.canLay0=true
 NC:d.depth≤k
theorem JX:∀{ds:List PyData},(∀d∈ds,d.depth≤k)->PyData.depthAll ds≤k
 |[],_=>wq _
 |d::ds,h=>by
  rw[PyData.depthAll];exact Nat.max_le.mpr {h d qo,JX λx a=>h x (ql _ a)}
def GC.tup{k:Nat}{ds:List PyData}(h:∀d∈ds,GC k d):GC (k+1) (.tuple ds) :=
 {by rw[PyData.canLay0];exact EB λd a=>(h d a).lay,by rw[PyData.depth];exact Nat.succ_le_succ (JX λd a=>(h d a).NC)}
def GC.up(h:GC k d)(e:k≤m):GC m d:={h.lay,qg h.NC e}
def mu(i:Int):GC k (.int i):={Y,wq _}
def KU(b:Bool):GC k (.bool b):={Y,wq _}
def Fv:GC k .none:={Y,wq _}
def c'(h:PyData.strOk z=true):GC k (.str z):={h,wq _}
def eo:∀d∈([]:List PyData),GC k d:=λ_ h=>nomatch h
def aS(h:GC k d)(t:∀d∈ds,GC k d):∀x∈d::ds,GC k x:=List.forall_mem_cons.mpr {h,t}
def GC.self(h:GC k d):PyData.eqv d d=true:=PySem.SeqAt.eqv_refl d h.lay
section
variable {ws:List Str}(hw:∀w∈ws,a8 w)
include hw
theorem rq(h:w∈ws):GC k (.str w):=c' (mi (hw w h))
theorem Ez(h:eC ws ds):GC 1 (.tuple ds):=by
 obtain⟨w,n,rfl,hm,_⟩:=h;exact .tup (aS (rq hw hm) (aS (mu _) eo))
theorem LK(h:dr ws ds):GC 1 (.tuple ds):=by
 rcases h with rfl|h
 ·exact .tup (aS (c' ∅) (aS (mu _) eo))
 ·exact Ez hw h
theorem sI(h:nh ws ds):GC 1 (.tuple ds):=by
 obtain⟨w,n,i,rfl,hm,_⟩:=h;exact .tup (aS (rq hw hm) (aS (mu _) (aS (mu _) eo)))
theorem OP(h:gG ws d):GC 2 d:=by
 obtain⟨ds,z,rfl,h1,h2⟩:=h;refine .tup (aS (sI hw h1) (aS (c' ?_) eo));rcases h2 with rfl|rfl <;> decide +kernel
theorem Dz:∀c∈("abcdefghijklmnopqrstuvwxyz .,":Str).cps.toList,PyData.strOk {#[c]}=true:=∅
theorem O'(h:iD ws d):GC 2 d:=by
 rcases h with⟨c,rfl,e⟩|⟨z,rfl,a⟩|⟨ds,rfl,b⟩
 ·exact c' (Dz hw c e)
 ·exact .tup (aS (c' ∅) (aS (c' (mi a)) eo))
 ·exact .tup (aS (c' ∅) (aS (LK hw b) eo))
theorem xr(a:∀n,P n->GC 1 (.tuple n))(h:GX P d):GC 2 d:=by
 rcases h with rfl|⟨n,rfl,hn⟩
 ·exact Fv
 ·exact(a n hn).up ⋯
theorem JC(h:xO ws d):GC 2 d:=by
 rcases h with rfl|⟨w,z,rfl,hm,hz⟩
 ·exact Fv
 ·exact .tup (aS (rq hw hm) (aS (c' (mi hz)) eo))
theorem QW(h:bY ws num wt):GC 4 (.tuple wt):=by
 have P:∀{p},dr ws p->GC 3 (.tuple p):=λh=>(LK hw h).up ⋯
 have N:∀{p},eC ws p->GC 3 (.tuple p):=λh=>(Ez hw h).up ⋯
 have S:∀{p},gG ws p->GC 3 p:=λh=>(OP hw h).up ⋯
 have W:∀{z:Str},a8 z->GC 3 (.str z):=λh=>c' (mi h)
 cases h with
 |nothing=>exact .tup (aS (c' ∅) eo)
 |part p h1=>exact .tup (aS (c' ∅) (aS (P h1) eo))
 |move n p h1 h2=>exact .tup (aS (c' ∅) (aS (N h1) (aS (P h2) eo)))
 |cut n h1=>exact .tup (aS (c' ∅) (aS (N h1) eo))
 |put p b o h1 h2 c e g=>exact .tup (aS (c' ∅) (aS (P h1) (aS ((xr (ws:=ws) hw (λ_=>sI hw) h2).up ⋯) (aS (.tup λd f=>O' hw (g d f)) eo))))
 |out p m h1 h2 c e g =>
  refine .tup (aS (c' ∅) (aS (P h1) (aS (.tup λd f=>?_) eo)));obtain⟨n,i,rfl⟩:=qk.mp f;exact(sI hw (e n i)).up ⋯
 |mark p j l z v h1 h2 c e g =>
  refine .tup (aS (c' ∅) (aS (P h1) (aS (S h2) (aS (S c) (aS (W e) (aS ?_ eo))))));rcases g with rfl|⟨z',rfl,hz⟩
  ·exact Fv
  ·exact W hz
 |note p j l z h1 h2 c e=>exact .tup (aS (c' ∅) (aS (P h1) (aS (S h2) (aS (S c) (aS (W e) eo)))))
 |line p z v h1 h2 c=>exact .tup (aS (c' ∅) (aS (P h1) (aS (c' (by rcases h2 with rfl|rfl <;> decide +kernel)) (aS ((xr (ws:=ws) hw (λ_=>Ez hw) c).up ⋯) eo))))
 |lW p n h1 h2=>exact .tup (aS (c' ∅) (aS (P h1) (aS (N h2) eo)))
 |cell p a b z h1 h2 c e =>
  refine .tup (aS (c' ∅) (aS (P h1) (aS (N h2) (aS (N c) (aS ?_ eo)))));rcases e with rfl|e
  ·exact c' ∅
  ·exact W e
 |leave p w t y h1 h2 c=>exact .tup (aS (c' ∅) (aS (P h1) (aS (rq hw h2) (aS (c' (by revert t;decide +kernel)) (aS (KU _) eo)))))
 |back k n h1 h2 c=>exact .tup (aS (c' (by rcases h1 with rfl|rfl <;> decide +kernel)) (aS (mu _) eo))
 |jF k z h1 h2=>exact .tup (aS (c' (by rcases h1 with rfl|rfl <;> decide +kernel)) (aS (W h2) eo))
 |lO cs h1 h2 =>
  refine .tup (aS (c' ∅) (aS (.tup λd f=>?_) eo));obtain⟨n,i,rfl⟩:=qk.mp f;exact mu _
end
def LQ(D:ie ws za n cs b wt aK)(hw:∀w∈ws,a8 w):GC 10 (d0 za n cs b wt):=by
 refine .tup (aS (rq hw D.qK) (aS (mu _) (aS (.tup λx a=>?_) (aS ((JC hw D.br).up ⋯) (aS ((QW hw D.wh).up ⋯) eo)))));obtain⟨i,hi,rfl⟩:=qk.mp a;exact mu _
inductive Gi(vs:List V)(H:Hp)(Q:VK)(_:XK):Prop
 |mk(p:Addr)(ws:List Str)(za:Str)(n:Int)(cs:List Int)(b:PyData)(wt:List PyData)(aK:List Str)(c:Int)(h0:vs=[.str (Txt.join " " (w0 za n cs b aK)),.ref p,.int c])(h1:RL H p ws)(h2:ie ws za n cs b wt aK)(h3:2≤ws.length)(h4:∀z H',Tx ws z->Ref ws z->ag H H'->Q (.str z) H')
inductive CK(vs:List V)(H:Hp)(Q:VK)(_:XK):Prop
 |mk(h o:Str)(m:Nat)(h0:vs=[.str h,.str o,.int m])(h1:h.length≤8)(h2:o.length≤8)(h3:2≤m)(h4:m≤6)(h5:∀q H',H q=none->ag H H'->H' q=some (.lst ((things h o m).map V.str))->Q (.ref q) H')
inductive FE(vs:List V)(H:Hp)(Q:VK)(_:XK):Prop
 |mk(p:Addr)(ws:List Str)(h0:vs=[.ref p])(h1:RL H p ws)(h2:2≤ws.length)(h3:∀q h H',ws[0]?=some h->H q=none->ag H H'->H' q=some (.lst ((IM h (i7 ws) ws.length).map V.str))->Q (.ref q) H')
inductive Gy(vs:List V)(H:Hp)(Q:VK)(_:XK):Prop
 |mk(p:Addr)(ws:List Str)(v:V)(za:Str)(n:Int)(cs:List Int)(b:PyData)(wt:List PyData)(aK:List Str)(h0:vs=[.ref p,v])(h1:RL H p ws)(hr:Mr H)(h2:ie ws za n cs b wt aK)(h3:sv H v za n (cs.map PyData.int) b aK)(h4:DT H v (d0 za n cs b wt))(h5:2≤ws.length)(h6:∀H',ag H H'->Q (.bl true) H')
inductive lM(vs:List V)(H:Hp)(Q:VK)(_:XK):Prop
 |mk(sp ns:_)(_:vs=[.ref sp])(_:au H sp (List.map V.int ns))(_:ns.length≤63)(_:Mr H)(_:∀H',ag H H'->Q (.bl true) H')
def GY:List (Str×Addr×List Fm):=List.zipWith (λa b=>(a.1,a.2,b.2)) dY nQ
def GP:List (Str×Addr×List Rm):=List.zipWith (λa b=>(a.1,a.2,b.2)) cN iP
def Md.of(h:∀c∈MS,H c.1=some (.tup c.2)):Md H:=by
 refine{h (fR,[.str "row",.str "column"]) ∅,h (dm,[.str "read",.str "note",.str "write",.str "give"]) ∅,h (dB,[.str "ahead",.str "behind"]) ∅,λz=>?_}
 have b:dY=GY.map λp=>(p.1,p.2.1):=∅
 have a:nQ=GY.map λp=>(p.1,p.2.2):=∅
 have f1:fV dY z=(GY.find? λp=>decide (p.1=z)).map (·.2.1):=by
  unfold fV;rw[b,js,jt];rfl
 have f2:cF z=(GY.find? λp=>decide (p.1=z)).map (·.2.2):=by
  unfold cF;rw[a,js,jt];rfl
 rw[f1,f2]
 cases e:GY.find? λp=>decide (p.1=z) with
 |none=>rfl
 |some p =>
  have hm:=y0 e
  have d:∀p∈GY,(p.2.1,p.2.2.map λf=>V.ref (yL f))∈MS:=∅
  exact{_,Y,h _ (d p hm)}
theorem Mr.of(h:∀c∈MS,H c.1=some (.tup c.2)):Mr H:=by
 refine{Md.of h,h (fW,[.str "",.int 0]) ∅,λz=>?_}
 have b:cN=GP.map λp=>(p.1,p.2.1):=∅
 have a:iP=GP.map λp=>(p.1,p.2.2):=∅
 have f1:fV cN z=(GP.find? λp=>decide (p.1=z)).map (·.2.1):=by
  unfold fV;rw[b,js,jt];rfl
 have f2:dP z=(GP.find? λp=>decide (p.1=z)).map (·.2.2):=by
  unfold dP;rw[a,js,jt];rfl
 rw[f1,f2]
 cases e:GP.find? λp=>decide (p.1=z) with
 |none=>rfl
 |some p =>
  have hm:=y0 e
  have d:∀p∈GP,(p.2.1,p.2.2.map λf=>V.ref (GU f))∈MS:=∅
  exact{_,Y,h _ (d p hm)}
def pA:∀(H:Hp) (a:Addr) (b:List Int),b.length≤63->(∀t∈([]:List Str),H 0=some (.mF #[]))->(∀c∈MS,H c.1=some (.tup c.2))->au H a (b.map V.int)->lM [.ref a] H (λv _=>v=.bl true) λ_ _ _=>False:=λH a b h1 _ e d=>{a,b,Y,d,h1,Mr.of e,by intros;rfl}
def jK{P:Program}{w:World}{K:PySem.W.Frag}{mg:Str->Option Value}{base:Heap}{k n:Nat}{x:Str}{ps:List Str}{sp:Sp}{a:Addr}(F:jH P w K mg base k x ps sp)(hm:mg x=some (.ref a))(c:k≤n:=by decide):∃k fd ps,k≤n/\fw P w K mg base (nv P w) k a fd ps sp/\PySem.W.keepIn K (.ref a)=true/\Binds K fd ps []:=by
 obtain⟨f,fd,F,b,h⟩:=F.out;rw[hm]at b;cases b;exact{k,fd,ps,c,F,h}
def m9{P:Program}{w:World}{K:PySem.W.Frag}{mg:Str->Option Value}{base:Heap}{k n:Nat}{x:Str}{ps:List Str}{sp:Sp}{a:Addr}(F:c6 P w K mg base k x ps sp)(hm:mg x=some (.ref a))(c:k≤n:=by decide):∃k fd ps,k≤n/\fw P w K mg base p_ k a fd ps sp/\PySem.W.keepIn K (.ref a)=true/\Binds K fd ps []:=by
 obtain⟨f,fd,F,b,h⟩:=F.out;rw[hm]at b;cases b;exact{k,fd,ps,c,F,h}
def Gk:aj LO ["thing"] (af tW):={Y,Y,Y,∅,Y,∅,∅}
def Er:aj I0 ["thing","length"] (af sZ):={Y,Y,Y,∅,Y,∅,∅}
def A8:aj HU ["thing","least"] (af su):={Y,Y,Y,∅,Y,∅,∅}
def DE:aj JO ["thing","texts"] (af se):={Y,Y,Y,∅,Y,∅,∅}
def Gr:aj M4 ["roll","thing"] (af qX):={Y,Y,Y,∅,Y,∅,∅}
def Mu:aj yp ["word"] (af sR):={Y,Y,Y,∅,Y,∅,∅}
def Fk:aj L_ ["word"] (af tu):={Y,Y,Y,∅,Y,∅,∅}
def lJ:aj Hj ["_law_cell","_law_many"] (af ux):={Y,Y,Y,∅,Y,∅,∅}
def nZ:aj Ke ["_law_number"] (af rS):={Y,Y,Y,∅,Y,∅,∅}
def L7:aj Iz ["_law_number","_law_roll_here"] (af rx):={Y,Y,Y,∅,Y,∅,∅}
def Ap:aj Me ["_law_name_here"] (af r3):={Y,Y,Y,∅,Y,∅,∅}
def gD:aj JF ["_law_text","_law_roll_here","_law_number"] (af tE):={Y,Y,Y,∅,Y,∅,∅}
def jD:aj xo ["_law_hand","_law_other","_law_many"] (af oD):={Y,Y,Y,∅,Y,∅,∅}
def Fi:aj Je ["thing"] (af sf):={Y,Y,Y,∅,Y,∅,∅}
def C2:aj LF ["thing"] (af sT):={Y,Y,Y,∅,Y,∅,∅}
def F0:aj L' ["roll","thing"] (af rP):={Y,Y,Y,∅,Y,∅,∅}
def DP:aj K2 ["roll","thing"] (af t_):={Y,Y,Y,∅,Y,∅,∅}
def BJ:aj Nf ["roll","thing"] (af sV):={Y,Y,Y,∅,Y,∅,∅}
def CL:aj M7 ["roll","thing"] (af rr):={Y,Y,Y,∅,Y,∅,∅}
def AV:aj HS ["roll","thing"] (af sQ):={Y,Y,Y,∅,Y,∅,∅}
def A2:aj HD ["roll","thing"] (af ud):={Y,Y,Y,∅,Y,∅,∅}
def FN:aj M5 ["roll","thing"] (af tT):={Y,Y,Y,∅,Y,∅,∅}
def AY:aj G_ ["roll","thing"] (af tM):={Y,Y,Y,∅,Y,∅,∅}
def Gu:aj IC ["word"] (af tS):={Y,Y,Y,∅,Y,∅,∅}
def Fo:aj HK ["word"] (af r1):={Y,Y,Y,∅,Y,∅,∅}
def nH:aj IU ["_law_cell"] (af rF):={Y,Y,Y,∅,Y,∅,∅}
def EL:aj M2 ["_law_number","_law_roll_here"] (af qZ):={Y,Y,Y,∅,Y,∅,∅}
def Ak:aj IL ["_law_number","_law_roll_here"] (af rQ):={Y,Y,Y,∅,Y,∅,∅}
def GN:aj JD ["_law_number","_law_roll_here"] (af uD):={Y,Y,Y,∅,Y,∅,∅}
def EU:aj JI ["_law_sign_here"] (af tX):={Y,Y,Y,∅,Y,∅,∅}
def GG:aj J6 ["_law_side_here"] (af ry):={Y,Y,Y,∅,Y,∅,∅}
def CJ:aj Hv ["_law_thing"] (af s_):={Y,Y,Y,∅,Y,∅,∅}
def oZ:aj xB ["_law_roll_here"] (af mZ):={Y,Y,Y,∅,Y,∅,∅}
def A7:aj JK ["thing"] (af qN):={Y,Y,Y,∅,Y,∅,∅}
def Ff:aj Ku ["roll","thing"] (af rN):={Y,Y,Y,∅,Y,∅,∅}
def C5:aj Ln ["roll","thing"] (af tO):={Y,Y,Y,∅,Y,∅,∅}
def Nj:aj HF ["word"] (af uE):={Y,Y,Y,∅,Y,∅,∅}
def Lp:aj G6 ["word"] (af rz):={Y,Y,Y,∅,Y,∅,∅}
def E9:aj KQ ["word"] (af tI):={Y,Y,Y,∅,Y,∅,∅}
def Fd:aj Mh ["word"] (af sr):={Y,Y,Y,∅,Y,∅,∅}
def Cf:aj JR ["word"] (af ri):={Y,Y,Y,∅,Y,∅,∅}
def GA:aj Jn ["_law_number","_law_roll_here"] (af ti):={Y,Y,Y,∅,Y,∅,∅}
def Ko:aj MJ ["_law_number","_law_roll_here"] (af rC):={Y,Y,Y,∅,Y,∅,∅}
def vl:aj Mm ["_law_draws_here","_law_roll_here"] (af uf):={Y,Y,Y,∅,Y,∅,∅}
def rA:aj LM ["_law_what_here"] (af qV):={Y,Y,Y,∅,Y,∅,∅}
def FK:aj IY ["roll","thing"] (af sj):={Y,Y,Y,∅,Y,∅,∅}
def zZ:aj Jb ["roll","thing"] (af qP):={Y,Y,Y,∅,Y,∅,∅}
def EX:aj Lz ["roll","thing"] (af tJ):={Y,Y,Y,∅,Y,∅,∅}
def ER:aj Jc ["word"] (af r8):={Y,Y,Y,∅,Y,∅,∅}
def Gs:aj JA ["word"] (af tD):={Y,Y,Y,∅,Y,∅,∅}
def Ca:aj Ip ["word"] (af rZ):={Y,Y,Y,∅,Y,∅,∅}
def Br:aj L6 ["word"] (af rD):={Y,Y,Y,∅,Y,∅,∅}
def FZ:aj xE ["_law_draws_here","_law_roll_here"] (af oz):={Y,Y,Y,∅,Y,∅,∅}
def pG:aj JM ["_law_kind","_law_more","_law_roll_here"] (af uG):={Y,Y,Y,∅,Y,∅,∅}
def nq:aj HW ["_law_deed"] (af t8):={Y,Y,Y,∅,Y,∅,∅}
def BQ:aj M1 ["roll","thing"] (af ue):={Y,Y,Y,∅,Y,∅,∅}
def Bf:aj Mw ["roll","thing"] (af uo):={Y,Y,Y,∅,Y,∅,∅}
def Eu:aj J0 ["roll","thing"] (af uk):={Y,Y,Y,∅,Y,∅,∅}
def CH:aj yY ["roll","thing"] (af oE):={Y,Y,Y,∅,Y,∅,∅}
def BX:aj JV ["word"] (af tV):={Y,Y,Y,∅,Y,∅,∅}
def wQ:aj Kh ["_law_kind","_law_more","_law_roll_here"] (af si):={Y,Y,Y,∅,Y,∅,∅}
def Ax:aj xJ ["roll","thing"] (af oH):={Y,Y,Y,∅,Y,∅,∅}
def Cz:aj JU ["kind","words"] (af tQ):={Y,Y,Y,∅,Y,∅,∅}
def uZ:aj Ir ["_law_draws_here","_law_roll_here","_law_number"] (af sY):={Y,Y,Y,∅,Y,∅,∅}
def KH:aj JZ ["roll","number","thing"] (af oC):={Y,Y,Y,∅,Y,∅,∅}
def Cj:aj Kr ["words"] (af r0):={Y,Y,Y,∅,Y,∅,∅}
def fH:aj sM ["_law_script","_law_most"] (af kY):={Y,Y,Y,∅,Y,∅,∅}
def Gv:aj MI ["roll","thing"] (af rk):={Y,Y,Y,∅,Y,∅,∅}
def vU:aj Hi ["roll","text"] (af sD):={Y,Y,Y,∅,Y,∅,∅}
def wG:aj Lx ["_law_roll_here","_law_text"] (af rH):={Y,Y,Y,∅,Y,∅,∅}
def Jv:aj MF ["_law_roll_here","_law_deed"] (af uA):={Y,Y,Y,∅,Y,∅,∅}
def kF:aj Hu ["_law_script"] (af i6):={Y,Y,Y,∅,Y,∅,∅}
section
variable (P:Program)(w:World)(K:PySem.W.Frag)(mg:Str->Option Value)(base:Heap)
abbrev g_:Prop:=c6 P w K mg base 1 "is_word" ["thing"] Ae
abbrev hZ:Prop:=c6 P w K mg base 1 "is_tuple_of" ["thing","length"] Bo
abbrev kZ:Prop:=c6 P w K mg base 1 "is_number" ["thing","least"] E2
abbrev i':Prop:=c6 P w K mg base 1 "is_one_of" ["thing","texts"] Fw
abbrev y_:Prop:=c6 P w K mg base 1 "is_truth" ["roll","thing"] D1
abbrev lG:Prop:=jH P w K mg base 1 "read_number" ["word"] B5
abbrev xx:Prop:=jH P w K mg base 1 "read_truth" ["word"] DL
abbrev oy:Prop:=c6 P w K mg base 1 "_law_draws" ["_law_cell","_law_many"] AU
abbrev kW:Prop:=c6 P w K mg base 1 "_law_word" ["_law_number"] AW
abbrev mn:Prop:=c6 P w K mg base 1 "_law_name" ["_law_number","_law_roll_here"] Ej
abbrev mz:Prop:=c6 P w K mg base 1 "_law_shown_name" ["_law_name_here"] El
abbrev yV:Prop:=c6 P w K mg base 1 "_law_spoiled" ["_law_text","_law_roll_here","_law_number"] Gi
abbrev yI:Prop:=c6 P w K mg base 1 "_law_bad_things" ["_law_hand","_law_other","_law_many"] CK
abbrev sS:Prop:=c6 P w K mg base 2 "is_main" ["thing"] Gx
abbrev tY:Prop:=c6 P w K mg base 2 "is_any_name" ["thing"] Gc
abbrev sy:Prop:=c6 P w K mg base 2 "is_hand" ["roll","thing"] Bq
abbrev xF:Prop:=c6 P w K mg base 2 "is_plain_word" ["roll","thing"] AC
abbrev xg:Prop:=c6 P w K mg base 2 "is_word_or_none" ["roll","thing"] D8
abbrev yX:Prop:=c6 P w K mg base 2 "is_word_or_empty" ["roll","thing"] Ey
abbrev zL:Prop:=c6 P w K mg base 2 "is_way" ["roll","thing"] DH
abbrev yQ:Prop:=c6 P w K mg base 2 "is_leave" ["roll","thing"] B3
abbrev yW:Prop:=c6 P w K mg base 2 "is_deed_number" ["roll","thing"] CV
abbrev sU:Prop:=c6 P w K mg base 2 "is_counts" ["roll","thing"] C6
abbrev iA:Prop:=jH P w K mg base 2 "read_plain" ["word"] Cw
abbrev rB:Prop:=jH P w K mg base 2 "read_counts" ["word"] Ai
abbrev xG:Prop:=c6 P w K mg base 2 "_law_roll" ["_law_cell"] Ge
abbrev mW:Prop:=c6 P w K mg base 2 "_law_part" ["_law_number","_law_roll_here"] Bc
abbrev oB:Prop:=c6 P w K mg base 2 "_law_sign_name" ["_law_number","_law_roll_here"] B_
abbrev yM:Prop:=c6 P w K mg base 2 "_law_branch" ["_law_number","_law_roll_here"] BI
abbrev zG:Prop:=c6 P w K mg base 2 "_law_shown_sign" ["_law_sign_here"] F7
abbrev xq:Prop:=c6 P w K mg base 2 "_law_shown_side" ["_law_side_here"] Eh
abbrev zE:Prop:=c6 P w K mg base 2 "_law_or_none" ["_law_thing"] CQ
abbrev yO:Prop:=c6 P w K mg base 2 "_law_by_hand" ["_law_roll_here"] FE
abbrev xC:Prop:=c6 P w K mg base 3 "is_sign" ["thing"] EI
abbrev lE:Prop:=c6 P w K mg base 3 "is_name" ["roll","thing"] De
abbrev zH:Prop:=c6 P w K mg base 3 "is_branch" ["roll","thing"] GD
abbrev og:Prop:=jH P w K mg base 3 "read_name" ["word"] BM
abbrev om:Prop:=jH P w K mg base 3 "read_sign_name" ["word"] Bd
abbrev yA:Prop:=jH P w K mg base 3 "read_plain_or_none" ["word"] AK
abbrev zU:Prop:=jH P w K mg base 3 "read_plain_or_empty" ["word"] Fu
abbrev yR:Prop:=jH P w K mg base 3 "read_branch" ["word"] Fc
abbrev xQ:Prop:=c6 P w K mg base 3 "_law_side" ["_law_number","_law_roll_here"] FP
abbrev xY:Prop:=c6 P w K mg base 3 "_law_sign" ["_law_number","_law_roll_here"] An
abbrev zI:Prop:=c6 P w K mg base 3 "_law_sign_names" ["_law_draws_here","_law_roll_here"] GO
abbrev yD:Prop:=c6 P w K mg base 3 "_law_shown_what" ["_law_what_here"] ET
abbrev sX:Prop:=c6 P w K mg base 4 "is_part" ["roll","thing"] GB
abbrev yB:Prop:=c6 P w K mg base 4 "is_line_or_none" ["roll","thing"] Gq
abbrev oJ:Prop:=c6 P w K mg base 4 "is_sign_name" ["roll","thing"] A3
abbrev tR:Prop:=jH P w K mg base 4 "read_part" ["word"] CZ
abbrev x6:Prop:=jH P w K mg base 4 "read_name_or_none" ["word"] C8
abbrev zB:Prop:=jH P w K mg base 4 "read_sign_name_or_none" ["word"] ED
abbrev zY:Prop:=jH P w K mg base 4 "read_side" ["word"] Ee
abbrev yZ:Prop:=c6 P w K mg base 4 "_law_signs" ["_law_draws_here","_law_roll_here"] DN
abbrev yS:Prop:=c6 P w K mg base 4 "_law_what_of_marks" ["_law_kind","_law_more","_law_roll_here"] DZ
abbrev rM:Prop:=c6 P w K mg base 4 "_law_shown" ["_law_deed"] Fb
abbrev zP:Prop:=c6 P w K mg base 5 "is_sign_name_or_none" ["roll","thing"] BG
abbrev yK:Prop:=c6 P w K mg base 5 "is_side" ["roll","thing"] Dn
abbrev xf:Prop:=c6 P w K mg base 5 "is_sign_of_roll" ["roll","thing"] CY
abbrev xA:Prop:=c6 P w K mg base 5 "is_sign_names" ["roll","thing"] Cv
abbrev zV:Prop:=jH P w K mg base 5 "read_sign" ["word"] Ce
abbrev yT:Prop:=c6 P w K mg base 5 "_law_what_of_signs" ["_law_kind","_law_more","_law_roll_here"] CM
abbrev xp:Prop:=c6 P w K mg base 6 "is_signs" ["roll","thing"] BS
abbrev xn:Prop:=jH P w K mg base 6 "read_listed" ["kind","words"] Be
abbrev yr:Prop:=c6 P w K mg base 6 "_law_what" ["_law_draws_here","_law_roll_here","_law_number"] A5
abbrev zS:Prop:=c6 P w K mg base 7 "is_what" ["roll","number","thing"] FV
abbrev zR:Prop:=jH P w K mg base 7 "read_what" ["words"] DY
abbrev xb:Prop:=c6 P w K mg base 7 "_law_house" ["_law_script","_law_most"] E3
abbrev xN:Prop:=c6 P w K mg base 8 "is_deed" ["roll","thing"] Af
abbrev oG:Prop:=jH P w K mg base 9 "read_deed" ["roll","text"] qY
abbrev tj:Prop:=c6 P w K mg base 10 "_law_refused" ["_law_roll_here","_law_text"] nN
abbrev zN:Prop:=jH P w K mg base 11 "_law_by_another" ["_law_roll_here","_law_deed"] Gy
end
section
variable (P:Program)(w:World){K:PySem.W.Frag}{mg:Str->Option Value}(base:Heap){tk:Str->Tok}
def DF(T:Txt K mg tk)(F:FO K mg "is_word" tW):g_ P w K mg base:=by
 refine aH F Gk (hJ λ_=>rfl) (λ_ _ _ _ h=>vr h) λt i A outer s H vs Q E r h=>?_
 refine{_,(ak (ax (PW.pt (eD (cY (cI (cb gN T.aw boot_isinstance (a2 (na 0) (gC (v:=.ty "str") (by rfl) T.eH boot_str rfl))))) (iw (cY (uU gH gH ai (cb Es T.bT boot_len (a1 (na 0))) (fi (v:=.int 8) (by rfl) T.jR {_,Y})))))) (ao (av cB)) aO)
   (ao (av (cb (pU rfl) T.kX boot_all (a1 (rm (Gj (na 0)) (λ_ _ _=>dn) (λ_ _ _=>(BY wH wH ah (na 0) ah)))))))),?_}
 obtain⟨v,d,rfl,b,k⟩:=h;refine{_,"str",_,Y,Y,b.tH ⋯ ⋯,?_}
 cases b with
 |@str z ty =>
  refine{_,Y,aD ?_};have f:z.length≤sizeLine:=qj (aC ty);refine{z,Y,f,_,_,Y,Y,_,Y,?_};refine aG (λh1=>?_) λh1=>?_
  ·have h1:(1:Int)≤(z.length:Int):=qB h1
   refine{_,_,Y,Y,_,Y,?_};refine aG (λh2=>?_) λh2=>?_
   ·have h2:¬(z.length:Int)≤8:=by simpa using h2
    have e:bp z=false:=KC λh=>h2 h.2;rw[←e];exact k H (ag.refl H)
   ·have h2:(z.length:Int)≤8:=by simpa using h2
    refine{z,Y,Jo f (λc=>some (.bl (lH c))) (λH'=>ag H H') (ag.refl H) (λc H' q m o p k1 k0=>?_) λH' p s j=>?_}
    ·refine aB (B:=m H') ?_
     refine{_,_,Y,Y,_,Y,?_};have n:(!decide ((⟨#[c]⟩:Str).cps.toList<("a":Str).cps.toList))=decide (97≤c):=Sj c;have g:(!decide (("z":Str).cps.toList<(⟨#[c]⟩:Str).cps.toList))=decide (c≤122):=Q2 c;rw[n];refine aG (λa=>?_) λa=>?_
     ·refine{_,_,Y,Y,?_}
      rw[g];exact k1 _ H' (by unfold lH;rw[a,zu]) p
     ·exact k1 _ H' (by unfold lH;rw[zw.mpr a,wz]) p
    ·refine{p,z.cps.toList.map lH,Y,au.of (by rw[aN,M_,zq];rfl),?_}
     have e:(z.cps.toList.map lH).all id=bp z:=by
      rw[Sf h1 h2,wy];rfl
     rw[e];exact k _ (s.up j)
  ·have h1:¬(1:Int)≤(z.length:Int):=by simpa using h1
   have e:bp z=false:=KC λh=>h1 h.1;refine{_,Y,aB ?_};rw[←e];exact k H (ag.refl H)
 |_=>exact{_,Y,aB (aB (k H (ag.refl H)))}
def Ac(T:Txt K mg tk)(F:FO K mg "is_tuple_of" sZ):hZ P w K mg base:=by
 refine aH F Er (fF λ_ _=>rfl) {} λc b A outer s H vs Q E e h=>?_;refine{_,(ao (av (eO (cb gN T.aw boot_isinstance (a2 (na 0) (gC (v:=.ty "tuple") (by rfl) T.cx boot_tuple rfl))) (dS (ce aR (cb eu T.bT boot_len (a1 (na 0))) (na 1)))))),?_};obtain⟨v,d,n,rfl,a,k⟩:=h;refine{_,"tuple",_,Y,Y,a.tH ⋯ ⋯,?_}
 cases a with
 |tup h t =>
  refine{_,Y,aB ?_};refine{_,_,Y,.inr (aI.of h),Y,?_};rw[uP,mf,t.len];exact k
 |_=>exact{_,Y,aD k}
def BV(T:Txt K mg tk)(F:FO K mg "is_number" su):kZ P w K mg base:=by
 refine aH F A8 (fF λ_ _=>rfl) {} λf c A outer s H vs Q E g h=>?_
 refine{_,(ak (ax (PW.pt (eD (cY (cI (cb gN T.aw boot_isinstance (a2 (na 0) (gC (v:=.ty "int") (by rfl) T.gF boot_int rfl))))) (iw (cI (cb gN T.aw boot_isinstance (a2 (na 0) (gC (v:=.ty "bool") (by rfl) T.rh boot_bool rfl))))))) (ao (av cB)) aO)
   (ao (av (BY gH gH (na 1) (na 0) (fi (v:=.int 1000000) (by rfl) T.kK {_,Y}))))),?_}
 obtain⟨v,d,n,rfl,a,k⟩:=h;refine{_,"int",_,Y,Y,a.tH ⋯ ⋯,?_}
 cases a with
 |int i =>
  refine{_,Y,aD ?_};refine{_,"bool",_,Y,Y,.int i,?_};refine{_,Y,aD ?_};refine{_,_,Y,Y,_,Y,?_};refine aG (λh1=>?_) λh1=>?_
  ·refine{_,_,Y,Y,?_}
   have e:decide (i≤1000000)=dA n (.int i):=by
    show _=decide (n≤i/\i≤1000000);rw[Bool.decide_and,h1,zu]
   show Q (.bl (decide (i≤1000000))) H;rw[e];exact k
  ·have e:false=dA n (.int i):=by
    show _=decide (n≤i/\i≤1000000);rw[Bool.decide_and,zw.mpr h1,wz]
   rw[e];exact k
 |bl b =>
  refine{_,Y,aD ?_};exact{_,"bool",_,Y,Y,.bl b,_,Y,aB k}
 |_=>exact{_,Y,aB (aB k)}
def Bs(T:Txt K mg tk)(F:FO K mg "is_one_of" se):i' P w K mg base:=by
 refine aH F DE (fF λ_ _=>rfl) {} λg c A outer s H vs Q E e h=>?_;refine{_,(ao (av (eO (cb gN T.aw boot_isinstance (a2 (na 0) (gC (v:=.ty "str") (by rfl) T.eH boot_str rfl))) (dS (ce Nd (na 0) (na 1)))))),?_};obtain⟨v,d,p,zs,rfl,a,b,k⟩:=h;refine{_,"str",_,Y,Y,a.tH ⋯ ⋯,?_}
 cases a with
 |str f =>
  refine{_,Y,aB ?_};refine{p,_,Y,.inr (aI.of b),Y,(by rw[wy];exact zk.mpr λ_ _=>rfl),?_};show Q (.bl (pY _ _)) H;rw[o9];exact k
 |_=>exact{_,Y,aD k}
def Gd(T:Txt K mg tk)(F:FO K mg "is_truth" qX):y_ P w K mg base:=by
 refine aH F Gr (fF λ_ _=>rfl) (λ_ _ _ _ h=>eX h) λg b A outer s H vs Q E c h=>?_;refine{_,(ao (av (cb gN T.aw boot_isinstance (a2 (na 1) (gC (v:=.ty "bool") (by rfl) T.rh boot_bool rfl))))),?_};obtain⟨p,ws,v,d,rfl,f,hw,a,k⟩:=h;refine{_,"bool",_,Y,Y,a.tH ⋯ ⋯,?_}
 have e:kT "bool" d=n5 d:=by cases d <;> rfl
 rw[e];exact k H (ag.refl H)
def D_(T:Txt K mg tk)(F:FO K mg "read_number" sR):lG P w K mg base:=by
 refine fI F Mu (hJ λ_=>rfl) (λ_ _ _ _ h=>gU h) λfa cdv A outer s H vs Q E i h=>?_
 refine{_,(ak (sn Mu.nd 1 (cb (pU rfl) T.kX boot_all (a1 (rm (Gj (na 0)) (λ_ _ _=>dn) (λ_ _ _=>(BY wH wH ah (na 0) ah))))))
   (ak (ax (PW.pt (eD (cY (cI (na 1))) (eD (cY (uU gH gH ai (cb Es T.bT boot_len (a1 (na 0))) (fi (v:=.int 7) (by rfl) T.kE {_,Y}))) (iw (PW.pt (wV (ck aR (iF Dx (na 0) ai (λ_ _=>rfl)) ah) (wR (ck jZ (na 0) ah)))))))) (ao (j' T.bZ T.b0 (a1 (nX (na 0))))) aO)
   (ao (av (cy Ph T.gF boot_int (a1 (na 0))))))),?_}
 obtain⟨z,rfl,md,D,hl,k,G⟩:=h;have I:z.length≤sizeLine:=qj (aC hl)
 have i:∀d,dM d z->(∀c∈z.cps.toList,48≤c/\c≤57)/\(1≤z.cps.size/\z.cps.size≤7)/\(z.cps.toList[0]?=some 48->z = "0"):=λd ⟨n,_,r,e⟩=>by
  subst e;refine{λc a=>kB r.1 c a,{ur r.1,OZ r.1 r.2},λf=>?_};rw[HR r.1 f];rfl
 refine{_,Y,Jo I (λc=>some (.bl (decide (48≤c)&&decide (c≤57)))) (λH'=>ag H H') (ag.refl H) (λc H' K1 K0 a p k1 k0=>?_) λH1 q s1 hq=>?_}
 ·refine aB (B:=K0 H') ?_
  refine{_,_,Y,Y,_,Y,?_};have W:=le_0 c;have e2:=Q1 c;rw[W];refine aG (λL=>?_) λL=>?_
  ·refine{_,_,Y,Y,?_}
   rw[e2];exact k1 _ H' (by rw[L,zu]) p
  ·exact k1 _ H' (by rw[zw.mpr L,wz]) p
 have C:=s1.up (o:=.lst (z.cps.toList.filterMap λc=>some (.bl (decide (48≤c)&&decide (c≤57))))) hq;refine{q,z.cps.toList.map λc=>decide (48≤c)&&decide (c≤57),Y,au.of (by rw[aN,M_,zq];rfl),?_}
 cases e:((z.cps.toList.map λc=>decide (48≤c)&&decide (c≤57)).all id) with
 |false =>
  refine{_,Y,aB ?_};refine{z,Y,D,λv=>{qj (aC (ze rfl)),G (λd h=>?_) _ C}};rw[wy,zw]at e;refine e (zk.mpr λc a=>?_);have:=(i d h).1 c a;show(decide (48≤c)&&decide (c≤57))=true;rw[qs this.1,qs this.2];rfl
 |true =>
  have g:∀c∈z.cps.toList,48≤c/\c≤57:=λc a=>by
   rw[wy,zk]at e;have h:=e c a;have h:(decide (48≤c)&&decide (c≤57))=true:=h;rw[qv]at h;exact{qB h.1,qB h.2}
  refine{_,Y,aD ?_};refine{_,Y,I,_,_,Y,Y,_,Y,?_};refine aG (λy=>?_) λy=>?_
  rotate_left
  ·refine{_,Y,aB ?_}
   refine{z,Y,D,λv=>{qj (aC (ze rfl)),G (λd h=>y (qs ?_)) _ C}};have:=(i d h).2.1.1;show(1:Int)≤((z.cps.size:Nat):Int);omega
  have y:=qB y;refine{_,_,Y,Y,_,Y,?_}
  cases O:decide ((z.length:Int)≤7) with
  |false =>
   refine aB ?_;refine{z,Y,D,λv=>{qj (aC (ze rfl)),G (λd h=>of_decide_eq_false O ?_) _ C}};have:=(i d h).2.1.2;show((z.cps.size:Nat):Int)≤7;omega
  |true =>
   refine aD ?_;have Z:=qB O
   have t:0<z.cps.toList.length:=by
    have h:(1:Int)≤((z.cps.size:Nat):Int):=y;rw[zt];omega
   have J:z.cps.size≤7:=by
    have h:((z.cps.size:Nat):Int)≤7:=Z;omega
   obtain⟨c,b⟩:∃c,z.cps.toList[0]?=some c:={_,qm t};have a:kR z.cps.toList 0=some c:=bj (j:=0) b;refine{_,_,c,Y,Y,I,a,Y,_,Y,?_}
   have m:(z.cps.toList.head?=some 48->z.cps.size=1)->IB (Mt yG (eE (LC 0) ni)) { nx:=λx H'=>Q V.a' H',rt:=Q } (List.set (L2.start yp [V.str z]) 1 (some (V.bl true))) (upd H1 q (.lst (z.cps.toList.filterMap λc=>some (.bl (decide (48≤c)&&decide (c≤57)))))):=λh1=>by
    obtain⟨n,U,n7,R⟩:=Qq g (by rw[←zt];exact t) J h1;exact{n,by rw[R],U,(),k _ _ _ {n,Y,{U,n7},R} C (.int n)}
   have M:∀{c:Nat},V.str ⟨#[c]⟩=V.str "0"->c=48:=λ{c} f=>by
    have:=congrArg (λz:Str=>z.cps.toList) (V.str.inj f)
    have e:("0":Str).cps.toList=[48]:=∅
    rw[e]at this;exact(List.cons.inj this).1
   have N:z.cps.toList.head?=some c:=by rw[List.head?_eq_getElem?];exact b
   refine aG (λf=>?_) λf=>m λh1=>?_
   rotate_left
   ·rw[N]at h1
    cases h1;exact absurd (qs rfl) f
   have X:=M (qB f);refine{Y,_,Y,?_}
   cases S:decide (V.str z=V.str "0") with
   |true =>
    refine m λ_=>?_;have:=V.str.inj (qB S);rw[this];decide +kernel
   |false =>
    refine{z,Y,D,λv=>{qj (aC (ze rfl)),G (λd h=>of_decide_eq_false S ?_) _ C}};rw[(i d h).2.2 (X▸b)]
def Ad(T:Txt K mg tk)(F:FO K mg "read_truth" tu):xx P w K mg base:=by
 refine fI F Fk (hJ λ_=>rfl) (λ_ _ _ _ h=>gU h) λn i A outer s H vs Q E j h=>?_
 refine{_,(ak (ax (PW.pt (wV (ck jZ (na 0) ah) (wR (ck jZ (na 0) ah)))) (ao (j' T.bZ T.b0 (a1 (nX (na 0))))) aO)
   (ao (av (ce aR (na 0) ah)))),?_}
 obtain⟨z,rfl,m,f,hl,k,g⟩:=h;refine{Y,_,Y,?_}
 by_cases a:z=("yes":Str)
 ·rw[show(!decide (V.str z=V.str "yes"))=false from by rw[qs (by rw[a])];rfl]
  refine aD (aD ?_);refine{Y,?_};rw[show decide (V.str z=V.str "yes")=true from qs (by rw[a])];exact k _ _ _ {true,Y,a} (ag.refl H) (.bl true)
 ·have f1:decide (V.str z=V.str "yes")=false:=decide_eq_false λh=>a (V.str.inj h)
  rw[f1];refine aB ?_;refine{Y,_,Y,?_}
  by_cases c:z=("no":Str)
  ·rw[show(!decide (V.str z=V.str "no"))=false from by rw[qs (by rw[c])];rfl]
   refine aD ?_;refine{Y,?_};rw[f1];exact k _ _ _ {false,Y,c} (ag.refl H) (.bl false)
  ·rw[show(!decide (V.str z=V.str "no"))=true from by rw[decide_eq_false λh=>c (V.str.inj h)];rfl]
   refine aB ?_;refine{z,Y,f,λv=>{qj (aC (ze rfl)),g (λd h=>?_) _ (ag.refl H)}};obtain⟨b,_,e⟩:=h
   cases b with
   |true=>exact a e
   |false=>exact c e
def DG(T:Txt K mg tk)(F:FO K mg "_law_draws" ux):oy P w K mg base:=by
 refine aH F lJ (fF λ_ _=>rfl) {} λz t A outer s H vs Q E v h=>?_
 refine{_,(ak (sn lJ.nd 2 (aA kQ))
   (ak (sn lJ.nd 3 (cb (B6 rfl) T.qO boot_max (a2 ai (ae ny (vv 0) (ae oK ai ai)))))
   (ak (fo (pF (by rfl) T.gA (a1 (vv 1))) (gn lJ.nd 4)
   (ak (sn lJ.nd 5 (ae b' (ae kM (ae er (ae er (ae b' (vv 0) ai) (ae kM (ae kM ai (vv 4)) (vv 4))) ai) ai) ai))
   (ak (sn lJ.nd 5 (ae b' (ae kM (vv 5) (vv 5)) ai))
   (ak (sn lJ.nd 6 (ae dX (ae kM (ae kM (ae kM (vv 5) (ae er (vv 5) ai)) ai) (ae er (ae er (vv 5) (vv 4)) ai)) ai))
   (ak (ax (ck iz (vv 3) ai) (ao (sn lJ.nd 6 (vv 3))) aO)
   (ak (ap (vv 2) (a1 (ae b' (vv 6) (ae oK ai ai))))
   (ao (sn lJ.nd 3 (ae Oe (vv 3) (ae oK ai ai))))))))))
   (ao (av (vv 2)))))),?_}
 obtain⟨i,n,rfl,x,k⟩:=h;refine{⋯,λp H1 o q r=>?_};refine{_,Y,_,_,Y,Y,{⋯,⋯,⋯},_,_,Y,Y,_,_,Y,?_}
 refine{_,Y,n,Y,(),(),vD (n:=(n:Int).toNat) (λj σ H2=>∃(b:Int) (a:List Int) (m e g:Option V),σ=[some (.int i),some (.int n),some (.ref p),some (.int b),m,e,g]/\ag H H2/\H2 p=some (.lst (a.map V.int))/\a.length=j)
  {_,[],none,none,none,Y,q,r,Y} ?_ ?_}
 ·rintro j σ H2 y ⟨b,a,m,e,g,rfl,f,h2,hl⟩
  have c:j<31:=()
  refine{_,Y,_,_,Y,Y,(by show(0:Int)<1000000007;decide),_,Y,_,_,Y,Y,.inl {⋯,⋯},_,Y,_,_,Y,Y,.inr {(),()},_,_,Y,Y,_,_,Y,Y,_,_,Y,Y,.inr {⋯,⋯},_,_,Y,Y,(by show(0:Int)<2147483629;decide),?_};refine{_,Y,_,Y,_,_,Y,Y,.inl (cm ⋯ ⋯),_,_,Y,Y,(by show(0:Int)<2147483587;decide),?_};refine{_,Y,_,Y,_,_,Y,Y,_,_,Y,Y,.inl (cm ⋯ ⋯),_,_,Y,Y,.inr {⋯,⋯},_,Y,_,Y,_,_,Y,Y,_,_,Y,Y,_,_,Y,Y,.inr (TX ⋯ ⋯ c),_,_,Y,Y,{⋯,⋯},?_};refine{_,Y,_,_,Y,Y,_,Y,?_};refine aG (λ_=>{_,Y,?_}) λ_=>?_
  all_goals
   refine{_,Y,.inl {Y,_,au.of h2},_,Y,_,_,Y,Y,{⋯,⋯,⋯},_,_,Y,Y,(by decide:(0:Int)<10 ^ (34:Int).toNat),p,_,_,Y,Y,h2,(by rw[qf];exact aC ()),?_};refine{_,Y,_,_,Y,Y,{⋯,⋯,⋯},_,_,Y,Y,{(by decide:(0:Int)<10 ^ (34:Int).toNat),∅},?_};exact{_,a++[_],_,_,_,Y,f.wr o,by rw[aN,zm];rfl,by rw[qu,zy,hl]}
 ·rintro σ H2 ⟨b,a,m,e,g,rfl,f,h2,hl⟩
  have d:a.length=n:=()
  exact{_,Y,k H2 p a f o {h2,(),()} d}
def Df(T:Txt K mg tk)(F:FO K mg "_law_word" rS):kW P w K mg base:=by
 refine aH F nZ (hJ λ_=>rfl) {} λp g A outer s H vs Q E m h=>?_
 refine{_,(ak (sn nZ.nd 1 ah)
   (ak (sn nZ.nd 2 (ae er ai (ae b' (vv 0) ai)))
   (ak (sn nZ.nd 0 (ae dX (vv 0) ai))
   (ak (fo (pF (by rfl) T.gA (a1 (vv 2))) (gn nZ.nd 3)
   (ak (sn nZ.nd 1 (ae aL (vv 1) (iF Dx ah (ae b' (vv 0) ai) (λ_ _=>rfl))))
   (ao (sn nZ.nd 0 (ae dX (vv 0) ai)))))
   (ao (av (vv 1))))))),?_}
 obtain⟨i,rfl,k⟩:=h;refine{_,Y,_,_,Y,Y,(by show(0:Int)<8;decide),_,_,Y,Y,?_};refine{_,Y,_,_,Y,Y,{⋯,⋯},?_};have hm:0≤i % 8/\i % 8<8:={Int.emod_nonneg _ ⋯,Int.emod_lt_of_pos _ ⋯}
 refine{_,Y,_,Y,(),(),vD (n:=(1+i % 8).toNat) (λj σ H2=>∃(n:Int) (z:Str) (q:Option V),σ=[some (.int n),some (.str z),some (.int (1+i % 8)),q]/\H2=H/\z.cps.size=j/\∀c∈z.cps.toList,97≤c/\c≤122)
  {i / 8,_,none,Y,Y,Y,λ_ z=>nomatch z} ?_ ?_}
 ·rintro j σ H2 o ⟨n,z,q,rfl,rfl,f,hw⟩
  have e:0≤n % 26/\n % 26<26:={Int.emod_nonneg _ ⋯,Int.emod_lt_of_pos _ ⋯};obtain⟨c,b⟩:=Lk ("abcdefghijklmnopqrstuvwxyz":Str).cps.toList (n % 26) e.1 (by rw[show("abcdefghijklmnopqrstuvwxyz":Str).cps.toList.length=26 from ∅];omega);refine{_,Y,_,Y,_,_,Y,Y,(by show(0:Int)<26;decide),_,_,_,Y,Y,∅,b,_,_,Y,Y,?_,?_}
  ·have:z.length=z.cps.size:=rfl
   have h1:(⟨#[c]⟩:Str).length=1:=rfl;have:=aC (n:=z.length+1) ();omega
  ·refine{_,Y,_,_,Y,Y,{⋯,⋯},?_}
   refine{n / 26,_,_,Y,Y,by rw[B2];show _+1=_;omega,λd a=>?_};rw[vM]at a;rcases zf.mp a with y|y
   ·exact hw d y
   ·rw[zh.mp y]
    exact P6 c (J2 b)
 ·rintro σ H2 ⟨n,z,q,rfl,rfl,f,hw⟩
  exact⟨_,Y,k z ⟨(),(),hw⟩⟩
def Dl(T:Txt K mg tk)(F:FO K mg "_law_name" rx):mn P w K mg base:=by
 refine aH F L7 (fF λ_ _=>rfl) {} λz r A outer s H vs Q E y h=>?_
 refine{_,(ak (sn L7.nd 2 (ae dX (vv 0) (cb eu T.bT boot_len (a1 (vv 1)))))
   (ao (av (bF (a2 (xa (vv 1) (ae b' (vv 0) (cb eu T.bT boot_len (a1 (vv 1))))) (ae er ai (ae b' (ae dX (vv 2) ai) (xa (aA (a2 ai (ae oK ai ai))) (ae b' (vv 2) ai))))))))),?_}
 obtain⟨i,p,ws,rfl,a,k⟩:=h;refine{_,Y,_,Y,p,_,Y,.inl (au.of a.at'),_,_,Y,Y,a.len,?_};refine{_,Y,_,Y,_,Y,p,_,Y,.inl (au.of a.at'),_,_,Y,Y,a.len.1,p,_,_,Y,Y,au.of a.at',dE _ a.len.1,dQ _ a.len.1,λv q=>?_};obtain⟨w,hw,rfl⟩:=qk.mp q;refine{_,Y,_,_,Y,Y,{⋯,⋯},_,_,Y,Y,{⋯,⋯,⋯},ar rfl,λj H1 t e o=>?_};refine{_,Y,_,_,Y,Y,(by show(0:Int)<2;decide),j,_,_,Y,Y,au.of o,dE _ ⋯,dQ _ ⋯,λm hm=>?_}
 obtain⟨n,rfl,b,f⟩:∃n,m=V.int n/\0<n/\n≤1000000:=by
  simp only[List.mem_cons,List.not_mem_nil,or_false]at hm
  rcases hm with rfl|rfl
  ·exact⟨9,Y,⋯,⋯⟩
  ·exact⟨_,Y,⋯,⋯⟩
 refine⟨_,_,Y,Y,b,_,_,Y,Y,ar rfl,λd H2 x g c=>?_⟩;refine k H2 (.ref d) _ (e.trans g) (.tup c (.cons (.str w) (.cons (.int _) .nil))) {_,Y,w,_,Y,hw,?_,?_}
 ·have:=dE (i / ((ws.map V.str).length:Int) / 2) b
  omega
 ·have:=dQ (i / ((ws.map V.str).length:Int) / 2) b
  omega
def Dq(T:Txt K mg tk)(F:FO K mg "_law_shown_name" r3):mz P w K mg base:=by
 refine aH F Ap (hJ λ_=>rfl) {} λJ z A outer s H vs Q E e h=>?_
 refine{_,(ak (ax (ck (PR e) (vv 0) (bF (a2 ah ai))) (ao (av ah)) aO)
   (ao (av (bm PySem.F.plainAttrs_str PySem.F.slot_str_join PySem.F.type_str_join fJ ah (a1 (rm (iu (vv 0)) (λ_ _ _=>dn) (λ_ _ _=>(cy pq T.eH boot_str (a1 (vv 0)))))))))),?_}
 obtain⟨v,ds,rfl,g,f,kk⟩:=h;obtain⟨q,xs,rfl,D,n⟩:=iT g;have hl:=mH n;obtain⟨fl,k⟩:=f.flat;refine{_,Y,ar rfl,λL H1 G b f1=>?_};refine{.tuple ds,.tuple [.str "",.int 0],(g.same b).dv,.tup (aI.of f1) (.cons (.str _) (.cons (.int _) .nil)),?_,∅,?_,_,Y,?_}
 ·rcases f with rfl|⟨h,r,rfl,h0,bP,h8,e,hi⟩
  ·decide +kernel
  ·show(PyData.strOk h&&PyData.canLayAll0 r)=true
   rw[bP,Cp hi];rfl
 ·show min _ (max 0 (max 0 0)+1)≤64
  omega
 rcases f with rfl|⟨h,r,rfl,h0,bP,h8,e,hi⟩
 ·refine p' ∅ ?_
  exact kk H1 b
 ·refine dO ?_ ?_
  ·show(h==""&&_)=false
   rw[show(h==("":Str))=false from by rw[beq_eq_false_iff_ne];exact h0];rfl
  rw[wC (r:=r) h0]at kk;have a:=b _ _ D;refine{Y,_,Y,q,Y,{_,aI.of a},tK (xs:=xs) (oO ()) (λi ys H'=>ys=(((PyData.str h::r).map cT).take i).map V.str/\H'=H1) {Y,Y} (λ_ _ H' q'=>by rw[q'.2];exact aI.of a) (λj x ys H' I y c C k1 k0=>?_) λH' p ys P _ o=>?_}
  ·obtain⟨rfl,rfl⟩:=C
   obtain⟨d,m,dv⟩:=DA n c;obtain⟨f1,f2⟩:=uw dv (k d (qx m));refine aB (B:=y H') ?_;refine{_,Y,x,Y,f1,k1 _ _ {?_,Y}};rw[Hf (x:=cT d) (by rw[zj,m];rfl),zm,f2];rfl
  ·obtain⟨rfl,rfl⟩:=P
   rw[vm (by rw[qf,hl];exact qi _)];refine{".",p,(PyData.str h::r).map cT,Y,Y,au.of aN,?_,kk _ (b.trans (ag.new o))};have:=pQ k;have t:(".":Str).length=1:=rfl;rw[t,qf];omega
def AQ(T:Txt K mg tk)(F:FO K mg "_law_spoiled" tE):yV P w K mg base:=by
 refine aH F gD (G1 λ_ _ _=>rfl) {} λfa cdv A outer s H vs Q E hr h=>?_
 refine{_,(ak (sn gD.nd 3 (bm PySem.F.plainAttrs_str PySem.F.slot_str_split PySem.F.type_str_split pH (na 0) (a1 ah)))
   (ak (o8 (aX bG (na 3) aZ (aV ai)) (To (fc (gn gD.nd 4) (fc (gn gD.nd 5) (fc (gn gD.nd 6) (fc (gn gD.nd 7) (fc (gn gD.nd 8) nF)))))))
   (lN (sn gD.nd 9 (aX bG (na 3) (aV ai) aZ))
   (lN (sn gD.nd 10 (aA (ac (aX bG (na 3) (aV ai) aZ) (ac (ae a9 (aX bG (na 3) aZ (aV ai)) (aX bG (na 3) (aV ai) aZ)) (a2 (ae a9 (aX bG (na 3) aZ (aV ai)) (aX bG (na 3) (aV ai) aZ)) (ae a9 (aX bG (na 3) aZ (aV ai)) (aX bG (na 3) (aV ai) aZ)))))))
   (lN (sn gD.nd 10 (ae a9 (na 10) (aA (ac (ae a9 (aA (a1 (EM PySem.F.plainAttrs_str PySem.F.slot_str_upper PySem.F.type_str_upper GH (na 4)))) (aX bG (na 3) (aV ai) aZ)) (a2 (ae a9 (aA (a1 (ae aL (na 4) ah))) (aX bG (na 3) (aV ai) aZ)) (ae a9 (aA (a2 (na 4) (ae aL ah (na 5)))) (aX bG (na 3) (aV ai) aZ)))))))
   (lN (sn gD.nd 10 (ae a9 (na 10) (aA (ac (ae a9 (aA (a2 (na 4) (ae aL ah (na 5)))) (aX bG (na 3) (aV ai) aZ)) (a2 (ae a9 (aA (a2 (na 4) (ae aL (ae aL (na 5) ah) (na 5)))) (aX bG (na 3) (aV ai) aZ)) (ae a9 (aA (a2 (na 4) ah)) (aX bG (na 3) (aV ai) aZ)))))))
   (lN (sn gD.nd 10 (ae a9 (na 10) (aA (a2 (ae a9 (ae a9 (aX bG (na 3) aZ (aV ai)) (aA (a1 (ae aL (na 6) ah)))) (aX bG (na 3) (aV ai) aZ)) (ae a9 (ae a9 (aX bG (na 3) aZ (aV ai)) (aA (a1 (ae aL ah (na 6))))) (aX bG (na 3) (aV ai) aZ))))))
   (lN (sn gD.nd 10 (ae a9 (na 10) (aA (MN (Rg a9 (Aj a9 (aX bG (na 3) aZ (aV ai)) (Pt (MK (Aj aL (na 6) Ig)))) (aX bG (na 3) (aV ai) aZ)) (rJ (Lm a9 (Lm a9 (Nt (aX bG (na 3) aZ (aV ai))) (RZ (rJ (RH (na 6)) (pap kQ)))) (Nt (aX bG (na 3) (aV ai) aZ))) (pap kQ))))))
   (lN (sn gD.nd 10 (ae a9 (na 10) (aA (a2 (ae a9 (ae a9 (aX bG (na 3) aZ (aV ai)) (aA (a1 ah))) (aX bG (na 3) (aV ai) aZ)) (ae a9 (ae a9 (aX bG (na 3) aZ (aV ai)) (aA (a1 (ae aL (xl (na 1)) ah)))) (aX bG (na 3) (aV ai) aZ))))))
   (lN (sn gD.nd 10 (ae a9 (na 10) (aA (ac (ae a9 (ae a9 (aX bG (na 3) aZ (aV ai)) (aA (a1 (EM PySem.F.plainAttrs_str PySem.F.slot_str_upper PySem.F.type_str_upper GH (na 8))))) (na 9)) (ac (ae a9 (ae a9 (aX bG (na 3) aZ (aV ai)) (aA (a1 (ae aL (na 8) ah)))) (na 9)) (a2 (ae a9 (na 3) (aA (a1 ah))) (ae a9 (na 3) (aA (a1 ah)))))))))
   (lN (sn gD.nd 10 (ae a9 (na 10) (aA (a2 (ae a9 (aA (a1 ah)) (na 3)) (ae a9 (ae a9 (aX bG (na 3) aZ (aV ai)) (aA (a1 ah))) (aX bG (na 3) (aV ai) aZ))))))
   (ao (av (bm PySem.F.plainAttrs_str PySem.F.slot_str_join PySem.F.type_str_join fJ ah (a1 (xa (na 10) (ae b' (na 2) ai))))))))))))))))),?_}
 obtain⟨p,ws,za,n,cs,b,wt,aK,c,rfl,rl,D,i,k⟩:=h;have bg:=rl.bg;have hw:=rl.wd;have tx0:=BU (ws':=ws) D hw i bg;have sp:=D.sp hw () bg;have wo:=D.wo hw i bg;obtain⟨kk,d,rs,rfl,hkd⟩:=D.kind;have hkk:a8 kk:=kd D hw i bg rfl;have l14:=D.bg.1;rw[zi]at l14;have lza:za.length≤400:=(wo za (.head _)).len;have ln:(toString n:Str).length≤400:=(wo _ (.tail _ (.head _))).len;have lc:(cW cs).length≤100:=(xP D hw i bg).2;have lk:=bK hkk
 have lR:(cW cs).length+((cW cs).length+1) * (";":Str).length≤16777216:=by
  have e:(";":Str).length=1:=∅
  rw[e];omega
 obtain⟨w1,hw1⟩:∃h,ws[0]?=some h:={_,qm ()};have hW1:=hw w1 (qx hw1);have lw1:=bK hW1;have lt:∀{z:Str},z.length≤50->z.length≤50:=id
 have hb:∀{x y:Str} {a b:Nat},x.length≤a->y.length≤b->a+b≤990->x.length+y.length≤sizeLine:=λh1 h2 h3=>qj (aC ())
 have hs:∀{n:Nat},n≤60->n≤sizeLine:=λh=>qj (aC ())
 refine{Y,_,32,Y,Y,tx0.len,λg H1 g1 s1 f=>?_};rw[sp]at f;refine{_,Y,g,_,Y,au.of f,λq2 H2 g2 s2 e2=>?_};rw[show(5:Int)=((5:Nat):Int) from rfl,ik (by simp)]at e2;refine{q2,_,Y,au.of e2,Y,_,_,Y,_,_,Y,_,_,Y,_,_,Y,_,_,Y,Y,?_};refine{λσ H'=>∃R,σ=[some (.str (Txt.join " " (w0 za n cs b (kk::d)))),some (.ref p),some (.int c),some (.ref g),some (.str za),some (.str (toString n)),some (.str (cW cs)),some (.str (cz b)),some (.str kk),some (.ref R),none]/\ag H H'/\H' g=some (.lst ((w0 za n cs b (kk::d)).map V.str))/\H' R=some (.lst (d.map V.str)),?_,?_}
 ·refine{_,Y,g,_,Y,au.of (s2 _ _ f),λR H3 g3 s3 m=>?_}
  rw[show(5:Int)=((5:Nat):Int) from rfl,eK]at m;exact{R,Y,s1.trans (s2.trans s3),s3 _ _ (s2 _ _ f),m}
 clear e2 s2 s1 f;rintro σ H3 ⟨R,rfl,o,f,m⟩;refine{λσ H'=>yF ws za n cs b kk d p g R c H 4 σ H',?_,?_}
 ·refine{_,Y,g,_,Y,au.of f,λq11 H11 g11 B e11=>?_}
  rw[show(1:Int)=((1:Nat):Int) from rfl,eK]at e11;refine{_,Y,g,_,Y,au.of (B _ _ f),λq12 H12 g12 N e12=>?_};rw[show(1:Int)=((1:Nat):Int) from rfl,ik (by simp)]at e12;refine{_,Y,g,_,Y,au.of (N _ _ (B _ _ f)),λq13 H13 g13 O e13=>?_};rw[show(2:Int)=((2:Nat):Int) from rfl,eK]at e13;refine{q12,q13,_,_,Y,Y,(O _ _ e12),e13,hs (by simp <;> omega),λq14 H14 g14 s14 e14=>?_};refine{_,Y,g,_,Y,au.of (s14 _ _ (O _ _ (N _ _ (B _ _ f)))),λq15 H15 g15 X e15=>?_};rw[show(2:Int)=((2:Nat):Int) from rfl,ik (by simp)]at e15;refine{_,Y,g,_,Y,au.of (X _ _ (s14 _ _ (O _ _ (N _ _ (B _ _ f))))),λq16 H16 g16 s16 e16=>?_};rw[show(3:Int)=((3:Nat):Int) from rfl,eK]at e16;refine{q15,q16,_,_,Y,Y,(s16 _ _ e15),e16,hs (by simp <;> omega),λq17 H17 g17 s17 e17=>?_};refine{_,Y,g,_,Y,au.of (s17 _ _ (s16 _ _ (X _ _ (s14 _ _ (O _ _ (N _ _ (B _ _ f))))))),λq18 H18 g18 s18 e18=>?_};rw[show(3:Int)=((3:Nat):Int) from rfl,ik (by simp)]at e18;refine{_,Y,g,_,Y,au.of (s18 _ _ (s17 _ _ (s16 _ _ (X _ _ (s14 _ _ (O _ _ (N _ _ (B _ _ f)))))))),λq19 H19 g19 s19 e19=>?_};rw[show(4:Int)=((4:Nat):Int) from rfl,eK]at e19;refine{q18,q19,_,_,Y,Y,(s19 _ _ e18),e19,hs (by simp <;> omega),λq20 H20 g20 s20 e20=>?_};refine{ar rfl,λq21 H21 g21 s21 e21=>?_};have Z:=((((((((((B.trans N).trans O).trans s14).trans X).trans s16).trans s17).trans s18).trans s19).trans s20).trans s21);exact{_,_,Y,o.trans Z,Z _ _ f,Z _ _ m,e21,Y,(cA {q11,(toString n)::(cW cs)::(cz b)::(kk)::d,Y,(s21 _ _ (s20 _ _ (s19 _ _ (s18 _ _ (s17 _ _ (s16 _ _ (X _ _ (s14 _ _ (O _ _ (N _ _ e11)))))))))),RO D hw i bg} (cA {q14,(za)::(cW cs)::(cz b)::(kk)::d,Y,(s21 _ _ (s20 _ _ (s19 _ _ (s18 _ _ (s17 _ _ (s16 _ _ (X _ _ e14))))))),PZ D hw i bg} (cA {q17,(za)::(toString n)::(cz b)::(kk)::d,Y,(s21 _ _ (s20 _ _ (s19 _ _ (s18 _ _ e17)))),QS D hw i bg} (cA {q20,(za)::(toString n)::(cW cs)::(kk)::d,Y,(s21 _ _ e20),Qs D hw i bg} iC))))}
 rintro σ H3 ⟨L,J,rfl,o,f,m,I,j,C⟩;refine{λσ H'=>yF ws za n cs b kk d p g R c H 7 σ H',?_,?_}
 ·refine{Y,_,Y,Y,(),ar rfl,λq22 H22 g22 s22 e22=>?_}
  refine{_,Y,g,_,Y,au.of (s22 _ _ f),λq23 H23 g23 s23 e23=>?_};rw[show(1:Int)=((1:Nat):Int) from rfl,eK]at e23;refine{q22,q23,_,_,Y,Y,(s23 _ _ e22),e23,hs (by simp <;> omega),λq24 H24 g24 s24 e24=>?_};refine{_,_,Y,Y,hb lza (lt ∅) ⋯,ar rfl,λq25 H25 g25 s25 e25=>?_};refine{_,Y,g,_,Y,au.of (s25 _ _ (s24 _ _ (s23 _ _ (s22 _ _ f)))),λq26 H26 g26 s26 e26=>?_};rw[show(1:Int)=((1:Nat):Int) from rfl,eK]at e26;refine{q25,q26,_,_,Y,Y,(s26 _ _ e25),e26,hs (by simp <;> omega),λq27 H27 g27 s27 e27=>?_};refine{_,_,Y,Y,hb (lt ∅) ln ⋯,ar rfl,λq28 H28 g28 s28 e28=>?_};refine{_,Y,g,_,Y,au.of (s28 _ _ (s27 _ _ (s26 _ _ (s25 _ _ (s24 _ _ (s23 _ _ (s22 _ _ f))))))),λq29 H29 g29 s29 e29=>?_};rw[show(2:Int)=((2:Nat):Int) from rfl,eK]at e29;refine{q28,q29,_,_,Y,Y,(s29 _ _ e28),e29,hs (by simp <;> omega),λq30 H30 g30 s30 e30=>?_};refine{ar rfl,λq31 H31 g31 s31 e31=>?_};refine{J,q31,_,_,Y,Y,(s31 _ _ (s30 _ _ (s29 _ _ (s28 _ _ (s27 _ _ (s26 _ _ (s25 _ _ (s24 _ _ (s23 _ _ (s22 _ _ I)))))))))),e31,hs (by simp[j]),λq32 H32 g32 s32 e32=>?_};have Z:=((((((((((s22.trans s23).trans s24).trans s25).trans s26).trans s27).trans s28).trans s29).trans s30).trans s31).trans s32);exact{_,_,Y,o.trans Z,Z _ _ f,Z _ _ m,e32,by rw[qu,j];rfl,nP C Z (cA {q24,(Txt.upper za)::(toString n)::(cW cs)::(cz b)::(kk)::d,Y,(s32 _ _ (s31 _ _ (s30 _ _ (s29 _ _ (s28 _ _ (s27 _ _ (s26 _ _ (s25 _ _ e24)))))))),Rl D hw i bg} (cA {q27,(za++"zzzzzzzz")::(toString n)::(cW cs)::(cz b)::(kk)::d,Y,(s32 _ _ (s31 _ _ (s30 _ _ (s29 _ _ (s28 _ _ e27))))),Pf D hw i bg} (cA {q30,(za)::("0"++toString n)::(cW cs)::(cz b)::(kk)::d,Y,(s32 _ _ (s31 _ _ e30)),OW D hw i bg} iC)))}
 rintro σ H3 ⟨L,J,rfl,o,f,m,I,j,C⟩;refine{λσ H'=>yF ws za n cs b kk d p g R c H 10 σ H',?_,?_}
 ·refine{_,_,Y,Y,hb (lt ∅) ln ⋯,ar rfl,λq33 H33 g33 s33 e33=>?_}
  refine{_,Y,g,_,Y,au.of (s33 _ _ f),λq34 H34 g34 s34 e34=>?_};rw[show(2:Int)=((2:Nat):Int) from rfl,eK]at e34;refine{q33,q34,_,_,Y,Y,(s34 _ _ e33),e34,hs (by simp <;> omega),λq35 H35 g35 s35 e35=>?_};refine{_,_,Y,Y,hb ln (lt ∅) ⋯,?_};refine{_,_,Y,Y,hb (by rw[bL];exact Nat.add_le_add ln (lt ∅)) ln ⋯,ar rfl,λq36 H36 g36 s36 e36=>?_};refine{_,Y,g,_,Y,au.of (s36 _ _ (s35 _ _ (s34 _ _ (s33 _ _ f)))),λq37 H37 g37 s37 e37=>?_};rw[show(2:Int)=((2:Nat):Int) from rfl,eK]at e37;refine{q36,q37,_,_,Y,Y,(s37 _ _ e36),e37,hs (by simp <;> omega),λq38 H38 g38 s38 e38=>?_};refine{ar rfl,λq39 H39 g39 s39 e39=>?_};refine{_,Y,g,_,Y,au.of (s39 _ _ (s38 _ _ (s37 _ _ (s36 _ _ (s35 _ _ (s34 _ _ (s33 _ _ f))))))),λq40 H40 g40 s40 e40=>?_};rw[show(2:Int)=((2:Nat):Int) from rfl,eK]at e40;refine{q39,q40,_,_,Y,Y,(s40 _ _ e39),e40,hs (by simp <;> omega),λq41 H41 g41 s41 e41=>?_};refine{ar rfl,λq42 H42 g42 s42 e42=>?_};refine{J,q42,_,_,Y,Y,(s42 _ _ (s41 _ _ (s40 _ _ (s39 _ _ (s38 _ _ (s37 _ _ (s36 _ _ (s35 _ _ (s34 _ _ (s33 _ _ I)))))))))),e42,hs (by simp[j]),λq43 H43 g43 s43 e43=>?_};have Z:=((((((((((s33.trans s34).trans s35).trans s36).trans s37).trans s38).trans s39).trans s40).trans s41).trans s42).trans s43);exact{_,_,Y,o.trans Z,Z _ _ f,Z _ _ m,e43,by rw[qu,j];rfl,nP C Z (cA {q35,(za)::("+"++toString n)::(cW cs)::(cz b)::(kk)::d,Y,(s43 _ _ (s42 _ _ (s41 _ _ (s40 _ _ (s39 _ _ (s38 _ _ (s37 _ _ (s36 _ _ e35)))))))),RB D hw i bg} (cA {q38,(za)::((toString n++",")++toString n)::(cW cs)::(cz b)::(kk)::d,Y,(s43 _ _ (s42 _ _ (s41 _ _ (s40 _ _ (s39 _ _ e38))))),OX D hw i bg} (cA {q41,(za)::("0")::(cW cs)::(cz b)::(kk)::d,Y,(s43 _ _ (s42 _ _ e41)),OH D hw i bg} iC)))}
 rintro σ H3 ⟨L,J,rfl,o,f,m,I,j,C⟩;refine{λσ H'=>yF ws za n cs b kk d p g R c H 12 σ H',?_,?_}
 ·refine{_,Y,g,_,Y,au.of f,λq44 H44 g44 s44 e44=>?_}
  rw[show(2:Int)=((2:Nat):Int) from rfl,ik (by simp)]at e44;refine{_,_,Y,Y,hb lc (lt ∅) ⋯,ar rfl,λq45 H45 g45 s45 e45=>?_};refine{q44,q45,_,_,Y,Y,(s45 _ _ e44),e45,hs (by simp <;> omega),λq46 H46 g46 s46 e46=>?_};refine{_,Y,g,_,Y,au.of (s46 _ _ (s45 _ _ (s44 _ _ f))),λq47 H47 g47 s47 e47=>?_};rw[show(3:Int)=((3:Nat):Int) from rfl,eK]at e47;refine{q46,q47,_,_,Y,Y,(s47 _ _ e46),e47,hs (by simp <;> omega),λq48 H48 g48 s48 e48=>?_};refine{_,Y,g,_,Y,au.of (s48 _ _ (s47 _ _ (s46 _ _ (s45 _ _ (s44 _ _ f))))),λq49 H49 g49 s49 e49=>?_};rw[show(2:Int)=((2:Nat):Int) from rfl,ik (by simp)]at e49;refine{_,_,Y,Y,hb (lt ∅) lc ⋯,ar rfl,λq50 H50 g50 s50 e50=>?_};refine{q49,q50,_,_,Y,Y,(s50 _ _ e49),e50,hs (by simp <;> omega),λq51 H51 g51 s51 e51=>?_};refine{_,Y,g,_,Y,au.of (s51 _ _ (s50 _ _ (s49 _ _ (s48 _ _ (s47 _ _ (s46 _ _ (s45 _ _ (s44 _ _ f)))))))),λq52 H52 g52 s52 e52=>?_};rw[show(3:Int)=((3:Nat):Int) from rfl,eK]at e52;refine{q51,q52,_,_,Y,Y,(s52 _ _ e51),e52,hs (by simp <;> omega),λq53 H53 g53 s53 e53=>?_};refine{ar rfl,λq54 H54 g54 s54 e54=>?_};refine{J,q54,_,_,Y,Y,(s54 _ _ (s53 _ _ (s52 _ _ (s51 _ _ (s50 _ _ (s49 _ _ (s48 _ _ (s47 _ _ (s46 _ _ (s45 _ _ (s44 _ _ I))))))))))),e54,hs (by simp[j]),λq55 H55 g55 s55 e55=>?_};have Z:=(((((((((((s44.trans s45).trans s46).trans s47).trans s48).trans s49).trans s50).trans s51).trans s52).trans s53).trans s54).trans s55);exact{_,_,Y,o.trans Z,Z _ _ f,Z _ _ m,e55,by rw[qu,j];rfl,nP C Z (cA {q48,(za)::(toString n)::(cW cs++",0")::(cz b)::(kk)::d,Y,(s55 _ _ (s54 _ _ (s53 _ _ (s52 _ _ (s51 _ _ (s50 _ _ (s49 _ _ e48))))))),Jd D hw i bg} (cA {q53,(za)::(toString n)::("0"++cW cs)::(cz b)::(kk)::d,Y,(s55 _ _ (s54 _ _ e53)),Mb D hw i bg} iC))}
 rintro σ H3 ⟨L,J,rfl,o,f,m,I,j,C⟩;refine{λσ H'=>yF ws za n cs b kk d p g R c H 14 σ H',?_,?_}
 ·refine{_,Y,g,_,Y,au.of f,λq56 H56 g56 s56 e56=>?_}
  rw[show(2:Int)=((2:Nat):Int) from rfl,ik (by simp)]at e56;refine{_,_,Y,Y,hb lc (lt ∅) ⋯,ar rfl,λq57 H57 g57 s57 e57=>?_};refine{q56,q57,_,_,Y,Y,(s57 _ _ e56),e57,hs (by simp <;> omega),λq58 H58 g58 s58 e58=>?_};refine{_,Y,g,_,Y,au.of (s58 _ _ (s57 _ _ (s56 _ _ f))),λq59 H59 g59 s59 e59=>?_};rw[show(3:Int)=((3:Nat):Int) from rfl,eK]at e59;refine{q58,q59,_,_,Y,Y,(s59 _ _ e58),e59,hs (by simp <;> omega),λq60 H60 g60 s60 e60=>?_};refine{_,Y,g,_,Y,au.of (s60 _ _ (s59 _ _ (s58 _ _ (s57 _ _ (s56 _ _ f))))),λq61 H61 g61 s61 e61=>?_};rw[show(2:Int)=((2:Nat):Int) from rfl,ik (by simp)]at e61;refine{Y,_,",",";",Y,Y,∅,lR,ar rfl,λq62 H62 g62 s62 e62=>?_};refine{q61,q62,_,_,Y,Y,(s62 _ _ e61),e62,hs (by simp <;> omega),λq63 H63 g63 s63 e63=>?_};refine{_,Y,g,_,Y,au.of (s63 _ _ (s62 _ _ (s61 _ _ (s60 _ _ (s59 _ _ (s58 _ _ (s57 _ _ (s56 _ _ f)))))))),λq64 H64 g64 s64 e64=>?_};rw[show(3:Int)=((3:Nat):Int) from rfl,eK]at e64;refine{q63,q64,_,_,Y,Y,(s64 _ _ e63),e64,hs (by simp <;> omega),λq65 H65 g65 s65 e65=>?_};refine{ar rfl,λq66 H66 g66 s66 e66=>?_};refine{J,q66,_,_,Y,Y,(s66 _ _ (s65 _ _ (s64 _ _ (s63 _ _ (s62 _ _ (s61 _ _ (s60 _ _ (s59 _ _ (s58 _ _ (s57 _ _ (s56 _ _ I))))))))))),e66,hs (by simp[j]),λq67 H67 g67 s67 e67=>?_};have Z:=(((((((((((s56.trans s57).trans s58).trans s59).trans s60).trans s61).trans s62).trans s63).trans s64).trans s65).trans s66).trans s67);exact{_,_,Y,o.trans Z,Z _ _ f,Z _ _ m,e67,by rw[qu,j];rfl,nP C Z (cA {q60,(za)::(toString n)::(cW cs++",")::(cz b)::(kk)::d,Y,(s67 _ _ (s66 _ _ (s65 _ _ (s64 _ _ (s63 _ _ (s62 _ _ (s61 _ _ e60))))))),LZ D hw i bg} (cA {q65,(za)::(toString n)::(Txt.replace (cW cs) "," ";")::(cz b)::(kk)::d,Y,(s67 _ _ (s66 _ _ e65)),Hr D hw i bg} iC))}
 rintro σ H3 ⟨L,J,rfl,o,f,m,I,j,C⟩;refine{λσ H'=>yF ws za n cs b kk d p g R c H 16 σ H',?_,?_}
 ·refine{_,Y,g,_,Y,au.of f,λq68 H68 g68 U e68=>?_}
  rw[show(3:Int)=((3:Nat):Int) from rfl,ik (by simp)]at e68;refine{ar rfl,λq69 H69 g69 M e69=>?_};refine{q68,q69,_,_,Y,Y,(M _ _ e68),e69,hs (by simp <;> omega),λq70 H70 g70 s70 e70=>?_};refine{_,Y,g,_,Y,au.of (s70 _ _ (M _ _ (U _ _ f))),λq71 H71 g71 s71 e71=>?_};rw[show(4:Int)=((4:Nat):Int) from rfl,eK]at e71;refine{q70,q71,_,_,Y,Y,(s71 _ _ e70),e71,hs (by simp <;> omega),λq72 H72 g72 s72 e72=>?_};refine{_,Y,g,_,Y,au.of (s72 _ _ (s71 _ _ (s70 _ _ (M _ _ (U _ _ f))))),λq73 H73 g73 s73 e73=>?_};rw[show(3:Int)=((3:Nat):Int) from rfl,ik (by simp)]at e73;refine{_,_,_,.str w1,Y,Y,au.of ((ag.trans o (((((U.trans M).trans s70).trans s71).trans s72).trans s73)) _ _ rl.at'),AS hw1,?_};refine{_,_,Y,Y,hb lw1 (lt ∅) ⋯,ar rfl,λq74 H74 g74 s74 e74=>?_};refine{q73,q74,_,_,Y,Y,(s74 _ _ e73),e74,hs (by simp <;> omega),λq75 H75 g75 s75 e75=>?_};refine{_,Y,g,_,Y,au.of (s75 _ _ (s74 _ _ (s73 _ _ (s72 _ _ (s71 _ _ (s70 _ _ (M _ _ (U _ _ f)))))))),λq76 H76 g76 s76 e76=>?_};rw[show(4:Int)=((4:Nat):Int) from rfl,eK]at e76;refine{q75,q76,_,_,Y,Y,(s76 _ _ e75),e76,hs (by simp <;> omega),λq77 H77 g77 s77 e77=>?_};refine{ar rfl,λq78 H78 g78 s78 e78=>?_};refine{J,q78,_,_,Y,Y,(s78 _ _ (s77 _ _ (s76 _ _ (s75 _ _ (s74 _ _ (s73 _ _ (s72 _ _ (s71 _ _ (s70 _ _ (M _ _ (U _ _ I))))))))))),e78,hs (by simp[j]),λq79 H79 g79 s79 e79=>?_};have Z:=(((((((((((U.trans M).trans s70).trans s71).trans s72).trans s73).trans s74).trans s75).trans s76).trans s77).trans s78).trans s79);exact{_,_,Y,o.trans Z,Z _ _ f,Z _ _ m,e79,by rw[qu,j];rfl,nP C Z (cA {q72,(za)::(toString n)::(cW cs)::("a.b.c")::(kk)::d,Y,(s79 _ _ (s78 _ _ (s77 _ _ (s76 _ _ (s75 _ _ (s74 _ _ (s73 _ _ e72))))))),Ka D hw i bg} (cA {q77,(za)::(toString n)::(cW cs)::(w1++".")::(kk)::d,Y,(s79 _ _ (s78 _ _ e77)),Mv D hw i bg hW1} iC))}
 rintro σ H3 ⟨L,J,rfl,o,f,m,I,j,C⟩;refine{λσ H'=>yF ws za n cs b kk d p g R c H 20 σ H',?_,?_}
 ·refine{_,Y,g,_,Y,au.of f,λq80 H80 g80 v e80=>?_}
  rw[show(4:Int)=((4:Nat):Int) from rfl,ik (by simp)]at e80;refine{Y,_,Y,Y,(),ar rfl,λq81 H81 g81 r e81=>?_};refine{q80,q81,_,_,Y,Y,(r _ _ e80),e81,hs (by simp <;> omega),λq82 H82 g82 t e82=>?_};refine{q82,R,_,_,Y,Y,e82,(t _ _ (r _ _ (v _ _ m))),hs (by simp <;> omega),λq83 H83 g83 s83 e83=>?_};refine{_,Y,g,_,Y,au.of (s83 _ _ (t _ _ (r _ _ (v _ _ f)))),λq84 H84 g84 s84 e84=>?_};rw[show(4:Int)=((4:Nat):Int) from rfl,ik (by simp)]at e84;refine{_,_,Y,Y,hb lk (lt ∅) ⋯,ar rfl,λq85 H85 g85 G e85=>?_};refine{q84,q85,_,_,Y,Y,(G _ _ e84),e85,hs (by simp <;> omega),λq86 H86 g86 s86 e86=>?_};refine{q86,R,_,_,Y,Y,e86,(s86 _ _ (G _ _ (s84 _ _ (s83 _ _ (t _ _ (r _ _ (v _ _ m))))))),hs (by simp <;> omega),λq87 H87 g87 s87 e87=>?_};refine{ar rfl,λq88 H88 g88 W e88=>?_};refine{g,q88,_,_,Y,Y,(W _ _ (s87 _ _ (s86 _ _ (G _ _ (s84 _ _ (s83 _ _ (t _ _ (r _ _ (v _ _ f))))))))),e88,hs (by simp <;> omega),λq89 H89 g89 s89 e89=>?_}
  have e89:H89 q89=some (.lst ((w0 za n cs b (kk::d)++[("??":Str)]).map V.str)):=by rw[e89,zm];rfl
  refine{ar rfl,λq90 H90 g90 s90 e90=>?_};refine{g,q90,_,_,Y,Y,(s90 _ _ (s89 _ _ (W _ _ (s87 _ _ (s86 _ _ (G _ _ (s84 _ _ (s83 _ _ (t _ _ (r _ _ (v _ _ f))))))))))),e90,hs (by simp <;> omega),λq91 H91 g91 s91 e91=>?_}
  have e91:H91 q91=some (.lst ((w0 za n cs b (kk::d)++[("":Str)]).map V.str)):=by rw[e91,zm];rfl
  refine{ar rfl,λq92 H92 g92 s92 e92=>?_};refine{J,q92,_,_,Y,Y,(s92 _ _ (s91 _ _ (s90 _ _ (s89 _ _ (W _ _ (s87 _ _ (s86 _ _ (G _ _ (s84 _ _ (s83 _ _ (t _ _ (r _ _ (v _ _ I))))))))))))),e92,hs (by simp[j]),λq93 H93 g93 s93 e93=>?_};have Z:=(((((((((((((v.trans r).trans t).trans s83).trans s84).trans G).trans s86).trans s87).trans W).trans s89).trans s90).trans s91).trans s92).trans s93);exact{_,_,Y,o.trans Z,Z _ _ f,Z _ _ m,e93,by rw[qu,j];rfl,nP C Z (cA {q83,(za)::(toString n)::(cW cs)::(cz b)::(Txt.upper kk)::d,Y,(s93 _ _ (s92 _ _ (s91 _ _ (s90 _ _ (s89 _ _ (W _ _ (s87 _ _ (s86 _ _ (G _ _ (s84 _ _ e83)))))))))),ML D hw i bg rfl} (cA {q87,(za)::(toString n)::(cW cs)::(cz b)::(kk++"s")::d,Y,(s93 _ _ (s92 _ _ (s91 _ _ (s90 _ _ (s89 _ _ (W _ _ e87)))))),L9 D hw i bg rfl} (cA {q89,w0 za n cs b (kk::d)++[("??":Str)],Y,(s93 _ _ (s92 _ _ (s91 _ _ (s90 _ _ e89)))),LN D hw i bg} (cA {q91,w0 za n cs b (kk::d)++[("":Str)],Y,(s93 _ _ (s92 _ _ e91)),Lq D hw i bg} iC))))}
 rintro σ H3 ⟨L,J,rfl,o,f,m,I,j,C⟩;refine{λσ H'=>yF ws za n cs b kk d p g R c H 22 σ H',?_,?_}
 ·refine{ar rfl,λq94 H94 g94 s94 e94=>?_}
  refine{q94,g,_,_,Y,Y,e94,(s94 _ _ f),hs (by simp <;> omega),λq95 H95 g95 s95 e95=>?_};refine{_,Y,g,_,Y,au.of (s95 _ _ (s94 _ _ f)),λq96 H96 g96 s96 e96=>?_};rw[show(1:Int)=((1:Nat):Int) from rfl,ik (by simp)]at e96;refine{ar rfl,λq97 H97 g97 s97 e97=>?_};refine{q96,q97,_,_,Y,Y,(s97 _ _ e96),e97,hs (by simp <;> omega),λq98 H98 g98 s98 e98=>?_};refine{_,Y,g,_,Y,au.of (s98 _ _ (s97 _ _ (s96 _ _ (s95 _ _ (s94 _ _ f))))),λq99 H99 g99 s99 e99=>?_};rw[show(1:Int)=((1:Nat):Int) from rfl,eK]at e99;refine{q98,q99,_,_,Y,Y,(s99 _ _ e98),e99,hs (by simp <;> omega),λq100 H100 g100 s100 e100=>?_};refine{ar rfl,λq101 H101 g101 S e101=>?_};refine{J,q101,_,_,Y,Y,(S _ _ (s100 _ _ (s99 _ _ (s98 _ _ (s97 _ _ (s96 _ _ (s95 _ _ (s94 _ _ I)))))))),e101,hs (by simp[j]),λq102 H102 g102 s102 e102=>?_};have Z:=((((((((s94.trans s95).trans s96).trans s97).trans s98).trans s99).trans s100).trans S).trans s102);exact{_,_,Y,o.trans Z,Z _ _ f,Z _ _ m,e102,by rw[qu,j];rfl,nP C Z (cA {q95,("")::(za)::(toString n)::(cW cs)::(cz b)::(kk)::d,Y,(s102 _ _ (S _ _ (s100 _ _ (s99 _ _ (s98 _ _ (s97 _ _ (s96 _ _ e95))))))),Kg D hw i bg} (cA {q100,(za)::("")::(toString n)::(cW cs)::(cz b)::(kk)::d,Y,(s102 _ _ (S _ _ e100)),L5 D hw i bg} iC))}
 rintro σ H3 ⟨L,J,rfl,o,f,m,I,j,C⟩;refine{Y,_,_,Y,Y,(by show(0:Int)<22;decide),J,_,_,Y,Y,au.of I,dE _ ⋯,(by rw[j];exact dQ _ ⋯),λu hu=>?_};obtain⟨q,wl,rfl,eq,sw⟩:=C u hu;refine{" ",q,wl,Y,Y,au.of eq,?_,k _ _ sw.tx sw.rf o};have c:=pw (c:=400) λx hx=>(sw.wo x hx).len;have f:(" ":Str).length=1:=rfl;have:=sw.bg;rw[f];omega
def Gm(T:Txt K mg tk)(F:FO K mg "_law_bad_things" oD):yI P w K mg base:=by
 refine aH F jD (G1 λ_ _ _=>rfl) {} λfa cdv A outer s H vs Q E hr h=>?_
 refine{_,(ak (sn jD.nd 3 (ae aL ah (ae Km ah (ae ny (na 2) ai))))
   (ak (sn jD.nd 4 (aA (ac (ae aL (ae aL ah (nc 0)) ah) (ac (ae aL (ae aL ah (nc 0)) ah) (ac ah (ac ah (a2 (ae aL (ae aL ah (na 1)) ah) (ae aL ah (na 3)))))))))
   (ak (sn jD.nd 4 (ae a9 (na 4) (aA (ac (ae aL (ae aL ah (nc 0)) ah) (ac (ae aL ah (bm PySem.F.plainAttrs_str PySem.F.slot_str_join PySem.F.type_str_join fJ ah (a1 (ae FR (aA (a1 (ae aL (nc 0) ah))) ai)))) (a2 ah ah))))))
   (ak (sn jD.nd 4 (ae a9 (na 4) (aA (ac (ae aL ah (bm PySem.F.plainAttrs_str PySem.F.slot_str_join PySem.F.type_str_join fJ ah (a1 (A0 (af oD) xo [("_law_hand",0)] (pF (by rfl) T.gA (a1 ai)) (λ_ _ _=>dn) (λ_ _ _=>(ae aL (ae aL (nc 1) ah) (cy pq T.eH boot_str (a1 (na 0))))))))) (a2 (ae aL ah (ae Km ah ai)) ah)))))
   (ak (sn jD.nd 4 (ae a9 (na 4) (aA (ac (ae aL (ae aL ah (na 1)) ah) (ac (ae aL (ae aL ah (na 1)) ah) (ac ah (a2 ah ah)))))))
   (ak (sn jD.nd 4 (ae a9 (na 4) (aA (ac (ae aL (ae aL ah (na 1)) ah) (a2 (ae aL (ae aL ah (nc 0)) ah) ah)))))
   (ak (sn jD.nd 5 (ae aL (nc 0) ah))
   (ak (sn jD.nd 4 (ae a9 (na 4) (aA (ac (ae aL ah (na 5)) (a2 (ae aL (ae aL (ae aL (ae aL ah (nc 0)) ah) (na 5)) ah) (ae aL (ae aL ah (nc 0)) ah))))))
   (ak (sn jD.nd 4 (ae a9 (na 4) (aA (ac (ae aL ah (aX jW (na 3) (aV ai) aZ)) (ac (ae aL (ae aL ah (nc 0)) ah) (a2 (ae aL (ae aL ah (nc 0)) ah) (ae aL (ae aL ah (na 5)) ah)))))))
   (ak (sn jD.nd 4 (ae a9 (na 4) (aA (ac ah (ac ah (ac ah (a2 ah (ae aL (ae aL ah (nc 0)) ah))))))))
   (ak (ap (na 4) (a1 (ae aL (ae aL (ae aL (ae aL ah (nc 0)) ah) (na 5)) ah)))
   (ao (av (ae a9 (na 4) (aA (a1 (ae aL (ae aL (ae aL (ae aL ah (nc 0)) ah) (nc 0)) ah))))))))))))))))),?_}
 obtain⟨h,o,m,rfl,d,lo,m2,m6,k⟩:=h;obtain⟨f1,f2,f3,f4,f5⟩:=zO m m2 m6;have lt:∀{z:Str},z.length≤50->z.length≤50:=id
 have e:∀{x y:Str} {a b:Nat},x.length≤a->y.length≤b->(x++y).length≤a+b:=λh1 h2=>by rw[bL];omega
 have c:∀{x y:Str} {a b:Nat},x.length≤a->y.length≤b->a+b≤900->x.length+y.length≤sizeLine:=λh1 h2 h3=>qj (aC ())
 have lF:=mJ f4;have zF:(iI m).length≤sizeLine:=qj (aC ())
 have l7:(aJ (iI m) (some 7) none).length≤400:=by rw[f2];have:=mJ f5;rw[bL]at this;omega
 have em:((m:Int) - 1).toNat=m - 1:=()
 have lr:(gL ",0" (m - 1)).length≤400:=by have:=lF;unfold iI at this;rw[bL]at this;omega
 have G:(h++".1.0").length≤8+50:=e d (lt ∅);refine{_,_,Y,Y,",0",(m:Int) - 1,Y,Y,(),(),∅,∅,?_};rw[em];refine{_,_,Y,Y,c (lt ∅) lr ⋯,?_};refine{_,_,Y,Y,c (lt ∅) d ⋯,_,_,Y,Y,c (e (lt ∅) d) (lt ∅) ⋯,_,_,Y,Y,c (lt ∅) d ⋯,_,_,Y,Y,c (e (lt ∅) d) (lt ∅) ⋯,_,_,Y,Y,c (lt ∅) lo ⋯,_,_,Y,Y,c (e (lt ∅) lo) (lt ∅) ⋯,_,_,Y,Y,c (lt ∅) lF ⋯,ar rfl,λq2 H2 g2 s2 e2=>?_};refine{_,_,Y,Y,c (lt ∅) d ⋯,_,_,Y,Y,c (e (lt ∅) d) (lt ∅) ⋯,?_};refine{Y,_,_,Y,Y,c d (lt ∅) ⋯,ar rfl,λqa Ha ga O ea=>?_};refine{qa,2,_,Y,Y,ea,⋯,⋯,qj (aC (ze rfl)),λqb Hb gb U X=>?_};have X:Hb qb=some (.lst (([h++".1.0",h++".1.0"]:List Str).map V.str)):=X;refine{" ",qb,[h++".1.0",h++".1.0"],Y,Y,au.of X,?_,?_}
 ·have v:(" ":Str).length=1:=rfl
  rw[v]
  simp only[List.map_cons,List.map_nil,List.sum_cons,List.sum_nil,List.length_cons,List.length_nil]
  omega
 have lj:(Txt.join " " [h++".1.0",h++".1.0"]).length≤200:=by
  have a:=my " " [h++".1.0",h++".1.0"];have v:(" ":Str).length=1:=rfl;rw[v]at a
  simp only[List.map_cons,List.map_nil,List.sum_cons,List.sum_nil,List.length_cons,List.length_nil]at a
  omega
 refine{_,_,Y,Y,c (lt ∅) lj ⋯,ar rfl,λq4 H4 g4 R e4=>?_};refine{q2,q4,_,_,Y,Y,R _ _ (U _ _ (O _ _ e2)),e4,ar rfl,λq5 H5 g5 s5 e5=>?_};refine{Y,_,Y,⋯,⋯,Jk (n:=13) (qj (aC ⋯)) (λa ys H'=>ag H5 H'/\ys=((List.range a).map λ(k:Nat)=>(h++".1.")++(toString (k:Int):Str)).map V.str) {ag.refl _,Y} (λa ys H' K1 K0 ha s' k1 k0=>?_) λH' I ys s' hy hq=>?_}
 ·obtain⟨s',rfl⟩:=s'
  refine aB (B:=K0 H') ?_;have ln:(toString ((a:Nat):Int):Str).length≤7:=n4 {(),()};refine{_,_,Y,Y,c d (lt ∅) ⋯,?_};refine{_,Y,.inr {_,Y,?_},?_}
  ·have h0:∀a<13,((0:Int)+((a:Nat):Int)).natAbs.log2<1920:=⋯
   exact h0 a ha
  have ez:FF (.int ((0:Int)+((a:Nat):Int)))=toString ((a:Nat):Int):=by rw[Int.zero_add];rfl
  rw[ez];refine{_,_,Y,Y,c (e d (lt ∅)) ln ⋯,k1 _ _ {s',?_}};rw[j9,zm,zm];rfl
 obtain⟨s',rfl⟩:=s';have i:(upd H' I (.lst ((fC h).map V.str))) I=some (.lst ((fC h).map V.str)):=aN;have f:ag H5 (upd H' I (.lst ((fC h).map V.str))):=s'.up hq
 have l13:((fC h).map (·.length)).sum≤70 * (fC h).length:=pw λz hz=>by
  obtain⟨a,ha,rfl⟩:=qk.mp hz;have ln:(toString ((a:Nat):Int):Str).length≤7:=n4 {(),by have:=w5.mp ha;omega};exact qg (e (e d (lt ∅)) ln) ⋯
 have n13:(fC h).length=13:=by unfold fC;rw[qf,yc]
 have J:(Txt.join " " (fC h)).length≤1000:=by
  have a:=my " " (fC h);have v:(" ":Str).length=1:=rfl;rw[v]at a;omega
 show rJoin _ _ (upd H' I (.lst ((fC h).map V.str))) _;generalize upd H' I (.lst ((fC h).map V.str))=Hc at i f;refine{" ",I,fC h,Y,Y,au.of i,?_,?_}
 ·have v:(" ":Str).length=1:=rfl
  rw[v];omega
 refine{_,_,Y,Y,qj (RX (a:=1000) (b:=50) J (lt ∅))," a",13,Y,Y,⋯,⋯,∅,∅,?_}
 have l12:(gL " a" (13:Int).toNat).length≤50:=∅
 refine{_,_,Y,Y,c (lt ∅) l12 ⋯,ar rfl,λq6 H6 g6 N e6=>?_};refine{q5,q6,_,_,Y,Y,N _ _ (f _ _ e5),e6,ar rfl,λq7 H7 g7 s7 e7=>?_};refine{_,_,Y,Y,c (lt ∅) lo ⋯,_,_,Y,Y,c (e (lt ∅) lo) (lt ∅) ⋯,_,_,Y,Y,c (lt ∅) lo ⋯,_,_,Y,Y,c (e (lt ∅) lo) (lt ∅) ⋯,ar rfl,λq8 H8 g8 S e8=>?_};refine{q7,q8,_,_,Y,Y,S _ _ e7,e8,ar rfl,λq9 H9 g9 s9 e9=>?_};refine{_,_,Y,Y,c (lt ∅) lo ⋯,_,_,Y,Y,c (e (lt ∅) lo) (lt ∅) ⋯,_,_,Y,Y,c (lt ∅) d ⋯,_,_,Y,Y,c (e (lt ∅) d) (lt ∅) ⋯,ar rfl,λq10 H10 g10 r e10=>?_};refine{q9,q10,_,_,Y,Y,r _ _ e9,e10,ar rfl,λq11 H11 g11 C e11=>?_};refine{_,_,Y,Y,c d (lt ∅) ⋯,?_};refine{_,_,Y,Y,c (lt ∅) G ⋯,_,_,Y,Y,c (lt ∅) d ⋯,_,_,Y,Y,c (e (lt ∅) d) (lt ∅) ⋯,_,_,Y,Y,c (e (e (lt ∅) d) (lt ∅)) G ⋯,_,_,Y,Y,c (e (e (e (lt ∅) d) (lt ∅)) G) (lt ∅) ⋯,_,_,Y,Y,c (lt ∅) d ⋯,_,_,Y,Y,c (e (lt ∅) d) (lt ∅) ⋯,ar rfl,λq12 H12 g12 j e12=>?_};refine{q11,q12,_,_,Y,Y,j _ _ e11,e12,ar rfl,λZ H13 g13 t i=>?_};refine{_,Y,_,Y,zF,_,_,Y,Y,c (lt ∅) l7 ⋯,_,_,Y,Y,c (lt ∅) d ⋯,_,_,Y,Y,c (e (lt ∅) d) (lt ∅) ⋯,_,_,Y,Y,c (lt ∅) d ⋯,_,_,Y,Y,c (e (lt ∅) d) (lt ∅) ⋯,_,_,Y,Y,c (lt ∅) G ⋯,_,_,Y,Y,c (e (lt ∅) G) (lt ∅) ⋯,ar rfl,λq14 H14 g14 q e14=>?_};refine{Z,q14,_,_,Y,Y,q _ _ i,e14,ar rfl,λq15 H15 g15 D e15=>?_};refine{_,_,Y,Y,c (lt ∅) d ⋯,_,_,Y,Y,c (e (lt ∅) d) (lt ∅) ⋯,ar rfl,λq16 H16 g16 p e16=>?_};refine{q15,q16,_,_,Y,Y,p _ _ e15,e16,ar rfl,λg H17 g17 M L=>?_};refine{.inl {Y,_,au.of L},_,_,Y,Y,c (lt ∅) d ⋯,_,_,Y,Y,c (e (lt ∅) d) (lt ∅) ⋯,_,_,Y,Y,c (e (e (lt ∅) d) (lt ∅)) G ⋯,_,_,Y,Y,c (e (e (e (lt ∅) d) (lt ∅)) G) (lt ∅) ⋯,?_};refine{g,_,_,Y,Y,L,aC (ze rfl),?_};have eA:∀(H:Hp) (xs:List V),upd H g (.lst xs) g=some (.lst xs):=λ_ _=>aN;refine{_,_,Y,Y,c (lt ∅) d ⋯,_,_,Y,Y,c (e (lt ∅) d) (lt ∅) ⋯,_,_,Y,Y,c (e (e (lt ∅) d) (lt ∅)) d ⋯,_,_,Y,Y,c (e (e (e (lt ∅) d) (lt ∅)) d) (lt ∅) ⋯,ar rfl,λqy Hy gy W ey=>?_};refine{g,qy,_,_,Y,Y,W _ _ aN,ey,ar rfl,λqz Hz gz sz ez=>?_};have gp:H g=none:=ag.free ((((((((((((((((s2.trans O).trans U).trans R).trans s5).trans f).trans N).trans s7).trans S).trans s9).trans r).trans C).trans j).trans t).trans q).trans D).trans p) g17;refine k qz Hz (ag.free (ag.trans (ag.wr (((((((((((((((((s2.trans O).trans U).trans R).trans s5).trans f).trans N).trans s7).trans S).trans s9).trans r).trans C).trans j).trans t).trans q).trans D).trans p).trans M) gp) W) gz) (ag.trans (ag.wr (((((((((((((((((s2.trans O).trans U).trans R).trans s5).trans f).trans N).trans s7).trans S).trans s9).trans r).trans C).trans j).trans t).trans q).trans D).trans p).trans M) gp) (W.trans sz)) ?_;rw[ez];rfl
def Dg(T:Txt K mg tk)(F:FO K mg "is_main" sf)(g:kZ P w K mg base)(f:i' P w K mg base)(j:hZ P w K mg base):sS P w K mg base:=by
 refine aH F Fi (hJ λ_=>rfl) (λ_ _ _ _ h=>vr h) λC r A outer s H vs Q E m h=>?_;refine{_,(ao (av (eO (cl j m (a2 (na 0) ai)) (eO (cl f m (a2 (xt (na 0)) (bF (a1 ah)))) (eO (cl g m (a2 (xt (na 0)) ai)) (dS (ce aR (xt (na 0)) ai))))))),?_};obtain⟨v,d,rfl,n,k⟩:=h;refine{_,d,_,Y,n,_,Y,?_};have k0:=k H (ag.refl H)
 cases n with
 |tup h t =>
  refine aG (λh1=>?_) λh1=>?_
  ·have h1:=qB h1
   obtain⟨x,y,a,b,rfl,rfl,ta,tb⟩:=t.two ();refine{_,_,_,x,Y,Y,aI.of h,Y,?_};refine{⋯,λq H1 D c B=>?_};refine{_,a,q,[""],Y,ta.same c,B,_,Y,?_};refine aG (λh2=>?_) λh2=>?_
   ·refine{_,_,_,y,Y,Y,aI.of (c _ _ h),Y,?_}
    refine{_,b,_,Y,tb.same c,_,Y,?_}
    cases tb with
    |int i =>
     have e:eZ (.tup [a,.int i])=decide (i=0):=by show(cH [""] a&&decide (i=0))=_;rw[h2];rfl
     refine aG (λo=>?_) λo=>?_
     ·refine{_,_,_,_,Y,Y,aI.of (c _ _ h),Y,?_}
      refine{Y,?_};rw[uP,mf,←e];exact k H1 c
     ·have p:decide (i=0)=false:=decide_eq_false λz=>o (qs ())
      rw[←p,←e];exact k H1 c
    |_=>exact aD (k H1 c)
   ·have e:eZ (.tup [a,b])=false:=by
     unfold eZ;split
     ·rename_i e;cases e;rw[zw.mpr h2];rfl
     ·rfl
    rw[←e];exact k H1 c
  ·rw[←N9 (so h1)];exact k0
 |_=>exact aD k0
def DK(T:Txt K mg tk)(F:FO K mg "is_any_name" sT)(c:kZ P w K mg base)(f:hZ P w K mg base)(g:g_ P w K mg base):tY P w K mg base:=by
 refine aH F C2 (hJ λ_=>rfl) (λ_ _ _ _ h=>vr h) λo n A outer s H vs Q E j h=>?_;refine{_,(ao (av (eO (cl f j (a2 (na 0) ai)) (eO (cl g j (a1 (xt (na 0)))) (dS (cl c j (a2 (xt (na 0)) ai))))))),?_};obtain⟨v,d,rfl,m,k⟩:=h;refine{_,d,_,Y,m,_,Y,?_};have k0:=k H (ag.refl H)
 cases m with
 |tup h t =>
  refine aG (λh1=>?_) λh1=>?_
  ·have h1:=qB h1
   obtain⟨x,y,a,b,rfl,rfl,ta,tb⟩:=t.two ();refine{_,_,_,x,Y,Y,aI.of h,Y,?_};refine{_,a,Y,ta,λH1 i=>{_,Y,?_}};refine aG (λh2=>?_) λh2=>?_
   ·refine{_,_,_,y,Y,Y,aI.of (i _ _ h),Y,?_}
    refine{_,b,_,Y,tb.same i,?_}
    have e:iv (.tup [a,b])=dA 1 b:=by show(cO a&&dA 1 b)=_;rw[h2];rfl
    rw[←e];exact k H1 i
   ·have e:iv (.tup [a,b])=false:=by show(cO a&&dA 1 b)=_;rw[zw.mpr h2];rfl
    rw[←e];exact k H1 i
  ·rw[←Mc (so h1)];exact k0
 |_=>exact aD k0
def BR(T:Txt K mg tk)(F:FO K mg "is_hand" rP)(a:g_ P w K mg base):sy P w K mg base:=by
 refine aH F F0 (fF λ_ _=>rfl) (λ_ _ _ _ h=>eX h) λj g A outer s H vs Q E f h=>?_;refine{_,(ao (av (eO (cl a f (a1 (na 1))) (dS (ce Nd (na 1) (na 0)))))),?_};obtain⟨p,ws,v,d,rfl,i,hw,c,k⟩:=h;refine{_,d,Y,c,λH1 b=>{_,Y,?_}}
 cases c with
 |@str z ty =>
  refine aG (λh1=>?_) λh1=>?_
  ·refine{p,_,Y,.inl (au.of (b _ _ hw.at')),Y,(by rw[wy];exact zk.mpr λ_ _=>rfl),?_}
   show Q (.bl (pY _ _)) H1;rw[o9]
   have e:fP ws (.str z)=decide (z∈ws):=by show(bp z&&_)=_;rw[show bp z=true from h1];rfl
   rw[←e];exact k H1 b
  ·have e:fP ws (.str z)=false:=by show(bp z&&_)=_;rw[show bp z=false from zw.mpr h1];rfl
   rw[←e];exact k H1 b
 |_=>exact aD (k H1 b)
def Bp(T:Txt K mg tk)(F:FO K mg "is_plain_word" t_)(a:g_ P w K mg base):xF P w K mg base:=by
 refine aH F DP (fF λ_ _=>rfl) (λ_ _ _ _ h=>eX h) λg e A outer s H vs Q E c h=>?_;refine{_,(ao (av (cl a c (a1 (na 1))))),?_};obtain⟨p,ws,v,d,rfl,f,hw,b,k⟩:=h;exact{_,d,Y,b,k}
def Aq(T:Txt K mg tk)(F:FO K mg "is_word_or_none" sV)(a:g_ P w K mg base):xg P w K mg base:=by
 refine aH F BJ (fF λ_ _=>rfl) (λ_ _ _ _ h=>eX h) λj f A outer s H vs Q E c h=>?_;refine{_,(ao (av (fO (ce pK (na 1) gK) (dS (cl a c (a1 (na 1))))))),?_};obtain⟨p,ws,v,d,rfl,g,hw,b,k⟩:=h;refine{Y,_,Y,?_}
 cases b with
 |a'=>exact aB (k H (ag.refl H))
 |str e=>exact aD {_,_,Y,.str e,k}
 |tup h t=>exact aD {_,_,Y,.tup h t,k}
 |lst h=>exact aD {_,_,Y,.lst h,k}
 |mx h=>exact aD {_,_,Y,.mx h,k}
 |int i=>exact aD {_,_,Y,.int i,k}
 |bl i=>exact aD {_,_,Y,.bl i,k}
def Bl(T:Txt K mg tk)(F:FO K mg "is_word_or_empty" rr)(a:i' P w K mg base)(b:g_ P w K mg base):yX P w K mg base:=by
 refine aH F CL (fF λ_ _=>rfl) (λ_ _ _ _ h=>eX h) λo j A outer s H vs Q E f h=>?_;refine{_,(ao (av (fO (cl b f (a1 (na 1))) (dS (cl a f (a2 (na 1) (bF (a1 ah)))))))),?_};obtain⟨p,ws,v,d,rfl,n,hw,e,k⟩:=h;refine{_,d,Y,e,λH1 c=>{_,Y,?_}};refine aG (λh1=>?_) λh1=>?_
 ·have:nG d=true:=by unfold nG;rw[h1];rfl
  rw[←this];exact k H1 c
 ·refine{⋯,λq H2 m g i=>?_}
  refine{_,d,q,[""],Y,(e.same c).same g,i,?_}
  have:nG d=cH [""] d:=by unfold nG;rw[zw.mpr h1];rfl
  rw[←this];exact k H2 (c.trans g)
def Aw(T:Txt K mg tk)(F:FO K mg "is_way" sQ)(a:i' P w K mg base):zL P w K mg base:=by
 refine aH F AV (fF λ_ _=>rfl) (λ_ _ _ _ h=>eX h) λg f A outer s H vs Q E c h=>?_;refine{_,(ao (av (cl a c (a2 (na 1) (fi (v:=.ref fR) rfl T.fR rfl))))),?_};obtain⟨p,ws,v,d,rfl,e,hw,b,k⟩:=h;exact{_,d,_,["row","column"],Y,b,e.way,k H (ag.refl H)}
def BN(T:Txt K mg tk)(F:FO K mg "is_leave" ud)(a:i' P w K mg base):yQ P w K mg base:=by
 refine aH F A2 (fF λ_ _=>rfl) (λ_ _ _ _ h=>eX h) λg f A outer s H vs Q E c h=>?_;refine{_,(ao (av (cl a c (a2 (na 1) (fi (v:=.ref dm) rfl T.dm rfl))))),?_};obtain⟨p,ws,v,d,rfl,e,hw,b,k⟩:=h;exact{_,d,_,["read","note","write","give"],Y,b,e.Sz,k H (ag.refl H)}
def EE(T:Txt K mg tk)(F:FO K mg "is_deed_number" tT)(a:kZ P w K mg base):yW P w K mg base:=by
 refine aH F FN (fF λ_ _=>rfl) (λ_ _ _ _ h=>eX h) λg e A outer s H vs Q E c h=>?_;refine{_,(ao (av (cl a c (a2 (na 1) ai)))),?_};obtain⟨p,ws,v,d,rfl,f,hw,b,k⟩:=h;exact{_,d,_,Y,b,k H (ag.refl H)}
def F4(T:Txt K mg tk)(F:FO K mg "is_counts" tM)(b:kZ P w K mg base)(c:hZ P w K mg base):sU P w K mg base:=by
 refine aH F AY (fF λ_ _=>rfl) (λ_ _ _ _ h=>eX h) λI C A outer s H vs Q E n h=>?_;refine{_,(ao (av (eO (cl c n (a2 (na 1) (cb eu T.bT boot_len (a1 (na 0))))) (dS (cb (pU rfl) T.kX boot_all (a1 (rm (iu (na 1)) (λ_ _ _=>dn) (λ_ _ _=>(cl b n (a2 (na 0) ai)))))))))),?_};obtain⟨p,ws,v,d,rfl,G,hw,m,k⟩:=h;refine{_,_,Y,.inl (au.of hw.at'),?_};refine{_,d,_,Y,m,_,Y,?_};have k0:=k H (ag.refl H);have r:=hw.bg;rw[qf]
 cases m with
 |@tup a xs ds h t =>
  refine aG (λh1=>?_) λh1=>?_
  ·have h1:(ds.length:Int)=(ws.length:Int):=qB h1
   have j:xs.length≤sizeLine:=qj (aC (by rw[t.len];omega));refine{a,Y,{_,aI.of h},tK j (λi ys H'=>ag H H'/\ys=(ds.take i).map λd=>V.bl (dA 0 d)) {ag.refl H,Y} (λi ys H' q=>aI.of (q.1 _ _ h)) (λi x ys H' D z j ⟨f,g⟩ k1 k2=>?_) λH' q ys ⟨f,g⟩ _ o=>?_}
   ·obtain⟨d,y,td⟩:=t.at j
    refine aB (B:=z H') ?_;exact{_,d,_,Y,td.same f,k1 _ _ {f,by rw[Bz y,g]}}
   ·refine{q,ds.map (dA 0),Y,au.of (by rw[aN,g,t.len,va,zq];rfl),?_}
    have e:bu ws (.tup ds)=(ds.map (dA 0)).all id:=by
     show(decide (ds.length=ws.length)&&_)=_;rw[qs (),wy];rfl
    rw[←e];exact k _ (f.up o)
  ·have e:bu ws (.tup ds)=false:=by
    show(decide (ds.length=ws.length)&&_)=_;rw[decide_eq_false λe=>h1 (qs ())];rfl
   rw[←e];exact k0
 |_=>exact aD k0
def Ao(T:Txt K mg tk)(F:FO K mg "read_plain" tS)(a:g_ P w K mg base):iA P w K mg base:=by
 refine fI F Gu (hJ λ_=>rfl) (λ_ _ _ _ h=>gU h) λm i A outer s H vs Q E f h=>?_
 refine{_,(ak (ax (cY (cI (cl a f (a1 (na 0))))) (ao (j' T.bZ T.b0 (a1 (nX (na 0))))) aO)
   (ao (av (na 0)))),?_}
 obtain⟨z,rfl,j,c,hl,k,g⟩:=h;refine{_,.str z,Y,.str (by exact qg hl ⋯),λH1 b=>?_}
 cases e:cO (.str z) with
 |true=>exact{_,Y,aD (k _ _ _ {Y,FW e} b (.str z))}
 |false =>
  refine{_,Y,aB ?_};exact{z,Y,c,λv=>{qj (aC (ze rfl)),g (λd h=>by have e:bp z=false:=e;rw[h_ h.2]at e;exact nomatch e) _ b}}
def EC(T:Txt K mg tk)(F:FO K mg "read_counts" r1)(g:lG P w K mg base):rB P w K mg base:=by
 refine fI F Fo (hJ λ_=>rfl) (λ_ _ _ _ h=>gU h) λZ R A outer s H vs Q E C h=>?_;refine{_,(ao (av (cy lX T.cx boot_tuple (a1 (vE (il (bm PySem.F.plainAttrs_str PySem.F.slot_str_split PySem.F.type_str_split pH (na 0) (a1 ah))) (λ_ _ _ _=>dn) (λ_ _ _ _ b=>(iW g b C (a1 (na 0))))))))),?_};obtain⟨z,rfl,U,O,hl,k,S⟩:=h;refine{Y,_,44,Y,Y,qg hl ⋯,λp H1 W o m=>?_};obtain⟨ts,a⟩:∃ts,Txt.split z ⟨#[44]⟩=ts:={_,Y};rw[a]at m;have G:=Kb a;refine{p,Y,{_,au.of m},mM (by rw[qf];exact pz ()) (λi ys H'=>ag H1 H'/\∃ds,F2 dM ds (ts.take i)/\c8 H' ys ds) {ag.refl _,[],.nil,.nil} (λi ys H' q=>au.of (q.1 _ _ m)) (λi x ys H' X M b ⟨f,ds,j,n⟩ k1 k2=>?_) λH2 q ys ⟨f,ds,j,n⟩ _ y=>?_}
 ·rw[zj]at b
  cases e:ts[i]? with
  |none=>rw[e]at b;exact nomatch b
  |some w =>
   rw[e]at b;have b:V.str w=x:=qD b;subst b
   have r:w∈Txt.split z ⟨#[44]⟩:=by rw[a];exact qx e
   refine aB (B:=M H') ?_;refine{w,Y,U.same (o.trans f),O.part r,qg (jL r).2 hl,λd v t J c D=>?_,λno t c=>S (λd h=>?_) _ (o.trans (f.trans c))}
   ·exact k1 _ _ {f.trans c,ds++[d],by rw[vd,e];exact j.snoc J,(n.same c).snoc D}
   ·obtain⟨L,_,h⟩:=h
    rw[a]at h;obtain⟨d',_,N⟩:=h.at e;exact no d' N
 ·rw[qf,va]at j
  refine{q,_,Y,au.of aN,λl t hl c I=>?_};exact k _ _ _ {ds,Y,by rw[a];exact j} ((o.trans (f.up y)).trans c) (.tup I ((n.same (ag.new y)).same c))
def F9(T:Txt K mg tk)(F:FO K mg "_law_roll" rF)(t:oy P w K mg base)(r:kW P w K mg base):xG P w K mg base:=by
 refine aH F nH (hJ λ_=>rfl) {} λfa cdv A outer s H vs Q E N h=>?_
 refine{_,(ak (sn nH.nd 1 (cl t N (a2 (vv 0) ai)))
   (ak (sn nH.nd 2 (aA kQ))
   (ak (fo (pF (by rfl) T.gA (a1 (ae er ai (ae b' (xl (vv 1)) ai)))) (gn nH.nd 3)
   (ak (sn nH.nd 4 (cl r N (a1 (xa (vv 1) (ae er ai (vv 3))))))
   (ak (fo (Gj ah) (gn nH.nd 5)
   (ao (ax (ck Nd (vv 4) (vv 2)) (ao (sn nH.nd 4 (ae aL (aX jW (vv 4) aZ (aV ai)) (vv 5)))) aO)))
   (ao (ap (vv 2) (a1 (vv 4)))))))
   (ao (av (vv 2)))))),?_}
 obtain⟨i,rfl,k⟩:=h;refine{_,Y,_,7,Y,⋯,λH1 p1 ns S g1 W hl=>?_};refine{ar rfl,λp2 H2 O Z e2=>?_};have d2:=W.mono Z;obtain⟨a0,h0⟩:=d2.get 0 ⋯;have M:H p2=none:=S.free O;have np:p1≠p2:=dg W.at' O;have hm:0≤a0 % 5/\a0 % 5<5:={Int.emod_nonneg _ ⋯,Int.emod_lt_of_pos _ ⋯}
 refine{_,Y,p1,_,0,.int a0,Y,Y,au.of d2.at',h0,_,_,Y,Y,(by show(0:Int)<5;decide),_,_,Y,Y,_,Y,(),(),vD (n:=(2+a0 % 5).toNat) (λj σ g=>∃(ws:List Str) (I J f:Option V),σ=[some (.int i),some (.ref p1),some (.ref p2),I,J,f]/\ag H g/\DR g p1 ns 7 ∧
  g p2=some (.lst (ws.map V.str))/\ws.length=j/\ws.Nodup/\∀w∈ws,a8 w) {[],none,none,none,Y,S.trans Z,d2,e2,Y,vy,λ_ z=>nomatch z} ?_ ?_}
 ·rintro j σ g hj ⟨ws,I,J,f,rfl,C,p,q,hw,nd,e⟩
  have hj6:j<6:=()
  refine{_,Y,_,Y,_,_,Y,Y,p1,_,_,Y,Y,au.of p.at',(),by rw[qf,hl];omega,λv hv=>?_};obtain⟨m,_,rfl⟩:=qk.mp hv;refine{m,Y,λz hz=>?_}
  refine{_,Y,RQ (z:="abcdefgh") (λc σ B=>∃(w:Str) (f:Option V),σ=[some (.int i),some (.ref p1),some (.ref p2),some (.int (0+(j:Int))),some (.str w),f]/\B=g/\a8 w/\m4 ws c w)
   {z,_,Y,Y,hz,QZ ws z} ?_ ?_}
  ·rintro c ch σ B X ⟨w,f,rfl,rfl,b,d⟩
   have G:c<8:=by
    have:=(vf.mp X).1
    have R:("abcdefgh":Str).cps.size=8:=∅
    omega
   have D:ch=97+c:=Fg G X;have L:w.length≤sizeLine:=qj (aC (show w.cps.size≤1000 from qg b.2.1 ⋯));refine{_,Y,_,Y,p2,_,Y,.inl (au.of q),Y,Qz ws,_,Y,?_}
   show if pY (.str w) (ws.map V.str)=true then _ else _
   rw[o9];refine aG (λa=>?_) λa=>?_
   ·have a:w∈ws:=qB a
    refine{_,Y,_,Y,w,Y,L,?_};have U:=Po b (c:=ch) ();refine{_,Y,_,_,Y,Y,?_,?_}
    ·have h1:(⟨#[ch]⟩:Str).length=1:=rfl
     have h2:(aJ w none (some 7)++⟨#[ch]⟩:Str).cps.size=(aJ w none (some 7)).cps.size+1:=B2 _ _;have h3:(aJ w none (some 7)).length=(aJ w none (some 7)).cps.size:=rfl;have:=aC (n:=(aJ w none (some 7)).length+1) (by have:=U.2.1;omega);omega
    ·refine{_,_,Y,Y,U,?_}
     rw[D];exact Pe d a
   ·exact{w,_,Y,Y,b,.inl (λz=>a (qs z))}
  ·rintro σ B ⟨w,f,rfl,rfl,b,d⟩
   have o:w∉ws:=by
    have R:("abcdefgh":Str).cps.size=8:=∅
    rw[R]at d;exact RN d ()
   refine{_,Y,.inl {Y,_,au.of q},_,Y,p2,_,_,Y,Y,q,(by rw[qf];exact aC ()),?_}
   refine{ws++[w],_,_,_,Y,C.wr M,{by rw[aP np];exact p.at',p.len,p.bg},by rw[aN,zm];rfl,by rw[qu,zy,hw],R5 nd o,λx hx=>by
    rcases zf.mp hx with y|y
    ·exact e x y
    ·rw[zh.mp y];exact b}
 ·rintro σ g ⟨ws,I,J,f,rfl,C,p,q,hw,nd,e⟩
  exact{_,Y,k g p2 ws C M {q,(),(),e} () nd}
def Ci(T:Txt K mg tk)(F:FO K mg "_law_part" qZ)(a:mn P w K mg base):mW P w K mg base:=by
 refine aH F EL (fF λ_ _=>rfl) {} λo n A outer s H vs Q E b h=>?_
 refine{_,(ak (ax (ck aR (ae b' (vv 0) ai) ai) (ao (av (bF (a2 ah ai)))) aO)
   (ao (av (cl a b (a2 (ae dX (vv 0) ai) (vv 1)))))),?_}
 obtain⟨i,p,ws,rfl,j,k⟩:=h;refine{_,Y,_,_,Y,Y,(by show(0:Int)<3;decide),Y,_,Y,?_};refine aG (λ_=>?_) λ_=>?_
 ·exact{ar rfl,λq H1 g s e=>k H1 (.ref q) _ s (.tup e (.cons (.str _) (.cons (.int _) .nil))) {_,Y,.inl rfl}}
 ·exact{_,Y,_,_,Y,Y,{⋯,⋯},_,Y,_,p,ws,Y,j,λH1 v d c dv m=>k H1 v d c dv (let⟨ds,e,f⟩:=m;{ds,e,.inr f})}
def CO(T:Txt K mg tk)(F:FO K mg "_law_sign_name" rQ)(a:mn P w K mg base):oB P w K mg base:=by
 refine aH F Ak (fF λ_ _=>rfl) {} λX I A outer s H vs Q E g h=>?_;refine{_,(ao (av (ae tr (cl a g (a2 (ae dX (vv 0) ai) (vv 1))) (bF (a1 (xa (aA (a2 (ae b' (ae dX (vv 0) ai) ai) (ae oK ai ai))) (cy mR T.gF boot_int (a1 (ce aR (ae b' (vv 0) ai) ai))))))))),?_};obtain⟨i,p,ws,rfl,o,k⟩:=h;refine{_,Y,_,_,Y,Y,{⋯,⋯},_,Y,_,p,ws,Y,o,λH1 v d G dv C=>?_};obtain⟨ds,rfl,w,n,rfl,hw,n1,n2⟩:=C;obtain⟨q,xs,rfl,N,O⟩:=iT dv
 cases O with
 |cons D t =>
 cases t with
 |cons x t =>
 cases t;cases d_ D;cases Mo x;refine{_,Y,_,_,Y,Y,{⋯,⋯},_,_,Y,Y,(by show(0:Int)<12;decide),_,_,Y,Y,{⋯,⋯,⋯},ar rfl,λB H2 S e J=>?_};refine{_,Y,_,_,Y,Y,(by show(0:Int)<24;decide),Y,.inr {_,Y,?_}};refine{B,_,_,Y,Y,au.of J,uv _,rW _,λv b=>?_}
 obtain⟨m,rfl,y,M⟩:∃m,v=V.int m/\0≤m/\m≤1000000:=by
  simp only[List.mem_cons,List.not_mem_nil,or_false]at b
  rcases b with rfl|rfl
  ·exact⟨_,Y,dE _ ⋯,by have:=dQ (i / 2) (m:=12) ⋯;omega⟩
  ·exact⟨_,Y,⋯,⋯⟩
 refine⟨ar rfl,λL W U c z=>?_⟩;refine{q,L,_,_,Y,Y,aI.of ((e.trans c) _ _ N),aI.of z,by simp,by simp,ar rfl,λR j Z f r=>?_};exact k j (.ref R) _ (((G.trans e).trans c).trans f) (.tup r (.cons (.str w) (.cons (.int n) (.cons (.int m) .nil)))) ⟨_,Y,w,n,m,Y,hw,n1,n2,y,M⟩
def Ay(T:Txt K mg tk)(F:FO K mg "_law_branch" uD)(a:kW P w K mg base):yM P w K mg base:=by
 refine aH F GN (fF λ_ _=>rfl) {} λm j A outer s H vs Q E c h=>?_
 refine{_,(ak (ax (ck aR (ae b' (vv 0) ai) ai) (ao (av gK)) aO)
   (ao (av (bF (a2 (xa (vv 1) (ae b' (ae dX (vv 0) ai) (cb eu T.bT boot_len (a1 (vv 1))))) (cl a c (a1 (ae dX (vv 0) ai)))))))),?_}
 obtain⟨i,p,ws,rfl,b,k⟩:=h;refine{_,Y,_,_,Y,Y,(by show(0:Int)<2;decide),Y,_,Y,?_};refine aG (λ_=>?_) λ_=>?_
 ·exact k H .a' _ (ag.refl H) .a' (.inl rfl)
 ·refine{_,Y,_,Y,_,_,Y,Y,{⋯,⋯},_,Y,p,_,Y,.inl (au.of b.at'),_,_,Y,Y,b.len.1,p,_,_,Y,Y,au.of b.at',dE _ b.len.1,dQ _ b.len.1,λv f=>?_}
  obtain⟨w,hw,rfl⟩:=qk.mp f;refine{_,Y,_,_,Y,Y,{⋯,⋯},_,Y,λz d=>?_};exact{ar rfl,λq H1 g s e=>k H1 (.ref q) _ s (.tup e (.cons (.str w) (.cons (.str z) .nil))) (.inr {w,z,Y,hw,d})}
def Bg(T:Txt K mg tk)(F:FO K mg "_law_shown_sign" tX)(d:mz P w K mg base):zG P w K mg base:=by
 refine aH F EU (hJ λ_=>rfl) {} λD B A outer s H vs Q E p h=>?_
 refine{_,(ak (ax (ck (PR p) (vv 0) ah) (ao (av ah)) aO)
   (ak (ax (cI (cb gN T.aw boot_isinstance (a2 (vv 0) (gC (v:=.ty "str") (by rfl) T.eH boot_str rfl)))) (ao (av (vv 0))) aO)
   (ak (ax (ck aR (xt (vv 0)) ah) (ao (av (ae aL ah (xt (vv 0))))) aO)
   (ao (av (ae aL ah (cl d p (a1 (xt (vv 0)))))))))),?_}
 obtain⟨v,d',rfl,e,k,kk⟩:=h;rcases k with⟨z,rfl,y,c⟩|⟨z,rfl,y,c⟩|⟨ds,rfl,i⟩
 ·cases d_ e
  have a:∀H',ag H H'->Q (.str (if z = " " then "_" else z)) H':=kk;refine{_,Y,.str z,.str " ",.str z,.str " ",c,∅,by show min _ 0≤64;omega,_,Y,?_}
  by_cases f:z = " "
  ·rw[q0 f]at a
   refine p' ?_ (a H (ag.refl H));show(z==" ")=true;rw[f];decide +kernel
  ·rw[qq f]at a
   refine dO ?_ ?_
   ·show(z==" ")=false
    rw[beq_eq_false_iff_ne];exact f
   refine{_,Y,_,"str",_,Y,Y,.str z,_,Y,aB ?_};exact{_,Y,a H (ag.refl H)}
 ·obtain⟨q,xs,rfl,b,m⟩:=iT e
  cases m with
  |cons g t =>
   cases t with
   |cons o t =>
    cases t;cases d_ g;cases d_ o;refine{_,Y,.tuple [.str "picture",.str z],.str " ",e.dv,.str " ",?_,∅,by show min _ 0≤64;omega,_,Y,dO rfl ?_}
    ·show(PyData.strOk "picture"&&(PyData.strOk z&&true))=true
     rw[c];decide +kernel
    refine{_,Y,_,"str",_,Y,Y,.tup b,_,Y,aD ?_};refine{_,Y,q,_,0,.str "picture",Y,Y,aI.of b,bj (j:=0) rfl,Y,_,Y,p' ∅ ?_};have n:("*":Str).length=1:=rfl;refine{_,Y,q,_,1,.str z,Y,Y,aI.of b,bj (j:=1) rfl,_,_,Y,Y,by rw[n];show _≤16777216;omega,kk H (ag.refl H)}
 ·obtain⟨q,xs,rfl,b,m⟩:=iT e
  cases m with
  |cons g t =>
   cases t with
   |cons o t =>
    cases t;cases d_ g
    rename_i x
    refine{_,Y,.tuple [.str "refer",.tuple ds],.str " ",e.dv,.str " ",?_,∅,by show min _ 0≤64;omega,_,Y,dO rfl ?_}
    ·show(PyData.strOk "refer"&&(PyData.canLayAll0 ds&&true))=true
     rw[Rf i];decide +kernel
    refine{_,Y,_,"str",_,Y,Y,.tup b,_,Y,aD ?_};refine{_,Y,q,_,0,.str "refer",Y,Y,aI.of b,bj (j:=0) rfl,Y,_,Y,dO ∅ ?_};have C:=mG i;have n:("#":Str).length=1:=rfl;refine{_,Y,q,_,1,x,Y,Y,aI.of b,bj (j:=1) rfl,x,ds,Y,o,i,λH1 r=>?_};exact{_,_,Y,Y,by rw[n];show _≤16777216;omega,kk H1 r}
def EZ(T:Txt K mg tk)(F:FO K mg "_law_shown_side" ry)(a:mz P w K mg base):xq P w K mg base:=by
 refine aH F GG (hJ λ_=>rfl) {} λD y A outer s H vs Q E m h=>?_;refine{_,(ao (av (ae aL (cl a m (a1 (xt (vv 0)))) (xi (aA (a2 ah ah)) (cy mR T.gF boot_int (a1 (ce aR (xt (vv 0)) ah))))))),?_};obtain⟨v,d',rfl,r,⟨ds,z,rfl,e,n⟩,kk⟩:=h;obtain⟨q,xs,rfl,d,o⟩:=iT r
 cases o with
 |cons k t =>
  cases t with
  |cons g t =>
   cases t;cases d_ g
   rename_i x
   refine{_,Y,q,_,0,x,Y,Y,aI.of d,bj (j:=0) rfl,x,ds,Y,k,e,λH1 b=>?_};have C:=mG e;have p:("<":Str).length=1:=rfl;have i:(">":Str).length=1:=rfl;refine{ar rfl,λf H2 B c f2=>?_};refine{_,Y,q,_,1,.str z,Y,Y,aI.of ((b.trans c) _ _ d),bj (j:=1) rfl,Y,.inr {_,Y,?_}};rcases n with rfl|rfl
   ·rw[show decide (V.str "ahead"=V.str "behind")=false from ∅]
    refine⟨f,_,0,.str "<",Y,Y,au.of f2,Y,_,_,Y,Y,by rw[p];show _≤16777216;omega,?_⟩;exact kk H2 (b.trans c)
   ·rw[show decide (V.str "behind"=V.str "behind")=true from ∅]
    refine{f,_,1,.str ">",Y,Y,au.of f2,Y,_,_,Y,Y,by rw[i];show _≤16777216;omega,?_};exact kk H2 (b.trans c)
def Cs(T:Txt K mg tk)(F:FO K mg "_law_or_none" s_)(b:mz P w K mg base):zE P w K mg base:=by
 refine aH F CJ (hJ λ_=>rfl) {} λm j A outer s H vs Q E f h=>?_
 refine{_,(ak (ax (ck pK (vv 0) gK) (ao (av ah)) aO)
   (ak (ax (cI (cb gN T.aw boot_isinstance (a2 (vv 0) (gC (v:=.ty "str") (by rfl) T.eH boot_str rfl)))) (ao (av (vv 0))) aO)
   (ao (av (cl b f (a1 (vv 0))))))),?_}
 obtain⟨v,d',rfl,c,d,kk⟩:=h
 cases d with
 |a' =>
  cases IE c;exact{_,Y,Y,_,Y,p' (qs rfl) (kk H (ag.refl H))}
 |str z i =>
  cases d_ c;have a:∀H',ag H H'->Q (.str (if z = "" then "!" else z)) H':=kk;rw[qq i]at a;refine{_,Y,Y,_,Y,dO (decide_eq_false λz=>nomatch z) ?_};refine{_,Y,_,"str",_,Y,Y,.str z,_,Y,aB ?_};exact{_,Y,a H (ag.refl H)}
 |name ds e =>
  rw[fu e]at kk;obtain⟨q,xs,rfl,g,k⟩:=iT c;refine{_,Y,Y,_,Y,dO (decide_eq_false λz=>nomatch z) ?_};refine{_,Y,_,"str",_,Y,Y,.tup g,_,Y,aD ?_};exact⟨_,Y,_,_,Y,c,e,kk⟩
def EK(T:Txt K mg tk)(F:FO K mg "_law_by_hand" mZ)(gfAo:yI P w K mg base):yO P w K mg base:=by
 refine aH F oZ (hJ λ_=>rfl) {} λfa cdv A outer s H vs Q E hr h=>?_
 refine{_,(ak (sm oZ.nd 1 (xl (nc 0)))
   (ak (sn oZ.nd 2 (xl (A0 (af mZ) xB [("_law_roll_here",0)] (il (aA (ac ah (ac ah (ac ah (ac ah (ac ah (a2 ah ah)))))))) (λ_ _ _=>(OV (ck R7 (na 0) (nc 1)))) (λ_ _ _=>(na 0)))))
   (ak (sm oZ.nd 3 (bm PySem.F.plainAttrs_str PySem.F.slot_str_join PySem.F.type_str_join fJ ah (a1 (ae FR (aA (a1 ah)) (cb eu T.bT boot_len (a1 (nc 0)))))))
   (ak (DX (i:=4) oZ.nd rfl (Or.inl rfl) (own:=["_law_thing"]) (fr:=[("_law_hand",1),("_law_heard",3)]) rfl (il (cl gfAo hr (ac (nc 1) (a2 (na 2) (cb eu T.bT boot_len (a1 (nc 0))))))) {Y,∅,∅} (Aa (af mZ) ["_law_roll_here","_law_hand","_law_other","_law_heard","_law_found","_law_thing"] rfl rfl (λ_ h=>um h) ∅ ∅ ∅) (λ_ _ _=>(i_ (i:=0) (by show List.Nodup (["_law_thing","_law_hand","_law_heard"]:List Str);decide +kernel) rfl (Or.inl rfl))) (λ_=>pE rfl) (λ_ _ _=>dn) (λ_ _ _=>(bm PySem.F.plainAttrs_str PySem.F.slot_str_join PySem.F.type_str_join fJ ah (a1 (aA (ac (nc 1) (ac ah (ac (nc 2) (a2 ah (na 0))))))))))
   (ak (fo (il (aA (a2 ah ah))) (gn oZ.nd 5)
   (ao (ap (na 4) (a1 (bm PySem.F.plainAttrs_str PySem.F.slot_str_join PySem.F.type_str_join fJ ah (a1 (aA (ac (nc 1) (ac ah (ac (ae aL ah (aX jW (nc 3) (aV ai) aZ)) (a2 ah (na 5))))))))))))
   (ak (ap (na 4) (a1 (bm PySem.F.plainAttrs_str PySem.F.slot_str_join PySem.F.type_str_join fJ ah (a1 (aA (ac (nc 1) (ac ah (ac (ae aL (aX jW (nc 3) aZ (aV (mK rG ai))) ah) (a2 ah ah)))))))))
   (ak (ap (na 4) (a1 (bm PySem.F.plainAttrs_str PySem.F.slot_str_join PySem.F.type_str_join fJ ah (a1 (aA (ac (nc 1) (ac ah (ac (ae aL (ae aL ah (aX jW (nc 3) (aV ai) (aV (mK rG ai)))) ah) (a2 ah ah)))))))))
   (ak (ap (na 4) (a1 (bm PySem.F.plainAttrs_str PySem.F.slot_str_join PySem.F.type_str_join fJ ah (a1 (aA (ac (nc 1) (ac ah (ac (nc 3) (a2 ah ah)))))))))
   (ak (ap (na 4) (a1 (bm PySem.F.plainAttrs_str PySem.F.slot_str_join PySem.F.type_str_join fJ ah (a1 (aA (ac (nc 1) (ac ah (ac (nc 3) (a2 (ae aL (na 2) ah) ah)))))))))
   (ak (ap (na 4) (a1 (bm PySem.F.plainAttrs_str PySem.F.slot_str_join PySem.F.type_str_join fJ ah (a1 (aA (ac (nc 1) (ac ah (ac (nc 3) (a2 (ae aL (nc 1) ah) ah)))))))))
   (ak (ap (na 4) (a1 (bm PySem.F.plainAttrs_str PySem.F.slot_str_join PySem.F.type_str_join fJ ah (a1 (aA (ac (na 2) (ac ah (ac (nc 3) (a2 ah ah)))))))))
   (ak (ap (na 4) (a1 (bm PySem.F.plainAttrs_str PySem.F.slot_str_join PySem.F.type_str_join fJ ah (a1 (aA (ac (nc 1) (ac ah (ac (ae aL (aX jW (nc 3) aZ (aV (mK rG ai))) ah) (a2 ah ah)))))))))
   (ao (av (ae a9 (na 4) (aA (a1 (bm PySem.F.plainAttrs_str PySem.F.slot_str_join PySem.F.type_str_join fJ ah (a1 (aA (ac (nc 1) (ac ah (ac (ae aL ah (aX jW (nc 3) (aV ai) aZ)) (a2 ah ah)))))))))))))))))))))))),?_}
 obtain⟨p,ws,rfl,rl,l2,k⟩:=h;have bg:=rl.bg;have ok:=Ii bg
 have hb:∀{x y:Str},x.length≤400->y.length≤400->x.length+y.length≤sizeLine:=λh1 h2=>qj (aC ())
 obtain⟨h,hws⟩:∃h,ws[0]?=some h:={_,qm ()};have hh:=rl.wd h (qx hws);have k:=λq H'=>k q h H' hws;obtain⟨f1,f2,f3,f4,f5,f6⟩:=Ki ws.length l2 bg;have bts:=M3 (ws:=ws) (h:=h) hh ok.1 ok.2 l2 bg;refine{_,_,_,.str h,Y,Y,au.of rl.at',AS hws,?_};refine{⋯,λq1 H1 g1 s1 e1=>?_};refine{q1,Y,{_,au.of e1},Kk (xs:=dz.map V.str) (qj (aC ⋯)) (λv=>if v∈ws.map V.str then none else some v) (λH'=>ag H1 H') (ag.refl H1) (λH' s=>au.of (s _ _ e1)) (λx H' K1 K0 C s2 k1 k2=>?_) λH' q2 s2 hq2=>?_}
 ·obtain⟨z,hz,rfl⟩:=qk.mp C
  refine{p,_,Y,.inl (au.of ((s1.trans s2) _ _ rl.at')),Y,(by rw[wy];exact zk.mpr λ_ _=>rfl),_,Y,?_};have ei:pY (.str z) (ws.map V.str)=decide (z∈ws):=o9 z ws;rw[ei]
  have em:V.str z∈ws.map V.str↔z∈ws:=by simp
  by_cases hm:z∈ws
  ·rw[qs hm]
   exact k2 (q0 (em.mpr hm)) _ s2
  ·rw[decide_eq_false hm]
   exact k1 _ _ (qq λh=>hm (em.mp h)) s2
 have e:(dz.map V.str).filterMap (λv=>if v∈ws.map V.str then none else some v)=.str (i7 ws)::((dz.filter λz=>decide (z∉ws)).tail.map V.str):=by
  rw[Cg];have ok':=ok;unfold i7 at ok' ⊢
  cases e:dz.filter λz=>decide (z∉ws) with
  |nil=>rw[e]at ok';exact absurd ok'.1.1 ⋯
  |cons a l=>rfl
 rw[e];have z2:ag H (upd H' q2 (.lst (.str (i7 ws)::((dz.filter λz=>decide (z∉ws)).tail.map V.str)))):=(s1.trans s2).up hq2;refine{_,_,_,.str (i7 ws),Y,Y,au.of aN,fU,?_};generalize upd H' q2 (.lst (.str (i7 ws)::((dz.filter λz=>decide (z∉ws)).tail.map V.str)))=H2 at z2;generalize i7 ws=o at ok bts k;refine{Y,ar rfl,λq3 H3 g3 s3 e3=>?_};have z3:=z2.trans s3;refine{p,_,Y,.inl (au.of (z3 _ _ rl.at')),?_};refine{q3,_,_,Y,Y,e3,(),by rw[List.length_map];omega,Nat.le_of_lt (aC (by simp;omega)),λq4 H4 g4 s4 e4=>?_};have z4:=z3.trans s4
 have e4:H4 q4=some (.lst ((List.replicate ws.length ("0":Str)).map V.str)):=by
  rw[e4]
  congr 2
  rw[show(((ws.map V.str).length:Nat):Int).toNat=ws.length from by rw[qf];rfl,List.map_replicate];generalize ws.length=m
  induction m with
  |zero=>rfl
  |succ m ih=>rw[w6,yj,ih,w6];rfl
 refine{",",q4,List.replicate ws.length "0",Y,Y,au.of e4,?_,?_}
 ·have e1:(",":Str).length=1:=∅
  have:=pw (ws:=List.replicate ws.length ("0":Str)) (c:=1) λw hw=>by rw[jr hw];decide +kernel
  rw[e1,yt];rw[yt]at this;omega
 have lz:(bM ws.length).length≤400:=mJ f1;have bz:(bM ws.length).length≤sizeLine:=qj (aC ());have lh:=bK hh;have lo:=bK ok.1;have ll:(ws.map V.str).length=ws.length:=qf _;refine{p,_,Y,.inl (au.of (z4 _ _ rl.at')),h,o,_,Y,lh,lo,(),(),λq5 H5 g5 s5 e5=>?_};rw[ll]at e5;have z5:=z4.trans s5;have tl:(things h o ws.length).length=35:=rfl;refine{q5,Y,{_,au.of e5},Kk (xs:=(things h o ws.length).map V.str) (qj (aC (by rw[qf,tl];decide))) (λv=>match v with|.str z=>some (.str (Txt.join " " [h,"1",bM ws.length,"-",z]))|_=>none) (λH'=>ag H5 H') (ag.refl H5) (λH' s=>au.of (s _ _ e5)) (λx H' K1 K0 C s6 k1 k2=>?_) λH' b s6 hq6=>?_}
 ·obtain⟨z,hz,rfl⟩:=qk.mp C
  have lzz:=CU (bts z hz);refine aB (B:=K0 H') ?_;refine{Y,ar rfl,λq7 H7 g7 s7 e7=>?_};refine{" ",q7,[h,"1",bM ws.length,"-",z],Y,Y,au.of e7,uI ?_,k1 _ _ rfl (s6.trans s7)}
  have a1:("1":Str).length=1:=∅
  have a2:("-":Str).length=1:=∅
  omega
 have I:H b=none:=z5.free (s6.free hq6)
 have eL:((things h o ws.length).map V.str).filterMap (λv=>match v with|.str z=>some (.str (Txt.join " " [h,"1",bM ws.length,"-",z]))|_=>none)=((things h o ws.length).map λz=>Txt.join " " [h,"1",bM ws.length,"-",z]).map V.str:=by
  rw[jc,zq];generalize things h o ws.length=l
  induction l with
  |nil=>rfl
  |cons a l ih=>rw[vo,qw,←ih];rfl
 rw[eL];have z6:ag H (upd H' b (.lst (((things h o ws.length).map λz=>Txt.join " " [h,"1",bM ws.length,"-",z]).map V.str))):=(z5.trans s6).up hq6;have e6:(upd H' b (.lst (((things h o ws.length).map λz=>Txt.join " " [h,"1",bM ws.length,"-",z]).map V.str))) b=some (.lst (((things h o ws.length).map λz=>Txt.join " " [h,"1",bM ws.length,"-",z]).map V.str)):=aN;generalize upd H' b (.lst (((things h o ws.length).map λz=>Txt.join " " [h,"1",bM ws.length,"-",z]).map V.str))=H6 at z6 e6;obtain⟨L0,Z⟩:∃L,((things h o ws.length).map λz=>Txt.join " " [h,"1",bM ws.length,"-",z])=L:={_,Y}
 have l0:L0.length=35:=by rw[←Z,qf,tl]
 rw[Z]at e6;refine{ar rfl,λq7 H7 g7 s7 e7=>?_};have n67:b≠q7:=dg e6 g7;refine{q7,Y,{_,au.of e7},oY (xs:=([("back 01":Str),"again 02"]:List Str).map V.str) (λj σ H2=>∃u,σ=[some (.ref p),some (.str h),some (.str o),some (.str (bM ws.length)),some (.ref b),u]/\ag H H2/\H2 q7=some (.lst (([("back 01":Str),"again 02"]:List Str).map V.str))/\H2 b=some (.lst ((L0++(([("back 01":Str),"again 02"]:List Str).take j).map λz=>Txt.join " " [h,"3","2"++aJ (bM ws.length) (some 1) none,"-",z]).map V.str))) {none,Y,z6.trans s7,e7,by rw[s7 _ _ e6];simp} (λj σ H2 _ ⟨_,_,_,e,_⟩=>au.of e) ?_ ?_}
 ·rintro j x σ H2 C ⟨u,rfl,s2',e72,d⟩
  obtain⟨z,hz,rfl⟩:∃z,([("back 01":Str),"again 02"]:List Str)[j]?=some z/\V.str z=x:=by
   rw[zj]at C
   cases e:([("back 01":Str),"again 02"]:List Str)[j]? with
   |none=>rw[e]at C;cases C
   |some z=>rw[e]at C;cases C;exact{z,Y,Y}
  have lz2:z.length≤100:=by
   have h0:∀y∈([("back 01":Str),"again 02"]:List Str),y.length≤100:=∅
   exact h0 z (qx hz)
  have l2':=mJ f2;have hj:j<2:=(zr.mp hz).1;refine{.inl {Y,_,au.of d},Y,?_};refine{_,Y,_,Y,bz,?_};refine{_,_,Y,Y,(by rw[←bL];exact qj (aC ())),ar rfl,λq8 H8 g8 s8 e8=>?_};refine{" ",q8,[h,"3","2"++aJ (bM ws.length) (some 1) none,"-",z],Y,Y,au.of e8,uI ?_,?_}
  ·have a1:("3":Str).length=1:=∅
   have a2:("-":Str).length=1:=∅
   omega
  have n67':b≠q7:=n67;refine{b,_,_,Y,Y,s8 _ _ d,aC (by simp;omega),?_};refine{_,Y,(s2'.trans s8).wr I,by rw[aP (Ne.symm n67)];exact s8 _ _ e72,?_};rw[aN,vd,hz]
  simp
 rintro σ H2 ⟨u,rfl,s2',_,d⟩
 have d:H2 b=some (.lst ((L0++[Txt.join " " [h,"3","2"++aJ (bM ws.length) (some 1) none,"-","back 01"]]++[Txt.join " " [h,"3","2"++aJ (bM ws.length) (some 1) none,"-","again 02"]]).map V.str)):=by
  rw[d]
  congr 2
  simp
 have l3':=mJ f3.2;have l4':=mJ f4.2;have l5':=mJ f5.2;have l6':=mJ f6
 have a1:("1":Str).length=1:=∅
 have a2:("2":Str).length=1:=∅
 have a3:("3":Str).length=1:=∅
 have am:("-":Str).length=1:=∅
 have an:("nothing":Str).length=7:=∅
 have aM:("1000001":Str).length=7:=∅
 have aa:(".a":Str).length=2:=∅
 have ab:(".abcdefghi":Str).length=10:=∅
 have hs:∀{z:Str},z.length≤400->z.length≤sizeLine:=λh1=>qj (aC ())
 generalize hL:L0++[Txt.join " " [h,"3","2"++aJ (bM ws.length) (some 1) none,"-","back 01"]]++[Txt.join " " [h,"3","2"++aJ (bM ws.length) (some 1) none,"-","again 02"]]=L at d
 have lL:L.length=37:=by rw[←hL];simp;omega
 refine{.inl {Y,_,au.of d},Y,?_};refine{_,Y,_,Y,_,Y,bz,?_};refine{_,_,Y,Y,(by rw[←bL];exact hs (by simp only[bL]at *;omega)),?_};refine{ar rfl,λq10 H10 g10 s10 e10=>?_};refine{" ",q10,[h,"1",aJ (bM ws.length) none (some (-1))++"01","-","nothing"],Y,Y,au.of e10,uI (by simp only[bL]at *;omega),?_};refine{b,_,_,Y,Y,s10 _ _ d,aC (by simp;omega),?_};have y10:ag H (upd H10 b (.lst (L.map V.str++[.str (Txt.join " " [h,"1",aJ (bM ws.length) none (some (-1))++"01","-","nothing"])]))):=(s2'.trans s10).wr I;have f:=i8 (H:=H10) (q:=b) (xs:=L) (y:=Txt.join " " [h,"1",aJ (bM ws.length) none (some (-1))++"01","-","nothing"]) rfl;generalize upd H10 b (.lst (L.map V.str++[.str (Txt.join " " [h,"1",aJ (bM ws.length) none (some (-1))++"01","-","nothing"])]))=K10 at f y10;generalize O:L++[Txt.join " " [h,"1",aJ (bM ws.length) none (some (-1))++"01","-","nothing"]]=L10 at f
 have lL10:L10.length=38:=by rw[←O];simp;omega
 refine{.inl {Y,_,au.of f},Y,?_};refine{_,Y,_,Y,_,Y,_,Y,bz,?_};refine{_,_,Y,Y,(by rw[←bL];exact hs (by simp only[bL]at *;omega)),?_};refine{_,_,Y,Y,(by rw[←bL];exact hs (by simp only[bL]at *;omega)),?_};refine{ar rfl,λq11 H11 g11 s11 e11=>?_};refine{" ",q11,[h,"3",("2"++aJ (bM ws.length) (some 1) (some (-1)))++"00","-","nothing"],Y,Y,au.of e11,uI (by simp only[bL]at *;omega),?_};refine{b,_,_,Y,Y,s11 _ _ f,aC (by simp;omega),?_};have y11:ag H (upd H11 b (.lst (L10.map V.str++[.str (Txt.join " " [h,"3",("2"++aJ (bM ws.length) (some 1) (some (-1)))++"00","-","nothing"])]))):=(y10.trans s11).wr I;have D:=i8 (H:=H11) (q:=b) (xs:=L10) (y:=Txt.join " " [h,"3",("2"++aJ (bM ws.length) (some 1) (some (-1)))++"00","-","nothing"]) rfl;generalize upd H11 b (.lst (L10.map V.str++[.str (Txt.join " " [h,"3",("2"++aJ (bM ws.length) (some 1) (some (-1)))++"00","-","nothing"])]))=K11 at D y11;generalize G:L10++[Txt.join " " [h,"3",("2"++aJ (bM ws.length) (some 1) (some (-1)))++"00","-","nothing"]]=L11 at D
 have lL11:L11.length=39:=by rw[←G];simp;omega
 refine{.inl {Y,_,au.of D},Y,?_};refine{ar rfl,λq12 H12 g12 s12 e12=>?_};refine{" ",q12,[h,"2",bM ws.length,"-","nothing"],Y,Y,au.of e12,uI (by simp only[bL]at *;omega),?_};refine{b,_,_,Y,Y,s12 _ _ D,aC (by simp;omega),?_};have y12:ag H (upd H12 b (.lst (L11.map V.str++[.str (Txt.join " " [h,"2",bM ws.length,"-","nothing"])]))):=(y11.trans s12).wr I;have r:=i8 (H:=H12) (q:=b) (xs:=L11) (y:=Txt.join " " [h,"2",bM ws.length,"-","nothing"]) rfl;generalize upd H12 b (.lst (L11.map V.str++[.str (Txt.join " " [h,"2",bM ws.length,"-","nothing"])]))=K12 at r y12;generalize S:L11++[Txt.join " " [h,"2",bM ws.length,"-","nothing"]]=L12 at r
 have lL12:L12.length=40:=by rw[←S];simp;omega
 refine{.inl {Y,_,au.of r},Y,?_};refine{_,_,Y,Y,(by rw[←bL];exact hs (by simp only[bL]at *;omega)),?_};refine{ar rfl,λq13 U g13 s13 e13=>?_};refine{" ",q13,[h,"1",bM ws.length,o++".a","nothing"],Y,Y,au.of e13,uI (by simp only[bL]at *;omega),?_};refine{b,_,_,Y,Y,s13 _ _ r,aC (by simp;omega),?_};have y13:ag H (upd U b (.lst (L12.map V.str++[.str (Txt.join " " [h,"1",bM ws.length,o++".a","nothing"])]))):=(y12.trans s13).wr I;have g:=i8 (H:=U) (q:=b) (xs:=L12) (y:=Txt.join " " [h,"1",bM ws.length,o++".a","nothing"]) rfl;generalize upd U b (.lst (L12.map V.str++[.str (Txt.join " " [h,"1",bM ws.length,o++".a","nothing"])]))=K13 at g y13;generalize R:L12++[Txt.join " " [h,"1",bM ws.length,o++".a","nothing"]]=L13 at g
 have lL13:L13.length=41:=by rw[←R];simp;omega
 refine{.inl {Y,_,au.of g},Y,?_};refine{_,_,Y,Y,(by rw[←bL];exact hs (by simp only[bL]at *;omega)),?_};refine{ar rfl,λq14 W g14 s14 e14=>?_};refine{" ",q14,[h,"1",bM ws.length,h++".abcdefghi","nothing"],Y,Y,au.of e14,uI (by simp only[bL]at *;omega),?_};refine{b,_,_,Y,Y,s14 _ _ g,aC (by simp;omega),?_};have y14:ag H (upd W b (.lst (L13.map V.str++[.str (Txt.join " " [h,"1",bM ws.length,h++".abcdefghi","nothing"])]))):=(y13.trans s14).wr I;have n:=i8 (H:=W) (q:=b) (xs:=L13) (y:=Txt.join " " [h,"1",bM ws.length,h++".abcdefghi","nothing"]) rfl;generalize upd W b (.lst (L13.map V.str++[.str (Txt.join " " [h,"1",bM ws.length,h++".abcdefghi","nothing"])]))=K14 at n y14;generalize M:L13++[Txt.join " " [h,"1",bM ws.length,h++".abcdefghi","nothing"]]=L14 at n
 have lL14:L14.length=42:=by rw[←M];simp;omega
 refine{.inl {Y,_,au.of n},Y,?_};refine{ar rfl,λq15 H15 g15 s15 e15=>?_};refine{" ",q15,[o,"1",bM ws.length,"-","nothing"],Y,Y,au.of e15,uI (by simp only[bL]at *;omega),?_};refine{b,_,_,Y,Y,s15 _ _ n,aC (by simp;omega),?_};have y15:ag H (upd H15 b (.lst (L14.map V.str++[.str (Txt.join " " [o,"1",bM ws.length,"-","nothing"])]))):=(y14.trans s15).wr I;have t:=i8 (H:=H15) (q:=b) (xs:=L14) (y:=Txt.join " " [o,"1",bM ws.length,"-","nothing"]) rfl;generalize upd H15 b (.lst (L14.map V.str++[.str (Txt.join " " [o,"1",bM ws.length,"-","nothing"])]))=K15 at t y15;generalize J:L14++[Txt.join " " [o,"1",bM ws.length,"-","nothing"]]=L15 at t
 have lL15:L15.length=43:=by rw[←J];simp;omega
 refine{.inl {Y,_,au.of t},Y,?_};refine{_,Y,_,Y,_,Y,bz,?_};refine{_,_,Y,Y,(by rw[←bL];exact hs (by simp only[bL]at *;omega)),?_};refine{ar rfl,λq16 H16 g16 s16 e16=>?_};refine{" ",q16,[h,"1",aJ (bM ws.length) none (some (-1))++"1000001","-","nothing"],Y,Y,au.of e16,uI (by simp only[bL]at *;omega),?_};refine{b,_,_,Y,Y,s16 _ _ t,aC (by simp;omega),?_};have X:ag H (upd H16 b (.lst (L15.map V.str++[.str (Txt.join " " [h,"1",aJ (bM ws.length) none (some (-1))++"1000001","-","nothing"])]))):=(y15.trans s16).wr I;have x16:=i8 (H:=H16) (q:=b) (xs:=L15) (y:=Txt.join " " [h,"1",aJ (bM ws.length) none (some (-1))++"1000001","-","nothing"]) rfl;generalize upd H16 b (.lst (L15.map V.str++[.str (Txt.join " " [h,"1",aJ (bM ws.length) none (some (-1))++"1000001","-","nothing"])]))=K16 at x16 X;generalize N:L15++[Txt.join " " [h,"1",aJ (bM ws.length) none (some (-1))++"1000001","-","nothing"]]=L16 at x16
 have lL16:L16.length=44:=by rw[←N];simp;omega
 refine{Y,?_};refine{_,Y,_,Y,bz,?_};refine{_,_,Y,Y,(by rw[←bL];exact hs (by simp only[bL]at *;omega)),?_};refine{ar rfl,λq20 H20 g20 s20 e20=>?_};refine{" ",q20,[h,"1000001","1000000"++aJ (bM ws.length) (some 1) none,"-","nothing"],Y,Y,au.of e20,uI (by simp only[bL]at *;omega),ar rfl,λq21 H21 g21 s21 e21=>?_};refine{b,q21,_,_,Y,Y,s21 _ _ (s20 _ _ x16),e21,Nat.le_of_lt (aC (by simp;omega)),λq22 H22 g22 s22 e22=>?_};have zF:=X.trans (s20.trans (s21.trans s22));refine k q22 H22 ?_ zF ?_
 ·exact(X.trans (s20.trans s21)).free g22
 rw[e22];unfold IM;rw[Z,hL,O,G,S,R,M,J,N,zm];rfl
def F5(T:Txt K mg tk)(F:FO K mg "is_sign" qN)(p:tY P w K mg base)(o:sS P w K mg base)(j:i' P w K mg base)(B:hZ P w K mg base)(g:g_ P w K mg base):xC P w K mg base:=by
 refine aH F A7 (hJ λ_=>rfl) (λ_ _ _ _ h=>vr h) λfa U A outer s H vs Q E m h=>?_
 refine{_,(ak (ax (cI (cb gN T.aw boot_isinstance (a2 (na 0) (gC (v:=.ty "str") (by rfl) T.eH boot_str rfl)))) (ao (av (eO (ce aR (cb Es T.bT boot_len (a1 (na 0))) ai) (dS (fO (cl g m (a1 (na 0))) (dS (ce So (na 0) ah))))))) aO)
   (ak (ax (cY (cI (cl B m (a2 (na 0) ai)))) (ao (av cB)) aO)
   (ak (ax (cI (cl j m (a2 (xt (na 0)) (bF (a1 ah))))) (ao (av (cl g m (a1 (xt (na 0)))))) aO)
   (ao (av (eO (cl j m (a2 (xt (na 0)) (bF (a1 ah)))) (dS (fO (cl o m (a1 (xt (na 0)))) (dS (cl p m (a1 (xt (na 0))))))))))))),?_}
 obtain⟨v,d,rfl,I,k⟩:=h;refine{_,"str",_,Y,Y,I.tH ⋯ ⋯,?_};have k0:=k H (ag.refl H)
 cases I with
 |@str z ty =>
  have M:z.length≤sizeLine:=qj (aC ty);refine{_,Y,aB ?_};refine{z,Y,M,Y,_,Y,?_};refine aG (λh1=>?_) λh1=>?_
  ·have h1:z.length=1:=by
    have q':(z.length:Int)=1:=V.int.inj (qB h1);omega
   have es:dJ (.str z)=(bp z||decide (z∈([" ",".",","]:List Str))):=by
    show(decide (z.length=1)&&_)=_;rw[qs h1];rfl
   refine{_,.str z,Y,.str ty,λH1 f=>{_,Y,?_}};refine aG (λn=>?_) λn=>?_
   ·have e:dJ (.str z)=true:=by rw[es,show bp z=true from n];rfl
    rw[←e];exact k H1 f
   ·have e:dJ (.str z)=decide (z∈([" ",".",","]:List Str)):=by rw[es,show bp z=false from zw.mpr n];rfl
    obtain⟨c,rfl⟩:=LA h1;refine{_,_,Y,Y,?_};rw[B1 c,←e];exact k H1 f
  ·have e:dJ (.str z)=false:=by
    show(decide (z.length=1)&&_)=_;rw[decide_eq_false λe=>h1 (qs (congrArg V.int ()))];rfl
   rw[←e];exact k0
 |@tup Z xs ds h t =>
  refine{_,Y,aD ?_};refine{_,_,_,Y,.tup h t,_,Y,?_};refine aG (λh1=>?_) λh1=>?_
  ·have h1:¬mY 2 (.tup ds)=true:=by simpa using h1
   rw[←MY (so h1)];exact k0
  ·have h1:mY 2 (.tup ds)=true:=by simpa using h1
   have h1:=qB h1;obtain⟨x,y,a,b,rfl,rfl,ta,tb⟩:=t.two ();refine{_,_,_,x,Y,Y,aI.of h,Y,?_};refine{⋯,λq H1 hq f N=>?_};refine{_,a,q,["picture"],Y,ta.same f,N,_,Y,?_};refine aG (λh2=>?_) λh2=>?_
   ·refine{_,_,_,y,Y,Y,aI.of (f _ _ h),Y,?_}
    refine{_,b,Y,tb.same f,λH2 G=>?_}
    have e:dJ (.tup [a,b])=cO b:=by show(if _ then _ else _)=_;rw[q0 h2]
    rw[←e];exact k H2 (f.trans G)
   ·have e:dJ (.tup [a,b])=(cH ["refer"] a&&(eZ b||iv b)):=by show(if _ then _ else _)=_;rw[qq h2]
    refine{_,_,_,x,Y,Y,aI.of (f _ _ h),Y,?_};refine{⋯,λO H2 S G W=>?_};have r:=f.trans G;refine{_,a,O,["refer"],Y,ta.same r,W,_,Y,?_};refine aG (λn=>?_) λn=>?_
    ·rw[n,zu]at e
     refine{_,_,_,y,Y,Y,aI.of (r _ _ h),Y,?_};refine{_,b,Y,tb.same r,λL J=>{_,Y,?_}};have C:=r.trans J;refine aG (λD=>?_) λD=>?_
     ·rw[D,Bool.true_or]at e
      rw[←e];exact k L C
     ·rw[zw.mpr D,je]at e
      refine{_,_,_,y,Y,Y,aI.of (C _ _ h),Y,?_};refine{_,b,Y,tb.same C,λX R=>?_};rw[←e];exact k X (C.trans R)
    ·rw[zw.mpr n,wz]at e
     rw[←e];exact k H2 r
 |lst h=>exact{_,Y,aD {_,_,_,Y,.lst h,_,Y,aB k0}}
 |mx h=>exact{_,Y,aD {_,_,_,Y,.mx h,_,Y,aB k0}}
 |int i=>exact{_,Y,aD {_,_,_,Y,.int i,_,Y,aB k0}}
 |bl i=>exact{_,Y,aD {_,_,_,Y,.bl i,_,Y,aB k0}}
 |a'=>exact{_,Y,aD {_,_,_,Y,.a',_,Y,aB k0}}
def E6(T:Txt K mg tk)(F:FO K mg "is_name" rN)(c:tY P w K mg base):lE P w K mg base:=by
 refine aH F Ff (fF λ_ _=>rfl) (λ_ _ _ _ h=>eX h) λo m A outer s H vs Q E j h=>?_;refine{_,(ao (av (eO (cl c j (a1 (na 1))) (dS (ce Nd (xt (na 1)) (na 0)))))),?_};obtain⟨p,ws,v,d,rfl,n,hw,i,k⟩:=h;refine{_,d,Y,i,λH1 g=>{_,Y,?_}};have k0:=k H1 g
 cases i with
 |tup h t =>
  refine aG (λh1=>?_) λh1=>?_
  ·rename_i xs ds
   have hl:ds.length=2:=Decidable.byContradiction λe=>by rw[Mc e]at h1;exact Bool.noConfusion h1
   obtain⟨x,y,a,b,rfl,rfl,ta,tb⟩:=t.two hl
   have f:cO a=true:=by
    have h1:(cO a&&dA 1 b)=true:=h1;rw[qv]at h1;exact h1.1
   refine{_,_,_,x,Y,Y,aI.of (g _ _ h),Y,?_}
   cases ta with
   |@str z ty =>
    refine{p,_,Y,.inl (au.of (g _ _ hw.at')),Y,(by rw[wy];exact zk.mpr λ_ _=>rfl),?_};show Q (.bl (pY _ _)) H1;rw[o9]
    have e:a_ ws (.tup [.str z,b])=decide (z∈ws):=by show(iv _&&_)=_;rw[h1];rfl
    rw[←e];exact k0
   |_=>exact Bool.noConfusion f
  ·rename_i xs ds
   have e:a_ ws (.tup ds)=false:=by
    unfold a_;split
    ·rename_i e;cases e;rw[zw.mpr h1];rfl
    ·rfl
   rw[←e];exact k0
 |_=>exact aD k0
def FL(T:Txt K mg tk)(F:FO K mg "is_branch" tO)(g:sy P w K mg base)(c:hZ P w K mg base)(f:g_ P w K mg base):zH P w K mg base:=by
 refine aH F C5 (fF λ_ _=>rfl) (λ_ _ _ _ h=>eX h) λB z A outer s H vs Q E m h=>?_;refine{_,(ao (av (fO (ce pK (na 1) gK) (dS (eO (cl c m (a2 (na 1) ai)) (eO (cl g m (a2 (na 0) (xt (na 1)))) (dS (cl f m (a1 (xt (na 1))))))))))),?_};obtain⟨p,ws,v,d,rfl,r,hw,n,k⟩:=h;refine{Y,_,Y,?_};have k0:=k H (ag.refl H)
 cases n with
 |a'=>exact aB k0
 |tup h t =>
  refine aD {_,_,_,Y,.tup h t,_,Y,?_};refine aG (λh1=>?_) λh1=>?_
  ·have h1:=qB h1
   obtain⟨x,y,a,b,rfl,rfl,ta,tb⟩:=t.two ();refine{_,_,_,x,Y,Y,aI.of h,Y,?_};refine{_,_,_,_,Y,r,hw,ta,λH1 j=>{_,Y,?_}};refine aG (λh2=>?_) λh2=>?_
   ·refine{_,_,_,y,Y,Y,aI.of (j _ _ h),Y,?_}
    refine{_,b,Y,tb.same j,λH2 o=>?_}
    have e:bN ws (.tup [a,b])=cO b:=by show(fP ws a&&_)=_;rw[h2];rfl
    rw[←e];exact k H2 (j.trans o)
   ·have e:bN ws (.tup [a,b])=false:=by show(fP ws a&&_)=_;rw[zw.mpr h2];rfl
    rw[←e];exact k H1 j
  ·rw[←QG (ws:=ws) (so h1)];exact k0
 |str q=>exact aD {_,_,_,Y,.str q,_,Y,aD k0}
 |lst h=>exact aD {_,_,_,Y,.lst h,_,Y,aD k0}
 |mx h=>exact aD {_,_,_,Y,.mx h,_,Y,aD k0}
 |int i=>exact aD {_,_,_,Y,.int i,_,Y,aD k0}
 |bl i=>exact aD {_,_,_,Y,.bl i,_,Y,aD k0}
def EG(T:Txt K mg tk)(F:FO K mg "read_name" uE)(o:lG P w K mg base)(m:iA P w K mg base):og P w K mg base:=by
 refine fI F Nj (hJ λ_=>rfl) (λ_ _ _ _ h=>gU h) λfa U A outer s H vs Q E g h=>?_
 refine{_,(ak (sn Nj.nd 1 (bm PySem.F.plainAttrs_str PySem.F.slot_str_split PySem.F.type_str_split pH (na 0) (a1 ah)))
   (ak (ax (ck jZ (cb eu T.bT boot_len (a1 (na 1))) ai) (ao (j' T.bZ T.b0 (a1 (nX (na 0))))) aO)
   (ao (av (bF (a2 (iW m cV g (a1 (xl (na 1)))) (iW o cV g (a1 (xl (na 1)))))))))),?_}
 obtain⟨z,rfl,J,C,hl,k,D⟩:=h
 have g:∀d,bE d z->∃w n,d=.tuple [.str w,.int n]/\a8 w/\N7 n/\Txt.split z ⟨#[46]⟩=[w,toString n]:=λd ⟨w,n,e,hw,f,R⟩=>{w,n,e,hw,f,by
  rw[R];refine iN (wg _ _) λx I=>?_
  simp only[List.mem_cons,List.not_mem_nil,or_false]at I
  rcases I with rfl|rfl
  ·exact m8 hw
  ·exact pV f.1}
 refine{Y,_,46,Y,Y,qg hl ⋯,λp H1 X i r=>?_};have B:∃ts,Txt.split z ⟨#[46]⟩=ts:={_,Y};obtain⟨ts,c⟩:=B;rw[c]at r;refine{p,_,Y,.inl (au.of r),Y,_,Y,?_}
 by_cases h2:ts.length=2
 rotate_left
 ·refine aG (λ_=>?_) λf=>absurd (by rw[decide_eq_false (λe=>h2 (by have e:=V.int.inj e;rw[qf]at e;omega))];rfl) f
  refine{z,Y,C,λv=>{qj (aC (ze rfl)),D (λd h=>?_) _ i}};obtain⟨w,n,_,_,_,e⟩:=g d h;rw[c]at e;exact h2 (by rw[e];rfl)
 obtain⟨a,b,rfl⟩:∃a b,ts=[a,b]:=match ts,h2 with|[a,b],_=>{a,b,Y}
 have G:a∈Txt.split z ⟨#[46]⟩:=by rw[c];exact qo
 have L:b∈Txt.split z ⟨#[46]⟩:=by rw[c];exact ql _ qo
 refine aD ?_;refine{_,_,_,.str a,Y,Y,au.of r,Y,?_};refine{a,Y,J.same i,C.part G,qg (jL G).2 hl,λd2 v2 H2 p2 j t2=>?_,λno H2 j=>D (λd h=>?_) _ (i.trans j)}
 rotate_left
 ·obtain⟨w,n,_,hw,_,e⟩:=g d h
  rw[c]at e;cases e;exact no _ {Y,hw}
 refine{_,_,_,.str b,Y,Y,au.of (j _ _ r),Y,?_};refine{b,Y,J.same (i.trans j),C.part L,qg (jL L).2 hl,λZ v3 S O t N=>?_,λno S t=>D (λd h=>?_) _ (i.trans (j.trans t))}
 rotate_left
 ·obtain⟨w,n,_,hw,f,e⟩:=g d h
  rw[c]at e;cases e;exact no _ {n,Y,f,Y}
 refine{qj (aC (ze rfl)),λq W hq y M=>?_};obtain⟨rfl,hw⟩:=p2;obtain⟨n,rfl,f,rfl⟩:=O;exact k _ _ _ {a,n,Y,hw,f,nM c} (i.trans (j.trans (t.trans y))) (.tup M (.cons (t2.same (t.trans y)) (.cons (N.same y) .nil)))
def CP(T:Txt K mg tk)(F:FO K mg "read_sign_name" rz)(r:lG P w K mg base)(C:iA P w K mg base):om P w K mg base:=by
 refine fI F Lp (hJ λ_=>rfl) (λ_ _ _ _ h=>gU h) λfa cdv A outer s H vs Q E m h=>?_
 refine{_,(ak (sn Lp.nd 1 (bm PySem.F.plainAttrs_str PySem.F.slot_str_split PySem.F.type_str_split pH (na 0) (a1 ah)))
   (ak (ax (ck jZ (cb eu T.bT boot_len (a1 (na 1))) ai) (ao (j' T.bZ T.b0 (a1 (nX (na 0))))) aO)
   (ao (av (bF (ac (iW C cV m (a1 (xl (na 1)))) (a2 (iW r cV m (a1 (xl (na 1)))) (iW r cV m (a1 (xl (na 1))))))))))),?_}
 obtain⟨z,rfl,L,G,hl,k,I⟩:=h
 have m:∀d,dH d z->∃w n i,d=.tuple [.str w,.int n,.int i]/\a8 w/\N7 n/\N7 i/\Txt.split z ⟨#[46]⟩=[w,toString n,toString i]:=λd ⟨w,n,i,e,hw,g,hi,Z⟩=>{w,n,i,e,hw,g,hi,by
  rw[Z];refine iN (wg _ _) λx O=>?_
  simp only[List.mem_cons,List.not_mem_nil,or_false]at O
  rcases O with rfl|rfl|rfl
  ·exact m8 hw
  ·exact pV g.1
  ·exact pV hi.1}
 refine{Y,_,46,Y,Y,qg hl ⋯,λp H1 hp o y=>?_};have J:∃ts,Txt.split z ⟨#[46]⟩=ts:={_,Y};obtain⟨ts,f⟩:=J;rw[f]at y;refine{p,_,Y,.inl (au.of y),Y,_,Y,?_}
 by_cases h2:ts.length=3
 rotate_left
 ·refine aG (λ_=>?_) λg=>absurd (by rw[decide_eq_false (λe=>h2 (by have e:=V.int.inj e;rw[qf]at e;omega))];rfl) g
  refine{z,Y,G,λv=>{qj (aC (ze rfl)),I (λd h=>?_) _ o}};obtain⟨w,n,i,_,_,_,_,e⟩:=m d h;rw[f]at e;exact h2 (by rw[e];rfl)
 obtain⟨a,b,c,rfl⟩:∃a b c,ts=[a,b,c]:=match ts,h2 with|[a,b,c],_=>{a,b,c,Y}
 have M:a∈Txt.split z ⟨#[46]⟩:=by rw[f];exact qo
 have R:b∈Txt.split z ⟨#[46]⟩:=by rw[f];exact ql _ qo
 have N:c∈Txt.split z ⟨#[46]⟩:=by rw[f];exact ql _ (ql _ qo)
 refine aD ?_;refine{_,_,_,.str a,Y,Y,au.of y,Y,?_};refine{a,Y,L.same o,G.part M,qg (jL M).2 hl,λd2 v2 H2 p2 j t2=>?_,λno H2 j=>I (λd h=>?_) _ (o.trans j)}
 rotate_left
 ·obtain⟨w,n,i,_,hw,_,_,e⟩:=m d h
  rw[f]at e;cases e;exact no _ {Y,hw}
 refine{_,_,_,.str b,Y,Y,au.of (j _ _ y),Y,?_};refine{b,Y,L.same (o.trans j),G.part R,qg (jL R).2 hl,λd3 v3 H3 X t W=>?_,λno H3 t=>I (λd h=>?_) _ (o.trans (j.trans t))}
 rotate_left
 ·obtain⟨w,n,i,_,hw,g,hi,e⟩:=m d h
  rw[f]at e;cases e;exact no _ {n,Y,g,Y}
 refine{_,_,_,.str c,Y,Y,au.of (t _ _ (j _ _ y)),Y,?_};refine{c,Y,L.same (o.trans (j.trans t)),G.part N,qg (jL N).2 hl,λd5 v5 H5 S B t5=>?_,λno H5 B=>I (λd h=>?_) _ (o.trans (j.trans (t.trans B)))}
 rotate_left
 ·obtain⟨w,n,i,_,hw,g,hi,e⟩:=m d h
  rw[f]at e;cases e;exact no _ {i,Y,hi,Y}
 refine{qj (aC (ze rfl)),λq H4 hq D U=>?_};obtain⟨rfl,hw⟩:=p2;obtain⟨n,rfl,g,rfl⟩:=X;obtain⟨i,rfl,hi,rfl⟩:=S;exact k _ _ _ {a,n,i,Y,hw,g,hi,nM f} (o.trans (j.trans (t.trans (B.trans D)))) (.tup U (.cons (t2.same (t.trans (B.trans D))) (.cons (W.same (B.trans D)) (.cons (t5.same D) .nil))))
def E'(T:Txt K mg tk)(F:FO K mg "read_plain_or_none" tI)(a:iA P w K mg base):yA P w K mg base:=by
 refine fI F E9 (hJ λ_=>rfl) (λ_ _ _ _ h=>gU h) λj i A outer s H vs Q E c h=>?_;refine{_,(ao (av (nu (ck aR (na 0) ah) gK (iW a cV c (a1 (na 0)))))),?_};obtain⟨z,rfl,g,b,hl,k,f⟩:=h;refine{Y,_,Y,?_}
 by_cases e:z=("-":Str)
 ·exact uY e (k (.none) _ _ (.inl {e,Y}) (ag.refl H) .a')
 ·exact wX (decide_eq_false e) {z,Y,g,b,hl,λd v H' p=>k d v H' (.inr {e,p}),λno=>f (iG.no e no)}
def Ed(T:Txt K mg tk)(F:FO K mg "read_plain_or_empty" sr)(a:iA P w K mg base):zU P w K mg base:=by
 refine fI F Fd (hJ λ_=>rfl) (λ_ _ _ _ h=>gU h) λj i A outer s H vs Q E c h=>?_;refine{_,(ao (av (nu (ck aR (na 0) ah) ah (iW a cV c (a1 (na 0)))))),?_};obtain⟨z,rfl,g,b,hl,k,f⟩:=h;refine{Y,_,Y,?_}
 by_cases e:z=("!":Str)
 ·exact uY e (k (.str "") _ _ (.inl {e,Y}) (ag.refl H) (.str _))
 ·exact wX (decide_eq_false e) {z,Y,g,b,hl,λd v H' p=>k d v H' (.inr {e,p}),λno=>f (iG.no e no)}
def CN(T:Txt K mg tk)(F:FO K mg "read_branch" ri)(f:iA P w K mg base):yR P w K mg base:=by
 refine fI F Cf (hJ λ_=>rfl) (λ_ _ _ _ h=>gU h) λfa S A outer s H vs Q E D h=>?_
 refine{_,(ak (ax (ck aR (na 0) ah) (ao (av gK)) aO)
   (ao (av (cy lX T.cx boot_tuple (a1 (vE (il (bm PySem.F.plainAttrs_str PySem.F.slot_str_split PySem.F.type_str_split pH (na 0) (a1 ah))) (λ_ _ _ _=>dn) (λ_ _ _ _ b=>(iW f b D (a1 (na 0)))))))))),?_}
 obtain⟨z,rfl,W,R,hl,k,U⟩:=h;refine{Y,_,Y,?_}
 by_cases e:z=("-":Str)
 ·exact uY e (k .none _ _ (.inl {e,Y}) (ag.refl H) .a')
 refine wX (decide_eq_false e) ?_;refine{Y,_,46,Y,Y,qg hl ⋯,λp H1 X r n=>?_};obtain⟨ts,a⟩:∃ts,Txt.split z ⟨#[46]⟩=ts:={_,Y};rw[a]at n;have I:=Kb a;refine{p,Y,{_,au.of n},mM (by rw[qf];exact pz ()) (λi ys H'=>ag H1 H'/\∃ds,F2 cj ds (ts.take i)/\c8 H' ys ds) {ag.refl _,[],.nil,.nil} (λi ys H' q=>au.of (q.1 _ _ n)) (λi x ys H' Z N b ⟨j,ds,m,o⟩ k1 k2=>?_) λH2 q ys ⟨j,ds,m,o⟩ _ C=>?_}
 ·rw[zj]at b
  cases g:ts[i]? with
  |none=>rw[g]at b;exact nomatch b
  |some w =>
   rw[g]at b;have b:V.str w=x:=qD b;subst b
   have t:w∈Txt.split z ⟨#[46]⟩:=by rw[a];exact qx g
   refine aB (B:=N H') ?_;refine{w,Y,W.same (r.trans j),R.part t,qg (jL t).2 hl,λd v y L c G=>?_,λno y c=>U (iG.no e λd h=>?_) _ (r.trans (j.trans c))}
   ·exact k1 _ _ {j.trans c,ds++[d],by rw[vd,g];exact m.snoc L,(o.same c).snoc G}
   ·obtain⟨M,_,h⟩:=h
    rw[a]at h;obtain⟨d',_,O⟩:=h.at g;exact no d' O
 ·rw[qf,va]at m
  refine{q,_,Y,au.of aN,λl y hl c J=>?_};exact k _ _ _ (.inr {e,ds,Y,by rw[a];exact m}) ((r.trans (j.up C)).trans c) (.tup J ((o.same (ag.new C)).same c))
def Fz(T:Txt K mg tk)(F:FO K mg "_law_side" ti)(a:oB P w K mg base):xQ P w K mg base:=by
 refine aH F GA (fF λ_ _=>rfl) {} λI y A outer s H vs Q E f h=>?_;refine{_,(ao (av (bF (a2 (cl a f (a2 (ae dX (vv 0) ai) (vv 1))) (xa (aA (a2 ah ah)) (ae b' (vv 0) ai)))))),?_};obtain⟨i,p,ws,rfl,j,k⟩:=h;refine{_,Y,_,_,Y,Y,{⋯,⋯},_,Y,_,p,ws,Y,j,λH1 v d t dv r=>?_};obtain⟨ds,rfl,n⟩:=r;refine{ar rfl,λo H2 D e B=>?_};refine{_,Y,_,_,Y,Y,(by show(0:Int)<2;decide),o,_,_,Y,Y,au.of B,dE _ ⋯,dQ _ ⋯,λq b=>?_}
 obtain⟨z,rfl,g⟩:∃z:Str,q=.str z/\(z = "ahead" \/ z = "behind"):=by
  simp only[List.mem_cons,List.not_mem_nil,or_false]at b
  rcases b with rfl|rfl
  ·exact⟨_,Y,.inl rfl⟩
  ·exact⟨_,Y,.inr rfl⟩
 exact⟨ar rfl,λC x G c m=>k x (.ref C) _ ((t.trans e).trans c) (.tup m (.cons (dv.same (e.trans c)) (.cons (.str z) .nil))) ⟨ds,z,Y,n,g⟩⟩
def Au(T:Txt K mg tk)(F:FO K mg "_law_sign" rC)(a:mW P w K mg base)(b:kW P w K mg base):xY P w K mg base:=by
 refine aH F Ko (fF λ_ _=>rfl) {} λB y A outer s H vs Q E j h=>?_
 refine{_,(ak (sn Ko.nd 2 (ae b' (vv 0) ai))
   (ak (ax (ck lA (vv 2) ai) (ao (av (iF Dx ah (vv 2) (λ_ _=>rfl)))) aO)
   (ak (ax (ck aR (vv 2) ai) (ao (av (bF (a2 ah (cl b j (a1 (ae dX (vv 0) ai))))))) aO)
   (ao (av (bF (a2 ah (cl a j (a2 (ae dX (vv 0) ai) (vv 1)))))))))),?_}
 obtain⟨i,p,ws,rfl,t,k⟩:=h;refine{_,Y,_,_,Y,Y,(by show(0:Int)<31;decide),?_};refine{_,Y,_,_,Y,Y,_,Y,?_};refine aG (λh1=>?_) λ_=>?_
 ·have h1:i % 31<29:=qB h1
  obtain⟨c,f⟩:=Lk ("abcdefghijklmnopqrstuvwxyz .,":Str).cps.toList (i % 31) (dE _ ⋯) (by rw[show("abcdefghijklmnopqrstuvwxyz .,":Str).cps.toList.length=29 from ∅];omega);exact{_,Y,_,_,_,Y,Y,∅,f,k H (.str {#[c]}) _ (ag.refl H) (.str _) (.inl {c,Y,J2 f})}
 ·refine{_,Y,Y,_,Y,?_}
  refine aG (λ_=>?_) λ_=>?_
  ·refine{_,Y,_,_,Y,Y,{⋯,⋯},_,Y,λz r=>?_}
   exact{ar rfl,λq H1 g s e=>k H1 (.ref q) _ s (.tup e (.cons (.str _) (.cons (.str z) .nil))) (.inr (.inl {z,Y,r}))}
  ·refine{_,Y,_,_,Y,Y,{⋯,⋯},_,Y,_,p,ws,Y,t,λH1 v d n dv x=>?_}
   obtain⟨ds,rfl,o⟩:=x;exact{ar rfl,λm H2 g s e=>k H2 (.ref m) _ (n.trans s) (.tup e (.cons (.str _) (.cons (dv.same s) .nil))) (.inr (.inr {ds,Y,o}))}
def CI(T:Txt K mg tk)(F:FO K mg "_law_sign_names" uf)(B:oB P w K mg base):zI P w K mg base:=by
 refine aH F vl (fF λ_ _=>rfl) {} λfa cdv A outer s H vs Q E hr h=>?_
 refine{_,(ak (sn vl.nd 2 (aA kQ))
   (ak (fo (il (aX bG (vv 0) aZ (aV (ae er ai (ae b' (xl (vv 0)) ai))))) (gn vl.nd 3)
   (ak (sn vl.nd 4 (cl B hr (a2 (ae dX (vv 3) ai) (vv 1))))
   (ao (ax (ck (Tg hr) (vv 4) (vv 2)) (ao (ap (vv 2) (a1 (vv 4)))) aO))))
   (ao (av (cy lX T.cx boot_tuple (a1 (vv 2))))))),?_}
 obtain⟨dd,p,ws,O,rfl,J,hd,k⟩:=h;refine{ar rfl,λp2 H0 g0 s0 e0=>?_};have i:=hd.mono s0;obtain⟨a0,h0⟩:=i.get 0 ⋯;refine{_,Y,_,Y,dd,_,0,.int a0,Y,Y,au.of i.at',h0,_,_,Y,Y,(by show(0:Int)<12;decide),_,_,Y,Y,_,Y,dd,_,Y,au.of i.at',λW H1 M s1 e1=>?_};have G:=IF (xs:=List.map V.int O) (b:=1+a0 % 12) (by have:=dE a0 (m:=12) ⋯;omega) (by have:=dQ a0 (m:=12) ⋯;omega) (by rw[qf];exact hd.len)
 have n12:W≠p2:=λz=>by rw[z]at M;rw[e0]at M;cases M
 refine{W,Y,{_,au.of e1},oY (xs:=bR (List.map V.int O) none (some (1+a0 % 12))) (λj σ H2=>∃(xs:List V) (c:List (List PyData)) (S R:Option V),σ=[some (.ref dd),some (.ref p),some (.ref p2),S,R]/\ag H H2/\H2 W=some (.lst (bR (List.map V.int O) none (some (1+a0 % 12)))) ∧
  H2 p2=some (.lst xs)/\c8 H2 xs (c.map .tuple)/\c.length≤j/\(1≤j->1≤c.length)/\c.Nodup/\∀b∈c,nh ws b)
  {[],[],none,none,Y,s0.trans s1,e1,s1 _ _ e0,.nil,qi _,(),vy,λ_ z=>nomatch z} (λj σ H2 _ ⟨_,_,_,_,_,_,e,_⟩=>au.of e) ?_ ?_}
 ·rintro j x σ H2 r ⟨xs,c,S,R,rfl,I,Z,o,L,hps,t,nd,q⟩
  obtain⟨m,rfl⟩:=rR (qx r);have hj:j<12:=zo (zr.mp r).1 G.2;refine{_,Y,_,_,Y,Y,{⋯,⋯},_,Y,_,p,ws,Y,J.mono I,λH3 v d f dv X=>?_};obtain⟨nm,rfl,hn⟩:=X;have n:=c8.same f L;obtain⟨b1,b2,b3⟩:=hn.plain J.wd
  have xl:xs.length=c.length:=by rw[mH L,qf]
  refine{_,Y,_,Y,.tuple nm,p2,c.map .tuple,xs,dv.dv,Y,.inl (au.of (f _ _ o)),n.dv,b2,EB λx r=>?_,by rw[b3];decide,_,Y,?_}
  ·obtain⟨y,U,rfl⟩:=qk.mp r
   exact((q y U).plain J.wd).2.1
  have key:=NQ (ds:=c.map .tuple) (d:=.tuple nm) (λx r=>by
   obtain⟨y,U,rfl⟩:=qk.mp r
   exact((q y U).plain J.wd).1) b1
  refine aG (λg=>?_) λN=>?_
  ·have D:nm∉c:=λhm=>by
    have:=key.mpr (qk.mpr {nm,hm,Y});rw[this]at g;exact absurd g ⋯
   refine{_,Y,.inl {Y,_,au.of (f _ _ o)},_,Y,p2,_,_,Y,Y,f _ _ o,aC (),?_};have fp:H p2=none:=g0;refine{xs++[v],c++[nm],_,_,Y,(I.trans f).wr fp,by rw[aP n12];exact f _ _ Z,aN,?_,by rw[qu,zy];omega,λ_=>by rw[qu,zy];omega,Cb nd D,λb C=>?_}
   ·rw[zm]
    exact c8.wr (f _ _ o) (λys z=>by cases z) (n.snoc dv)
   ·rcases zf.mp C with C|C
    ·exact q b C
    ·rw[zh.mp C];exact hn
  ·refine{xs,c,_,_,Y,I.trans f,f _ _ Z,f _ _ o,n,(),λ_=>?_,nd,q}
   cases c with
   |nil=>exact absurd rfl N
   |cons a b=>rw[zi];omega
 ·rintro σ H2 ⟨xs,c,S,R,rfl,I,Z,o,L,hps,t,nd,q⟩
  exact{_,Y,p2,_,Y,au.of o,λl H3 g3 f e3=>k H3 (.ref l) c (I.trans f) (.tup e3 (c8.same f L)) (t ()) () q nd}
def Cm(T:Txt K mg tk)(F:FO K mg "_law_shown_what" qV)(W:zE P w K mg base)(g:mz P w K mg base)(gfAp:xq P w K mg base)(gfAi:zG P w K mg base):yD P w K mg base:=by
 refine aH F rA (hJ λ_=>rfl) {} λfa cdv A outer s H vs Q E m h=>?_
 refine{_,(ak (sn rA.nd 1 (xt (vv 0)))
   (ak (ax (ck aR (vv 1) ah) (ak (DX (i:=2) rA.nd rfl (Or.inl rfl) (own:=["_law_sign_here"]) (fr:=[]) rfl (iu (xt (vv 0))) {Y,∅,∅} (mj ∅) (λ_ _ _=>(i_ (i:=0) (by show List.Nodup (["_law_sign_here"]:List Str);decide +kernel) rfl (Or.inl rfl))) (λ_=>pE rfl) (λ_ _ _=>dn) (λ_ _ _=>(cl gfAi m (a1 (vv 0)))))
   (ao (av (ae a9 (aA (ac ah (a2 (cl g m (a1 (xt (vv 0)))) (cl W m (a1 (xt (vv 0))))))) (vv 2))))) aO)
   (ak (ax (ck aR (vv 1) ah) (ao (av (ae a9 (aA (a2 ah (cl g m (a1 (xt (vv 0)))))) (rm (iu (xt (vv 0))) (λ_ _ _=>dn) (λ_ _ _=>(cl g m (a1 (vv 0)))))))) aO)
   (ak (ax (PW.pt (eD (ck aR (vv 1) ah) (iw (ck aR (vv 1) ah)))) (ak (sn rA.nd 3 (aA (a2 (cl gfAp m (a1 (xt (vv 0)))) (cl gfAp m (a1 (xt (vv 0)))))))
   (ao (av (ae a9 (ae a9 (aA (a2 (vv 1) (cl g m (a1 (xt (vv 0)))))) (vv 3)) (rm (iu (aX pM (vv 0) (aV ai) aZ)) (λ_ _ _=>dn) (λ_ _ _=>(cl W m (a1 (vv 0))))))))) aO)
   (ak (ax (ck aR (vv 1) ah) (ao (av (aA (ac ah (ac (cl g m (a1 (xt (vv 0)))) (a2 (xt (vv 0)) (cl W m (a1 (xt (vv 0)))))))))) aO)
   (ak (ax (ck aR (vv 1) ah) (ak (DX (i:=4) rA.nd rfl (Or.inl rfl) (own:=["_law_name_here"]) (fr:=[]) rfl (iu (aX pM (vv 0) (aV ai) (aV ai))) {Y,∅,∅} (mj ∅) (λ_ _ _=>(i_ (i:=0) (by show List.Nodup (["_law_name_here"]:List Str);decide +kernel) rfl (Or.inl rfl))) (λ_=>pE rfl) (λ_ _ _=>dn) (λ_ _ _=>(cl g m (a1 (vv 0)))))
   (ao (av (ae a9 (ae a9 (aA (a1 ah)) (vv 4)) (aA (a1 (xi (aA (a2 (xt (vv 0)) ah)) (cy mR T.gF boot_int (a1 (ce aR (xt (vv 0)) ah)))))))))) aO)
   (ak (ax (ck aR (vv 1) ah) (ao (av (aA (ac ah (ac (cl g m (a1 (xt (vv 0)))) (ac (xt (vv 0)) (a2 (xt (vv 0)) (xi (aA (a2 ah ah)) (cy mR T.gF boot_int (a1 (xt (vv 0)))))))))))) aO)
   (ak (ax (ck aR (vv 1) ah) (ao (av (aA (a2 ah (bm PySem.F.plainAttrs_str PySem.F.slot_str_join PySem.F.type_str_join fJ ah (a1 (rm (iu (xt (vv 0))) (λ_ _ _=>dn) (λ_ _ _=>(cy pq T.eH boot_str (a1 (vv 0))))))))))) aO)
   (ak (ax (ck Nd (vv 1) (aA (ac ah (ac ah (ac ah (a2 ah ah)))))) (ao (av (rm (iu (vv 0)) (λ_ _ _=>dn) (λ_ _ _=>(cy pq T.eH boot_str (a1 (vv 0))))))) aO)
   (ao (av (ae a9 (aA (a1 (vv 1))) (rm (iu (aX pM (vv 0) (aV ai) aZ)) (λ_ _ _=>dn) (λ_ _ _=>(cl g m (a1 (vv 0))))))))))))))))),?_}
 obtain⟨v,ds,ws,rfl,hv,hw,kk⟩:=h;obtain⟨q,xs,rfl,c,hx⟩:=iT hv;have O:=ag.refl H
 cases hw with
 |put p b sg S hb hl hs =>
  cases hx with
  |cons C t =>
  cases t with
  |cons L t =>
  cases t with
  |cons x3 t =>
  cases t with
  |cons x4 t =>
  cases t;cases d_ C;obtain⟨q4,xs4,rfl,D,hx4⟩:=iT x4
  rename_i o y3
  refine{_,Y,q,_,0,.str "put",Y,Y,aI.of c,bj (j:=0) rfl,?_};refine{_,Y,Y,_,Y,p' (qs rfl) ?_};refine{_,Y,q,_,3,.ref q4,Y,Y,aI.of c,bj (j:=3) rfl,q4,Y,{_,aI.of D},mD Cd D hx4 () (λx d H' K1 M G dv s k=>?_) λH1 p1 t1 g1 e1=>?_}
  ·refine aB (B:=M H') ?_
   exact{_,Y,x,d,Y,dv,hs d G,k}
  refine{_,Y,q,_,1,o,Y,Y,aI.of (t1 _ _ c),bj (j:=1) rfl,o,p,Y,L.same t1,S,λH2 U=>?_};have t2:=ag.trans t1 U;refine{_,Y,q,_,2,y3,Y,Y,aI.of (t2 _ _ c),bj (j:=2) rfl,y3,b,Y,x3.same t2,xD hb,λH3 s3=>?_};have t3:=ag.trans t2 s3;refine{ar rfl,λp4 H4 g4 s4 e4=>?_};have Z:=ag.trans t3 s4;refine{_,Y,p4,p1,_,_,Y,Y,e4,s4 _ _ (s3 _ _ (U _ _ e1)),?_,λp5 H5 g5 s5 e5=>kk H5 p5 (Z.trans s5) ?_}
  ·rw[qf,qf]
   exact qj (aC (by show 3+_≤1000;omega))
  ·rw[e5,zm]
   rfl
 |out p ns S hl hs =>
  cases hx with
  |cons C t =>
  cases t with
  |cons L t =>
  cases t with
  |cons x4 t =>
  cases t;cases d_ C;obtain⟨q4,xs4,rfl,D,hx4⟩:=iT x4
  rename_i o
  refine{_,Y,q,_,0,.str "out",Y,Y,aI.of c,bj (j:=0) rfl,?_};refine{_,Y,Y,_,Y,dO (bJ ∅) ?_};refine{_,Y,Y,_,Y,p' (qs rfl) ?_};refine{_,Y,q,_,1,o,Y,Y,aI.of (O _ _ c),bj (j:=1) rfl,o,p,Y,L.same O,S,λH2 U=>?_};have t2:=ag.trans O U;refine{ar rfl,λp4 H4 g4 s4 e4=>?_};have Z:=ag.trans t2 s4;refine{_,Y,q,_,2,.ref q4,Y,Y,aI.of (Z _ _ c),bj (j:=2) rfl,q4,Y,{_,aI.of (Z _ _ D)},mD i5 (Z _ _ D) (c8.same Z hx4) (by rw[qf];omega) (λx d H' K1 M G dv s k=>?_) λH6 p6 R g6 e6=>?_}
  ·refine aB (B:=M H') ?_
   obtain⟨n,J,rfl⟩:=qk.mp G;rw[fu (hs n J)]at k;exact{_,Y,x,n,Y,dv,hs n J,k}
  refine{p4,p6,_,_,Y,Y,R _ _ e4,e6,?_,λp5 H5 g5 s5 e5=>kk H5 p5 ((Z.trans R).trans s5) ?_}
  ·rw[qf,qf,qf]
   exact qj (aC (by show 2+_≤1000;omega))
  ·rw[e5,zm,zq (f:=PyData.tuple),show List.map (i5∘PyData.tuple) ns=List.map f_ ns from y7 λn J=>fu (hs n J)]
   rfl
 |mark k p s1 U r hk S h1 h2 hl m =>
  cases hx with
  |cons C t =>
  cases t with
  |cons L t =>
  cases t with
  |cons x3 t =>
  cases t with
  |cons x4 t =>
  cases d_ C
  rename_i o y3 y4 e
  have lr:=mH t;refine{_,Y,q,_,0,.str k,Y,Y,aI.of c,bj (j:=0) rfl,?_}
  have N:k≠"put" /\ k≠"out":=by rcases hk with rfl|rfl <;> decide +kernel
  refine{_,Y,Y,_,Y,dO (bJ N.1) ?_};refine{_,Y,Y,_,Y,dO (bJ N.2) ?_};refine{_,Y,Y,_,Y,?_};refine Bn (k:=k) (a:="mark") (b:="note") hk ?_ ?_
  ·exact λn=>{_,Y,Y,_,Y,n}
  refine{_,Y,q,_,2,y3,Y,Y,aI.of (O _ _ c),bj (j:=2) rfl,y3,s1,Y,x3.same O,h1,λH11 s11=>?_};have t11:=ag.trans O s11;refine{_,Y,q,_,3,y4,Y,Y,aI.of (t11 _ _ c),bj (j:=3) rfl,y4,U,Y,x4.same t11,h2,λH12 s12=>?_};have t12:=ag.trans t11 s12;refine{ar rfl,λp13 H13 g13 s13 e13=>?_};have t13:=ag.trans t12 s13;refine{_,Y,?_};refine{_,Y,q,_,1,o,Y,Y,aI.of (t13 _ _ c),bj (j:=1) rfl,o,p,Y,L.same t13,S,λH14 s14=>?_};have t14:=ag.trans t13 s14;refine{ar rfl,λp15 H15 g15 s15 e15=>?_};have t15:=ag.trans t14 s15;refine{_,Y,p15,p13,_,_,Y,Y,e15,s15 _ _ (s14 _ _ e13),ar rfl,λp16 H16 g16 s16 e16=>?_};have t16:=t15.trans s16;refine{_,Y,_,Y,q,_,Y,aI.of (t16 _ _ c),?_,λX g17=>?_}
  ·show ¬(HT.bV (e.length+4) 0 (some 4)=0/\_)
   intro z;have:=z.1;rw[show(4:Int)=((4:Nat):Int) from rfl,HT.cL]at this;omega
  have ec:bR (.str k::o::y3::y4::e) (some 4) none=e:=by
   unfold bR;rw[show(4:Int)=((4:Nat):Int) from rfl,HT.cL,HT.cG];show List.take (e.length+4 - min 4 (e.length+4)) (List.drop (min 4 (e.length+4)) (V.str k::o::y3::y4::e))=e;rw[jk ()];show List.take (e.length+4 - 4) e=e;exact vm ()
  rw[ec];have I:ag H16 (upd H16 X (.tup e)):=ag.new g17;refine{X,Y,{_,aI.of aN},mD i5 aN (c8.same (t16.trans I) t) () (λx d H' K1 M G dv s k=>?_) λH18 p18 s18 g18 e18=>?_}
  ·refine aB (B:=M H') ?_
   exact{_,Y,x,d,Y,dv,L8 (m d G),k}
  refine{p16,p18,_,_,Y,Y,s18 _ _ (I _ _ e16),e18,?_,λp5 H5 g5 s5 e5=>kk H5 p5 (((t16.trans I).trans s18).trans s5) ?_}
  ·rw[qf,qf]
   exact qj (aC (by show 4+_≤1000;omega))
  ·rw[e5]
   rfl
 |line p z v S hz hvv =>
  cases hx with
  |cons C t =>
  cases t with
  |cons L t =>
  cases t with
  |cons x3 t =>
  cases t with
  |cons x4 t =>
  cases t;cases d_ C;cases d_ x3
  rename_i o y4
  refine{_,Y,q,_,0,.str "line",Y,Y,aI.of c,bj (j:=0) rfl,?_};refine{_,Y,Y,_,Y,dO (bJ ∅) ?_};refine{_,Y,Y,_,Y,dO (bJ ∅) ?_};refine{_,Y,Y,_,Y,dO (bJ ∅) ?_};refine{_,Y,Y,_,Y,dO (bJ ∅) ?_};refine{_,Y,Y,_,Y,p' (qs rfl) ?_};refine{_,Y,q,_,1,o,Y,Y,aI.of (O _ _ c),bj (j:=1) rfl,o,p,Y,L.same O,S,λH2 U=>?_};have t2:=ag.trans O U;refine{_,Y,q,_,2,.str z,Y,Y,aI.of (t2 _ _ c),bj (j:=2) rfl,?_};refine{_,Y,q,_,3,y4,Y,Y,aI.of (t2 _ _ c),bj (j:=3) rfl,y4,v,Y,x4.same t2,xD hvv,λH3 s3=>?_};have t3:=ag.trans t2 s3;refine{ar rfl,λp4 H4 g4 s4 e4=>?_};have Z:=ag.trans t3 s4;exact kk H4 p4 Z e4
 |cell p a b z S ha hb hz =>
  cases hx with
  |cons C t =>
  cases t with
  |cons L t =>
  cases t with
  |cons x3 t =>
  cases t with
  |cons x4 t =>
  cases t with
  |cons x5 t =>
  cases t;cases d_ C;cases d_ x5
  rename_i o y3 y4
  refine{_,Y,q,_,0,.str "cell",Y,Y,aI.of c,bj (j:=0) rfl,?_};refine{_,Y,Y,_,Y,dO (bJ ∅) ?_};refine{_,Y,Y,_,Y,dO (bJ ∅) ?_};refine{_,Y,Y,_,Y,dO (bJ ∅) ?_};refine{_,Y,Y,_,Y,dO (bJ ∅) ?_};refine{_,Y,Y,_,Y,dO (bJ ∅) ?_};refine{_,Y,Y,_,Y,p' (qs rfl) ?_};refine{_,Y,_,Y,_,Y,q,_,Y,aI.of c,by show ¬(HT.bV 5 0 (some 1)=0/\HT.bV 5 5 (some 4)=5);decide,λp2 g2=>?_};have n2:ag H (upd H p2 (.tup [o,y3,y4])):=ag.new g2
  have hnm:∀n∈[p,a,b],cw n:=λn J=>by
   simp only[List.mem_cons,List.not_mem_nil,or_false]at J
   rcases J with rfl|rfl|rfl
   ·exact S
   ·exact ha
   ·exact hb
  refine⟨p2,Y,⟨_,aI.of aN⟩,mD i5 (xs:=[o,y3,y4]) (ds:=[p,a,b].map .tuple) aN ?_ (ze rfl) (λx d H' K1 M G dv s k=>?_) λH3 p3 s3 g3 e3=>?_⟩
  ·exact c8.same n2 (.cons L (.cons x3 (.cons x4 .nil)))
  ·refine aB (B:=M H') ?_
   obtain⟨n,J,rfl⟩:=qk.mp G;rw[fu (hnm n J)]at k;exact{_,Y,x,n,Y,dv,hnm n J,k}
  have t3:=n2.trans s3;refine{ar rfl,λp4 H4 g4 s4 e4=>?_};have Z:=t3.trans s4;refine{_,Y,p4,p3,_,_,Y,Y,e4,s4 _ _ e3,ar rfl,λp5 H5 g5 s5 e5=>?_};have t5:=Z.trans s5;refine{_,Y,q,_,4,.str z,Y,Y,aI.of (t5 _ _ c),bj (j:=4) rfl,?_};refine{ar rfl,λp6 H6 g6 R e6=>?_};have t6:=ag.trans t5 R;refine{_,Y,q,_,4,.str z,Y,Y,aI.of (t6 _ _ c),bj (j:=4) rfl,Y,.inr {_,Y,?_}}
  have fin:∀w:Str,w=(if z = "" then("!":Str) else z)->∀(H9:Hp) (p9:Addr),ag H H9->H9 p9=some (.lst (V.str "cell"::V.str (i5 (.tuple p))::V.str (i5 (.tuple a))::V.str (i5 (.tuple b))::[V.str w]))->Q (.ref p9) H9:=λw hw H9 p9 s9 e9=>kk H9 p9 s9 (by
   rw[e9,fu S,fu ha,fu hb,hw]
   rfl)
  by_cases hz0:z = ""
  ·rw[show decide (V.str z=V.str "")=true from qs (by rw[hz0])]
   refine{p6,_,1,.str "!",Y,Y,au.of e6,Y,ar rfl,λp7 H7 g7 s7 e7=>?_};refine{p5,p7,_,_,Y,Y,s7 _ _ (R _ _ e5),e7,ar rfl,λp8 H8 g8 s8 e8=>fin "!" (by rw[q0 hz0]) H8 p8 ((t6.trans s7).trans s8) e8}
  ·rw[show decide (V.str z=V.str "")=false from bJ hz0]
   refine{p6,_,0,.str z,Y,Y,au.of e6,Y,ar rfl,λp7 H7 g7 s7 e7=>?_};refine{p5,p7,_,_,Y,Y,s7 _ _ (R _ _ e5),e7,ar rfl,λp8 H8 g8 s8 e8=>fin z (by rw[qq hz0]) H8 p8 ((t6.trans s7).trans s8) e8}
 |leave p w t y S hw hw8 ht ht8 =>
  cases hx with
  |cons C t' =>
  cases t' with
  |cons L t' =>
  cases t' with
  |cons x3 t' =>
  cases t' with
  |cons x4 t' =>
  cases t' with
  |cons x5 t' =>
  cases t';cases d_ C;cases d_ x3;cases d_ x4;cases J1 x5
  rename_i o
  refine{_,Y,q,_,0,.str "leave",Y,Y,aI.of c,bj (j:=0) rfl,?_};refine{_,Y,Y,_,Y,dO (bJ ∅) ?_};refine{_,Y,Y,_,Y,dO (bJ ∅) ?_};refine{_,Y,Y,_,Y,dO (bJ ∅) ?_};refine{_,Y,Y,_,Y,dO (bJ ∅) ?_};refine{_,Y,Y,_,Y,dO (bJ ∅) ?_};refine{_,Y,Y,_,Y,dO (bJ ∅) ?_};refine{_,Y,Y,_,Y,p' (qs rfl) ?_};refine{_,Y,q,_,1,o,Y,Y,aI.of (O _ _ c),bj (j:=1) rfl,o,p,Y,L.same O,S,λH2 U=>?_};have t2:=ag.trans O U;refine{_,Y,q,_,2,.str w,Y,Y,aI.of (t2 _ _ c),bj (j:=2) rfl,?_};refine{_,Y,q,_,3,.str t,Y,Y,aI.of (t2 _ _ c),bj (j:=3) rfl,?_};refine{ar rfl,λp6 H6 g6 R e6=>?_};have t6:=ag.trans t2 R;refine{_,Y,q,_,4,.bl y,Y,Y,aI.of (t6 _ _ c),bj (j:=4) rfl,.inr {_,Y,?_}}
  cases y with
  |true =>
   refine{p6,_,1,.str "yes",Y,Y,au.of e6,Y,ar rfl,λp7 H7 g7 s7 e7=>kk H7 p7 (t6.trans s7) e7}
  |false =>
   refine{p6,_,0,.str "no",Y,Y,au.of e6,Y,ar rfl,λp7 H7 g7 s7 e7=>kk H7 p7 (t6.trans s7) e7}
 |lO i r hl m =>
  cases hx with
  |cons C t =>
  cases t with
  |cons L t =>
  cases t;cases d_ C;obtain⟨q4,xs4,rfl,D,hx4⟩:=iT L;refine{_,Y,q,_,0,.str "pour",Y,Y,aI.of c,bj (j:=0) rfl,?_};refine{_,Y,Y,_,Y,dO (bJ ∅) ?_};refine{_,Y,Y,_,Y,dO (bJ ∅) ?_};refine{_,Y,Y,_,Y,dO (bJ ∅) ?_};refine{_,Y,Y,_,Y,dO (bJ ∅) ?_};refine{_,Y,Y,_,Y,dO (bJ ∅) ?_};refine{_,Y,Y,_,Y,dO (bJ ∅) ?_};refine{_,Y,Y,_,Y,dO (bJ ∅) ?_};refine{_,Y,Y,_,Y,p' (qs rfl) ?_};refine{Y,_,Y,q,_,1,.ref q4,Y,Y,aI.of c,bj (j:=1) rfl,q4,Y,{_,aI.of D},mD cT D hx4 (by rw[zi];omega) (λx d H' K1 M G dv s k=>?_) λH6 p6 R g6 e6=>?_}
  ·obtain⟨f1,f2⟩:=uw dv (m d G)
   refine aB (B:=M H') ?_;refine{_,Y,x,Y,f1,?_};rw[f2];exact k H' (ag.refl H')
  refine{",",p6,_,Y,Y,au.of e6,?_,ar rfl,λp7 H7 g7 s7 e7=>kk H7 p7 (R.trans s7) e7};have a:=pQ m;have e1:(",":Str).length=1:=rfl;rw[e1,qf];rw[zi]at a ⊢;omega
 |bg k r hk hl m =>
  cases hx with
  |cons C t =>
  cases d_ C
  rename_i e
  refine{_,Y,q,_,0,.str k,Y,Y,aI.of c,bj (j:=0) rfl,?_}
  have N:k.length≤8/\k≠"put" /\ k≠"out" /\ k≠"mark" /\ k≠"note" /\ k≠"line" /\ k≠"cell" /\ k≠"leave" /\ k≠"pour" /\ pY (.str k) [.str "back",.str "again",.str "bring",.str "drop",.str "nothing"]=true:=by rcases hk with rfl|rfl|rfl|rfl|rfl <;> decide +kernel
  obtain⟨k8,k1,k2,k3,k4,k5,k6,k7,k9,ki⟩:=N;refine{_,Y,Y,_,Y,dO (bJ k1) ?_};refine{_,Y,Y,_,Y,dO (bJ k2) ?_};refine{_,Y,Y,_,Y,dO (bJ k3) ?_};refine{_,Y,Y,_,Y,dO (bJ k4) ?_};refine{_,Y,Y,_,Y,dO (bJ k5) ?_};refine{_,Y,Y,_,Y,dO (bJ k6) ?_};refine{_,Y,Y,_,Y,dO (bJ k7) ?_};refine{_,Y,Y,_,Y,dO (bJ k9) ?_};refine{_,Y,ar rfl,λp1 H1 g1 s1 e1=>?_};refine{p1,_,Y,.inl (au.of e1),Y,Y,_,Y,p' ki ?_};refine{_,Y,q,Y,{_,aI.of (s1 _ _ c)},mD cT (ds:=.str k::r) (s1 _ _ c) (c8.same s1 (.cons (.str k) t)) (by rw[zi];omega) (λx d H' K1 M G dv s kq=>?_) λH6 p6 R g6 e6=>kk H6 p6 (s1.trans R) e6}
  have fd:Flat1 d:=by
   rcases qr.mp G with rfl|G
   ·exact .inl ⟨k,Y,k8⟩
   ·exact(m d G).1
  obtain⟨f1,f2⟩:=uw dv fd;refine aB (B:=M H') ?_;refine{_,Y,x,Y,f1,?_};rw[f2];exact kq H' (ag.refl H')
 |names k ns hk hl J =>
  cases hx with
  |cons C t =>
  cases d_ C
  rename_i e
  have lr:=mH t;rw[qf]at lr;refine{_,Y,q,_,0,.str k,Y,Y,aI.of c,bj (j:=0) rfl,?_}
  have N:k.length≤8/\k≠"put" /\ k≠"out" /\ k≠"mark" /\ k≠"note" /\ k≠"line" /\ k≠"cell" /\ k≠"leave" /\ k≠"pour" /\ pY (.str k) [.str "back",.str "again",.str "bring",.str "drop",.str "nothing"]=false:=by rcases hk with rfl|rfl|rfl|rfl <;> decide +kernel
  obtain⟨k8,k1,k2,k3,k4,k5,k6,k7,k9,ki⟩:=N;refine{_,Y,Y,_,Y,dO (bJ k1) ?_};refine{_,Y,Y,_,Y,dO (bJ k2) ?_};refine{_,Y,Y,_,Y,dO (bJ k3) ?_};refine{_,Y,Y,_,Y,dO (bJ k4) ?_};refine{_,Y,Y,_,Y,dO (bJ k5) ?_};refine{_,Y,Y,_,Y,dO (bJ k6) ?_};refine{_,Y,Y,_,Y,dO (bJ k7) ?_};refine{_,Y,Y,_,Y,dO (bJ k9) ?_};refine{_,Y,ar rfl,λp1 H1 g1 s1 e1=>?_};refine{p1,_,Y,.inl (au.of e1),Y,Y,_,Y,dO ki ?_};refine{_,Y,ar rfl,λp2 H2 g2 U e2=>?_};have t2:=s1.trans U;refine{_,Y,_,Y,q,_,Y,aI.of (t2 _ _ c),?_,λX g17=>?_}
  ·show ¬(HT.bV (e.length+1) 0 (some 1)=0/\_)
   intro z;have:=z.1;rw[show(1:Int)=((1:Nat):Int) from rfl,HT.cL]at this;omega
  have ec:bR (.str k::e) (some 1) none=e:=by
   unfold bR;rw[show(1:Int)=((1:Nat):Int) from rfl,HT.cL,HT.cG];show List.take (e.length+1 - min 1 (e.length+1)) (List.drop (min 1 (e.length+1)) (V.str k::e))=e;rw[jk ()];show List.take (e.length+1 - 1) e=e;exact vm ()
  rw[ec];have I:ag H2 (upd H2 X (.tup e)):=ag.new g17;refine{X,Y,{_,aI.of aN},mD i5 aN (c8.same (t2.trans I) t) (by rw[qf];omega) (λx d H' K1 M G dv s kq=>?_) λH18 p18 s18 g18 e18=>?_}
  ·refine aB (B:=M H') ?_
   obtain⟨n,hn',rfl⟩:=qk.mp G;rw[fu (J n hn')]at kq;exact{_,Y,x,n,Y,dv,J n hn',kq}
  refine{p2,p18,_,_,Y,Y,s18 _ _ (I _ _ e2),e18,?_,λp5 H5 g5 s5 e5=>kk H5 p5 (((t2.trans I).trans s18).trans s5) ?_}
  ·rw[qf,qf,qf]
   exact qj (aC (by show 1+_≤1000;omega))
  ·rw[e5,zq (f:=PyData.tuple),show List.map (i5∘PyData.tuple) ns=List.map f_ ns from y7 λn hn'=>fu (J n hn')]
   rfl
def DB(T:Txt K mg tk)(F:FO K mg "is_part" sj)(b:sS P w K mg base)(a:lE P w K mg base):sX P w K mg base:=by
 refine aH F FK (fF λ_ _=>rfl) (λ_ _ _ _ h=>eX h) λn m A outer s H vs Q E g h=>?_;refine{_,(ao (av (fO (cl b g (a1 (na 1))) (dS (cl a g (a2 (na 0) (na 1))))))),?_};obtain⟨p,ws,v,d,rfl,j,hw,f,k⟩:=h;refine{_,d,Y,f,λH1 c=>{_,Y,?_}};refine aG (λh1=>?_) λh1=>?_
 ·have e:du ws d=true:=by unfold du;rw[h1];rfl
  rw[←e];exact k H1 c
 ·refine{_,_,_,_,Y,j.same c,hw.mono c,f.same c,λH2 i=>?_}
  have e:du ws d=a_ ws d:=by unfold du;rw[zw.mpr h1];rfl
  rw[←e];exact k H2 (c.trans i)
def Ex(T:Txt K mg tk)(F:FO K mg "is_line_or_none" qP)(b:lE P w K mg base):yB P w K mg base:=by
 refine aH F zZ (fF λ_ _=>rfl) (λ_ _ _ _ h=>eX h) λj g A outer s H vs Q E e h=>?_;refine{_,(ao (av (fO (ce pK (na 1) gK) (dS (cl b e (a2 (na 0) (na 1))))))),?_};obtain⟨p,ws,v,d,rfl,a,hw,c,k⟩:=h;refine{Y,_,Y,?_}
 cases c with
 |a'=>exact aB (k H (ag.refl H))
 |str f=>exact aD {_,_,_,_,Y,a,hw,.str f,k}
 |tup h t=>exact aD {_,_,_,_,Y,a,hw,.tup h t,k}
 |lst h=>exact aD {_,_,_,_,Y,a,hw,.lst h,k}
 |mx h=>exact aD {_,_,_,_,Y,a,hw,.mx h,k}
 |int i=>exact aD {_,_,_,_,Y,a,hw,.int i,k}
 |bl i=>exact aD {_,_,_,_,Y,a,hw,.bl i,k}
def Fe(T:Txt K mg tk)(F:FO K mg "is_sign_name" tJ)(f:lE P w K mg base)(i:kZ P w K mg base)(j:hZ P w K mg base):oJ P w K mg base:=by
 refine aH F EX (fF λ_ _=>rfl) (λ_ _ _ _ h=>eX h) λG D A outer s H vs Q E n h=>?_;refine{_,(ao (av (eO (cl j n (a2 (na 1) ai)) (eO (cl f n (a2 (na 0) (aX pM (na 1) aZ (aV ai)))) (dS (cl i n (a2 (xt (na 1)) ai))))))),?_};obtain⟨p,ws,v,d,rfl,C,hw,o,k⟩:=h;refine{_,d,_,Y,o,_,Y,?_};have k0:=k H (ag.refl H)
 cases o with
 |tup h t =>
  refine aG (λh1=>?_) λh1=>?_
  ·have h1:=qB h1
   obtain⟨x,y,z,a,b,c,rfl,rfl,ta,tb,tc⟩:=t.three ();refine{_,Y,_,_,Y,aI.of h,(λe=>absurd e.2 (by show ¬(2=3);decide)),λq r=>?_};have g:ag H (upd H q (.tup [x,y])):=(ag.refl H).up r;refine{_,_,_,.tup [a,b],Y,C.same g,hw.mono g,.tup (aN ..) (.cons (ta.same g) (.cons (tb.same g) .nil)),λH2 B=>{_,Y,?_}};have m:=g.trans B;refine aG (λh2=>?_) λh2=>?_
   ·refine{_,_,_,z,Y,Y,aI.of (m _ _ h),Y,?_}
    refine{_,c,_,Y,tc.same m,?_}
    have e:fE ws (.tup [a,b,c])=dA 0 c:=by show(a_ ws _&&_)=_;rw[h2];rfl
    rw[←e];exact k H2 m
   ·have e:fE ws (.tup [a,b,c])=false:=by show(a_ ws _&&_)=_;rw[zw.mpr h2];rfl
    rw[←e];exact k H2 m
  ·rw[←NT (ws:=ws) (RT h1)];exact k0
 |_=>exact aD k0
def BP(T:Txt K mg tk)(F:FO K mg "read_part" r8)(a:og P w K mg base):tR P w K mg base:=by
 refine fI F ER (hJ λ_=>rfl) (λ_ _ _ _ h=>gU h) λj i A outer s H vs Q E f h=>?_;refine{_,(ao (av (nu (ck aR (na 0) ah) (fi (v:=.ref fW) rfl T.fW rfl) (iW a cV f (a1 (na 0)))))),?_};obtain⟨z,rfl,b,c,hl,k,g⟩:=h;refine{Y,_,Y,?_}
 by_cases e:z=(".":Str)
 ·exact uY e (k (.tuple [.str "",.int 0]) _ _ (.inl {e,Y}) (ag.refl H) (.tup b.main (.cons (.str _) (.cons (.int _) .nil))))
 ·exact wX (decide_eq_false e) {z,Y,b,c,hl,λd v H' p=>k d v H' (.inr {e,p}),λno=>g (iG.no e no)}
def Ba(T:Txt K mg tk)(F:FO K mg "read_name_or_none" tD)(a:og P w K mg base):x6 P w K mg base:=by
 refine fI F Gs (hJ λ_=>rfl) (λ_ _ _ _ h=>gU h) λj i A outer s H vs Q E c h=>?_;refine{_,(ao (av (nu (ck aR (na 0) ah) gK (iW a cV c (a1 (na 0)))))),?_};obtain⟨z,rfl,g,b,hl,k,f⟩:=h;refine{Y,_,Y,?_}
 by_cases e:z=("-":Str)
 ·exact uY e (k (.none) _ _ (.inl {e,Y}) (ag.refl H) .a')
 ·exact wX (decide_eq_false e) {z,Y,g,b,hl,λd v H' p=>k d v H' (.inr {e,p}),λno=>f (iG.no e no)}
def AF(T:Txt K mg tk)(F:FO K mg "read_sign_name_or_none" rZ)(a:om P w K mg base):zB P w K mg base:=by
 refine fI F Ca (hJ λ_=>rfl) (λ_ _ _ _ h=>gU h) λj i A outer s H vs Q E c h=>?_;refine{_,(ao (av (nu (ck aR (na 0) ah) gK (iW a cV c (a1 (na 0)))))),?_};obtain⟨z,rfl,g,b,hl,k,f⟩:=h;refine{Y,_,Y,?_}
 by_cases e:z=("-":Str)
 ·exact uY e (k (.none) _ _ (.inl {e,Y}) (ag.refl H) .a')
 ·exact wX (decide_eq_false e) {z,Y,g,b,hl,λd v H' p=>k d v H' (.inr {e,p}),λno=>f (iG.no e no)}
def EW(T:Txt K mg tk)(F:FO K mg "read_side" rD)(o:om P w K mg base):zY P w K mg base:=by
 refine fI F Br (hJ λ_=>rfl) (λ_ _ _ _ h=>gU h) λO M A outer s H vs Q E L h=>?_
 refine{_,(ak (ax (PW.pt (wV (cY (cI (bm PySem.F.plainAttrs_str PySem.F.slot_str_endswith PySem.F.type_str_endswith D6 (na 0) (a1 ah)))) (wR (cY (cI (bm PySem.F.plainAttrs_str PySem.F.slot_str_endswith PySem.F.type_str_endswith D6 (na 0) (a1 ah))))))) (ao (j' T.bZ T.b0 (a1 (nX (na 0))))) aO)
   (ao (av (bF (a2 (iW o cV L (a1 (aX jW (na 0) aZ (aV (mK rG ai))))) (nu (cI (bm PySem.F.plainAttrs_str PySem.F.slot_str_endswith PySem.F.type_str_endswith D6 (na 0) (a1 ah))) ah ah)))))),?_}
 obtain⟨z,rfl,J,m,hl,k,x⟩:=h
 have g:("<":Str)=⟨#[60]⟩:=∅
 have n:(">":Str)=⟨#[62]⟩:=∅
 have I:z.length≤sizeLine:=pz ()
 have r:(∀y,z≠y++(⟨#[60]⟩:Str))->(∀y,z≠y++(⟨#[62]⟩:Str))->∀d,¬jE d z:=λh1 h2 d h=>by
  obtain⟨_,y,_,_,_,h⟩:=h;rcases h with⟨_,e⟩|⟨_,e⟩
  ·exact h1 y e
  ·exact h2 y e
 rcases NL z with rfl|⟨y,a,rfl⟩
 ·have b:Txt.endswith (⟨#[]⟩:Str) "<"=false:=∅
  have p:Txt.endswith (⟨#[]⟩:Str) ">"=false:=∅
  refine{Y,_,_,Y,Y,?_};rw[b];refine{_,Y,aB ?_};refine{Y,_,_,Y,Y,?_};rw[p];refine{_,Y,aB ?_};exact{_,Y,m,λv=>{qj (aC (ze rfl)),x (r (λy e=>KS e.symm) (λy e=>KS e.symm)) _ (ag.refl H)}}
 by_cases j:a=60
 ·subst j
  have b:Txt.endswith (y++(⟨#[60]⟩:Str)) "<"=true:=by rw[g,mE];rfl
  refine{Y,_,_,Y,Y,?_};rw[b];refine{_,Y,aD (aD ?_)};refine{_,Y,_,Y,_,Y,I,?_};have B:aJ (y++(⟨#[60]⟩:Str)) none (some (-1))=y:=Ga y 60;rw[B];refine{y,Y,J,{qg o_.2 m.len,λc G=>m.lo c (o_.1 c G)},qg o_.2 hl,λds v H1 p1 i t1=>?_,λno H1 i=>x (λd h=>?_) _ i}
  rotate_left
  ·obtain⟨ds,C,s',_,h,h2⟩:=h
   rcases h2 with⟨_,e⟩|⟨_,e⟩
   ·have:=kH e
    first|exact no ds (this.1▸h)|exact absurd this.2 ⋯
   ·have:=kH e
    first|exact absurd this.2 ⋯|exact no ds (this.1▸h)
  refine⟨Y,_,_,Y,Y,?_⟩;rw[b];refine{_,Y,aB ?_};refine{qj (aC (ze rfl)),λq H2 N t D=>?_};exact k _ _ _ {ds,y,"ahead",Y,p1,.inl {Y,Y}} (i.trans t) (.tup D (.cons (t1.same t) (.cons (.str _) .nil)))
 by_cases f:a=62
 ·subst f
  have b:Txt.endswith (y++(⟨#[62]⟩:Str)) "<"=false:=by rw[g,mE];rfl
  have p:Txt.endswith (y++(⟨#[62]⟩:Str)) ">"=true:=by rw[n,mE];rfl
  refine{Y,_,_,Y,Y,?_};rw[b];refine{_,Y,aB ?_};refine{Y,_,_,Y,Y,?_};rw[p];refine{_,Y,aD ?_};refine{_,Y,_,Y,_,Y,I,?_};have B:aJ (y++(⟨#[62]⟩:Str)) none (some (-1))=y:=Ga y 62;rw[B];refine{y,Y,J,{qg o_.2 m.len,λc G=>m.lo c (o_.1 c G)},qg o_.2 hl,λds v H1 p1 i t1=>?_,λno H1 i=>x (λd h=>?_) _ i}
  rotate_left
  ·obtain⟨ds,C,s',_,h,h2⟩:=h
   rcases h2 with⟨_,e⟩|⟨_,e⟩
   ·have:=kH e
    first|exact no ds (this.1▸h)|exact absurd this.2 ⋯
   ·have:=kH e
    first|exact absurd this.2 ⋯|exact no ds (this.1▸h)
  refine⟨Y,_,_,Y,Y,?_⟩;rw[b];refine{_,Y,aD ?_};refine{qj (aC (ze rfl)),λq H2 N t D=>?_};exact k _ _ _ {ds,y,"behind",Y,p1,.inr {Y,Y}} (i.trans t) (.tup D (.cons (t1.same t) (.cons (.str _) .nil)))
 have b:Txt.endswith (y++(⟨#[a]⟩:Str)) "<"=false:=by rw[g,mE];exact decide_eq_false j
 have p:Txt.endswith (y++(⟨#[a]⟩:Str)) ">"=false:=by rw[n,mE];exact decide_eq_false f
 refine{Y,_,_,Y,Y,?_};rw[b];refine{_,Y,aB ?_};refine{Y,_,_,Y,Y,?_};rw[p];refine{_,Y,aB ?_};exact{_,Y,m,λv=>{qj (aC (ze rfl)),x (r (λC e=>j (kH e).2) (λC e=>f (kH e).2)) _ (ag.refl H)}}
def D9(T:Txt K mg tk)(F:FO K mg "_law_signs" oz)(g:xY P w K mg base):yZ P w K mg base:=by
 refine aH F FZ (fF λ_ _=>rfl) {} λZ O A outer s H vs Q E I h=>?_;refine{_,(ao (av (cy lX T.cx boot_tuple (a1 (A0 (af oz) xE [("_law_roll_here",1)] (il (aX bG (vv 0) aZ (aV (ae er ai (ae b' (xl (vv 0)) ai))))) (λ_ _ _=>dn) (λ_ _ _=>(cl g I (a2 (ae dX (vv 0) ai) (vc 1))))))))),?_};obtain⟨dd,p,ws,t,rfl,L,o,k⟩:=h;obtain⟨a0,R⟩:=o.get 0 ⋯;refine{_,Y,_,Y,dd,_,0,.int a0,Y,Y,au.of o.at',R,_,_,Y,Y,(by show(0:Int)<12;decide),_,_,Y,Y,_,Y,dd,_,Y,au.of o.at',λM H1 U C y=>?_};have D:=IF (xs:=List.map V.int t) (b:=1+a0 % 12) (by have:=dE a0 (m:=12) ⋯;omega) (by have:=dQ a0 (m:=12) ⋯;omega) (by rw[qf];exact o.len);refine{M,Y,{_,au.of y},mM (xs:=bR (List.map V.int t) none (some (1+a0 % 12))) (qj (aC ())) (λj ys H'=>ag H1 H'/\∃a,c8 H' ys a/\a.length=j/\∀x∈a,iD ws x) {ag.refl _,[],.nil,Y,λ_ z=>nomatch z} (λ_ _ H' s=>au.of (s.1 _ _ y)) (λj x ys H' W N f s' k1 k0=>?_) λH' q ys s' X G=>?_}
 ·obtain⟨m,rfl⟩:=rR (qx f)
  obtain⟨s',a,e,n,c⟩:=s';refine aB (B:=N H') ?_;refine{_,Y,_,_,Y,Y,{⋯,⋯},_,Y,_,p,ws,Y,L.mono (C.trans s'),λH2 v d i dv r=>?_};refine k1 v H2 {s'.trans i,a++[d],(c8.same i e).snoc dv,by rw[qu,zy,n],λx f=>?_};rcases zf.mp f with f|f
  ·exact c x f
  ·rw[zh.mp f];exact r
 ·obtain⟨s',a,e,n,c⟩:=s'
  refine{q,ys,Y,au.of aN,λl H2 J i S=>?_};exact k H2 (.ref l) a (((C.trans s').up G).trans i) (.tup S (c8.same ((ag.new G).trans i) e)) () () c
def Dk(T:Txt K mg tk)(F:FO K mg "_law_what_of_marks" uG)(B:mn P w K mg base)(Z:mW P w K mg base)(C:xQ P w K mg base)(o:kW P w K mg base):yS P w K mg base:=by
 refine aH F pG (G1 λ_ _ _=>rfl) {} λfa cdv A outer s H vs Q E x h=>?_
 refine{_,(ak (sn pG.nd 3 (cl Z x (a2 (xl (vv 1)) (vv 2))))
   (ak (sn pG.nd 4 (cl B x (a2 (xl (vv 1)) (vv 2))))
   (ak (sn pG.nd 5 (bF (a2 (cl C x (a2 (xl (vv 1)) (vv 2))) (cl C x (a2 (xl (vv 1)) (vv 2))))))
   (ak (ax (ck aR (vv 0) ai) (ak (sn pG.nd 6 (xa (aA (a2 gK (cl o x (a1 (ae dX (xl (vv 1)) ai))))) (cy mR T.gF boot_int (a1 (ce iz (ae b' (xl (vv 1)) ai) ai)))))
   (ao (av (ae tr (ae tr (bF (a2 ah (vv 3))) (vv 5)) (bF (a2 (cl o x (a1 (xl (vv 1)))) (vv 6))))))) aO)
   (ak (ax (ck aR (vv 0) ai) (ao (av (ae tr (ae tr (bF (a2 ah (vv 3))) (vv 5)) (bF (a1 (cl o x (a1 (xl (vv 1))))))))) aO)
   (ak (ax (ck aR (vv 0) ai) (ao (av (bF (ac ah (ac (vv 3) (a2 (xa (aA (a2 ah ah)) (ae b' (xl (vv 1)) ai)) (xa (aA (a2 gK (vv 4))) (cy mR T.gF boot_int (a1 (ce iz (ae b' (ae dX (xl (vv 1)) ai) ai) ai)))))))))) aO)
   (ak (ax (ck aR (vv 0) ai) (ao (av (bF (ac ah (a2 (vv 3) (vv 4)))))) aO)
   (ak (sn pG.nd 7 (xa (aA (a2 ah (cl o x (a1 (ae dX (xl (vv 1)) ai))))) (cy mR T.gF boot_int (a1 (ce iz (ae b' (xl (vv 1)) ai) ai)))))
   (ao (av (bF (ac ah (ac (vv 3) (ac (vv 4) (a2 (cl B x (a2 (xl (vv 1)) (vv 2))) (vv 7)))))))))))))))),?_}
 obtain⟨i,dd,p,ws,ns,rfl,c,a,k⟩:=h;obtain⟨a0,h0⟩:=a.get 0 ⋯;obtain⟨a1,h1⟩:=a.get 1 ⋯;obtain⟨a2,h2⟩:=a.get 2 ⋯;obtain⟨a3,h3⟩:=a.get 3 ⋯;obtain⟨a4,h4⟩:=a.get 4 ⋯;have s:=ag.refl H;refine{_,Y,dd,_,0,.int a0,Y,Y,au.of a.at',h0,_,Y,_,p,ws,Y,c,λH1 v1 d1 s1 n1 t1=>?_};obtain⟨pd,rfl,q⟩:=t1;replace c:=c.mono s1;replace a:=a.mono s1;replace s:=s.trans s1;refine{_,Y,dd,_,1,.int a1,Y,Y,au.of a.at',h1,_,Y,_,p,ws,Y,c,λH2 v2 d2 s2 n2 t2=>?_};obtain⟨nd,rfl,I⟩:=t2;replace c:=c.mono s2;replace a:=a.mono s2;replace n1:=n1.same s2;replace s:=s.trans s2;refine{_,Y,dd,_,1,.int a1,Y,Y,au.of a.at',h1,_,Y,_,p,ws,Y,c,λH3 v3 d3 W f t3=>?_};replace c:=c.mono W;replace a:=a.mono W;replace n1:=n1.same W;replace n2:=n2.same W;replace s:=s.trans W;refine{_,Y,dd,_,2,.int a2,Y,Y,au.of a.at',h2,_,Y,_,p,ws,Y,c,λH4 v4 d4 R g t4=>?_};replace c:=c.mono R;replace a:=a.mono R;replace n1:=n1.same R;replace n2:=n2.same R;replace f:=f.same R;replace s:=s.trans R;refine{ar rfl,λq5 H5 g5 O G=>?_};replace c:=c.mono O;replace a:=a.mono O;replace n1:=n1.same O;replace n2:=n2.same O;replace f:=f.same O;replace g:=g.same O;replace s:=s.trans O;refine{_,Y,Y,_,Y,?_};refine aG (λ_=>?_) λ_=>?_
 ·refine{_,Y,dd,_,4,.int a4,Y,Y,au.of a.at',h4,_,_,Y,Y,{⋯,⋯},_,Y,λz X=>?_}
  refine{ar rfl,λq6 H6 g6 n e6=>?_};replace c:=c.mono n;replace a:=a.mono n;replace n1:=n1.same n;replace n2:=n2.same n;replace f:=f.same n;replace g:=g.same n;replace s:=s.trans n;replace G:=n _ _ G;refine{_,Y,dd,_,4,.int a4,Y,Y,au.of a.at',h4,_,_,Y,Y,(by show(0:Int)<3;decide),_,_,Y,Y,.inr {_,Y,?_}};refine{q6,_,_,Y,Y,au.of e6,uv _,rW _,λv D=>?_}
  have N:∃b,(∀H',DT H' v b)/\PV b:=by
   simp only[List.mem_cons,List.not_mem_nil,or_false]at D
   rcases D with rfl|rfl
   ·exact⟨_,λ_=>.a',.inl rfl⟩
   ·exact⟨_,λ_=>.str z,.inr ⟨_,Y,X⟩⟩
  obtain⟨b,db,N⟩:=N;refine{_,Y,ar rfl,λq7 H7 g7 e e7=>?_};replace c:=c.mono e;replace a:=a.mono e;replace n1:=n1.same e;replace n2:=n2.same e;replace f:=f.same e;replace g:=g.same e;replace s:=s.trans e;replace G:=e _ _ G;refine{_,Y,q7,q5,_,_,Y,Y,aI.of e7,aI.of G,by simp,by simp,ar rfl,λU H8 g8 j y=>?_};replace c:=c.mono j;replace a:=a.mono j;replace n1:=n1.same j;replace n2:=n2.same j;replace f:=f.same j;replace g:=g.same j;replace s:=s.trans j;refine{_,Y,dd,_,3,.int a3,Y,Y,au.of a.at',h3,_,Y,λz2 M=>?_};refine{_,Y,ar rfl,λL H10 g10 d J=>?_};replace c:=c.mono d;replace a:=a.mono d;replace n1:=n1.same d;replace n2:=n2.same d;replace f:=f.same d;replace g:=g.same d;replace s:=s.trans d;replace y:=d _ _ y;refine{U,L,_,_,Y,Y,aI.of y,aI.of J,by simp,by simp,ar rfl,λq9 t g9 m r=>?_};exact k t _ _ (s.trans m) (.tup (xs:=[.str "mark",v1,v3,v4,.str z2,v]) r (.cons (.str _) (.cons (n1.same m) (.cons (f.same m) (.cons (g.same m) (.cons (.str z2) (.cons (db _) .nil))))))) λnum=>.mark _ _ _ _ _ q t3 t4 M N
 refine{_,Y,Y,_,Y,?_};refine aG (λ_=>?_) λ_=>?_
 ·refine{_,Y,ar rfl,λq7 H7 g7 e e7=>?_}
  replace c:=c.mono e;replace a:=a.mono e;replace n1:=n1.same e;replace n2:=n2.same e;replace f:=f.same e;replace g:=g.same e;replace s:=s.trans e;replace G:=e _ _ G;refine{_,Y,q7,q5,_,_,Y,Y,aI.of e7,aI.of G,by simp,by simp,ar rfl,λU H8 g8 j y=>?_};replace c:=c.mono j;replace a:=a.mono j;replace n1:=n1.same j;replace n2:=n2.same j;replace f:=f.same j;replace g:=g.same j;replace s:=s.trans j;refine{_,Y,dd,_,3,.int a3,Y,Y,au.of a.at',h3,_,Y,λz2 M=>?_};refine{ar rfl,λL H10 g10 d J=>?_};replace c:=c.mono d;replace a:=a.mono d;replace n1:=n1.same d;replace n2:=n2.same d;replace f:=f.same d;replace g:=g.same d;replace s:=s.trans d;replace y:=d _ _ y;refine{U,L,_,_,Y,Y,aI.of y,aI.of J,by simp,by simp,ar rfl,λq9 t g9 m r=>?_};exact k t _ _ (s.trans m) (.tup (xs:=[.str "note",v1,v3,v4,.str z2]) r (.cons (.str _) (.cons (n1.same m) (.cons (f.same m) (.cons (g.same m) (.cons (.str z2) .nil)))))) λnum=>.note _ _ _ _ q t3 t4 M
 refine{_,Y,Y,_,Y,?_};refine aG (λ_=>?_) λ_=>?_
 ·refine{_,Y,ar rfl,λq7 H7 g7 e e7=>?_}
  replace c:=c.mono e;replace a:=a.mono e;replace n1:=n1.same e;replace n2:=n2.same e;replace f:=f.same e;replace g:=g.same e;replace s:=s.trans e;refine{_,Y,dd,_,2,.int a2,Y,Y,au.of a.at',h2,_,_,Y,Y,(by show(0:Int)<2;decide),q7,_,_,Y,Y,au.of e7,dE _ ⋯,dQ _ ⋯,λv D=>?_}
  obtain⟨z,rfl,X⟩:∃z:Str,v=.str z/\(z = "row" \/ z = "column"):=by
   simp only[List.mem_cons,List.not_mem_nil,or_false]at D
   rcases D with rfl|rfl
   ·exact⟨_,Y,.inl rfl⟩
   ·exact⟨_,Y,.inr rfl⟩
  refine⟨_,Y,ar rfl,λU H8 g8 j y=>?_⟩;replace c:=c.mono j;replace a:=a.mono j;replace n1:=n1.same j;replace n2:=n2.same j;replace f:=f.same j;replace g:=g.same j;replace s:=s.trans j;refine{_,Y,dd,_,2,.int a2,Y,Y,au.of a.at',h2,_,_,Y,Y,{⋯,⋯},_,_,Y,Y,(by show(0:Int)<3;decide),_,_,Y,Y,.inr {_,Y,?_}};refine{U,_,_,Y,Y,au.of y,uv _,rW _,λv2' hv2=>?_}
  have N:∃b,DT H8 v2' b/\GX (eC ws) b:=by
   simp only[List.mem_cons,List.not_mem_nil,or_false]at hv2
   rcases hv2 with rfl|rfl
   ·exact⟨_,.a',.inl rfl⟩
   ·exact⟨_,n2,.inr ⟨_,Y,I⟩⟩
  obtain⟨b,db,N⟩:=N;exact{ar rfl,λq9 t g9 m r=>k t _ _ (s.trans m) (.tup r (.cons (.str _) (.cons (n1.same m) (.cons (.str z) (.cons (db.same m) .nil))))) λnum=>.line _ _ _ q X N}
 refine{_,Y,Y,_,Y,?_};refine aG (λ_=>{_,Y,_,Y,ar rfl,λq9 t g9 m r=>k t _ _ (s.trans m) (.tup r (.cons (.str _) (.cons (n1.same m) (.cons (n2.same m) .nil)))) λnum=>.lW _ _ q I}) λ_=>?_;refine{_,Y,dd,_,3,.int a3,Y,Y,au.of a.at',h3,_,_,Y,Y,{⋯,⋯},_,Y,λz X=>?_};refine{ar rfl,λq6 H6 g6 n e6=>?_};replace c:=c.mono n;replace a:=a.mono n;replace n1:=n1.same n;replace n2:=n2.same n;replace f:=f.same n;replace g:=g.same n;replace s:=s.trans n;refine{_,Y,dd,_,3,.int a3,Y,Y,au.of a.at',h3,_,_,Y,Y,(by show(0:Int)<3;decide),_,_,Y,Y,.inr {_,Y,?_}};refine{q6,_,_,Y,Y,au.of e6,uv _,rW _,λv D=>?_}
 obtain⟨V,rfl,hz'⟩:∃V:Str,v=.str V/\(V = "" \/ a8 V):=by
  simp only[List.mem_cons,List.not_mem_nil,or_false]at D
  rcases D with rfl|rfl
  ·exact⟨_,Y,.inl rfl⟩
  ·exact⟨_,Y,.inr X⟩
 refine⟨_,Y,_,Y,_,Y,dd,_,2,.int a2,Y,Y,au.of a.at',h2,_,Y,_,p,ws,Y,c,λH7 v7 d7 e n7 t7=>?_⟩;obtain⟨nd2,rfl,S⟩:=t7;replace c:=c.mono e;replace a:=a.mono e;replace n1:=n1.same e;replace n2:=n2.same e;replace f:=f.same e;replace g:=g.same e;replace s:=s.trans e;exact{_,Y,ar rfl,λq9 t g9 m r=>k t _ _ (s.trans m) (.tup r (.cons (.str _) (.cons (n1.same m) (.cons (n2.same m) (.cons (n7.same m) (.cons (.str V) .nil)))))) λnum=>.cell _ _ _ _ q I S hz'}
def Az(T:Txt K mg tk)(F:FO K mg "_law_shown" t8)(e:yD P w K mg base):rM P w K mg base:=by
 refine aH F nq (hJ λ_=>rfl) {} λfa cdv A outer s H vs Q E hr h=>?_
 refine{_,(ak (o8 (vv 0) (gt (fc (gn nq.nd 1) (fc (gn nq.nd 2) (fc (gn nq.nd 3) (fc (gn nq.nd 4) (fc (gn nq.nd 5) nF)))))))
   (ak (sn nq.nd 6 (aA (ac (vv 1) (a2 (cy pq T.eH boot_str (a1 (vv 2))) (bm PySem.F.plainAttrs_str PySem.F.slot_str_join PySem.F.type_str_join fJ ah (a1 (rm (iu (vv 3)) (λ_ _ _=>dn) (λ_ _ _=>(cy pq T.eH boot_str (a1 (vv 0)))))))))))
   (ak (ax (ck pK (vv 4) gK) (ao (ap (vv 6) (a1 ah))) (ao (ap (vv 6) (a1 (ae aL (ae aL (xt (vv 4)) ah) (xt (vv 4)))))))
   (ao (av (bm PySem.F.plainAttrs_str PySem.F.slot_str_join PySem.F.type_str_join fJ ah (a1 (ae a9 (vv 6) (cl e hr (a1 (vv 5))))))))))),?_}
 obtain⟨v,w,n,hs,b,ws,rfl,dk,kk⟩:=h;obtain⟨q,hq,vb,Z,ds,rfl,eq,dh,U,dx,hw⟩:=dk.at';obtain⟨qh,hxs,rfl,m,hx⟩:=iT dh;refine{_,Y,q,_,Y,aI.of eq,Y,?_};refine{_,_,Y,_,_,Y,_,_,Y,_,_,Y,_,_,Y,Y,?_};refine{_,Y,_,Y,_,Y,.inr {n,Y,BK dk.nn},?_};refine{Y,_,Y,qh,Y,{_,aI.of m},mD cT m hx (by have:=dk.hl;omega) (λx d H' K1 K0 hd dv s k=>?_) λH6 p6 M g6 e6=>?_}
 ·obtain⟨f1,f2⟩:=uw dv (dk.hf d hd)
  refine aB (B:=K0 H') ?_;refine{_,Y,x,Y,f1,?_};rw[f2];exact k H' (ag.refl H')
 refine{",",p6,_,Y,Y,au.of e6,?_,?_}
 ·have a:=pQ dk.hf
  have:=dk.hl;have y:(",":Str).length=1:=rfl;rw[y,qf];omega
 refine{ar rfl,λr H7 W O p=>?_};have V:=M.trans O;have X:=hw.len;rcases dk.bo with rfl|⟨a,c,rfl,la,lc⟩
 ·cases IE U
  refine⟨_,Y,Y,_,Y,p' (qs rfl) ?_⟩;refine{_,Y,.inl {Y,_,au.of p},r,_,_,Y,Y,p,aC (ze rfl),?_};have R:=O.wr (o:=.lst [.str w,.str (toString n),.str (Txt.join "," (hs.map cT)),.str "-"]) W;have i:=M.trans R;refine{Y,_,Y,_,Y,Z,ds,ws,Y,dx.same i,hw,λH9 G f S=>?_};have I:=i.trans f;refine{r,G,_,_,Y,Y,f _ _ aN,S,?_,λC L g5 D N=>?_}
  ·rw[qf]
   exact qj (aC (by show 4+_≤1000;omega))
  refine{" ",C,([w,toString n,Txt.join "," (hs.map cT),cz .none]:List Str)++ws,Y,Y,au.of ?_,IA dk.wl dk.nn dk.hl dk.hf dk.bo X,kk L (I.trans D)};rw[N,zm];rfl
 ·obtain⟨qb,xs,rfl,g,J⟩:=iT U
  cases J with
  |cons y1 t =>
  cases t with
  |cons y2 t =>
  cases t;cases d_ y1;cases d_ y2;refine{_,Y,Y,_,Y,dO (decide_eq_false λz=>nomatch z) ?_};have y:(".":Str).length=1:=rfl;refine{_,Y,.inl {Y,_,au.of p},_,Y,qb,_,0,.str a,Y,Y,aI.of (V _ _ g),bj (j:=0) rfl,_,_,Y,Y,by rw[y];show _≤16777216;omega,_,Y,qb,_,1,.str c,Y,Y,aI.of (V _ _ g),bj (j:=1) rfl,_,_,Y,Y,by rw[Str.length_append,y];show _≤16777216;omega,r,_,_,Y,Y,p,aC (ze rfl),?_};have R:=O.wr (o:=.lst [.str w,.str (toString n),.str (Txt.join "," (hs.map cT)),.str (a++"."++c)]) W;have i:=M.trans R;refine{Y,_,Y,_,Y,Z,ds,ws,Y,dx.same i,hw,λH9 G f S=>?_};have I:=i.trans f;refine{r,G,_,_,Y,Y,f _ _ aN,S,?_,λC L g5 D N=>?_}
  ·rw[qf]
   exact qj (aC (by show 4+_≤1000;omega))
  refine{" ",C,([w,toString n,Txt.join "," (hs.map cT),cz (.tuple [.str a,.str c])]:List Str)++ws,Y,Y,au.of ?_,IA dk.wl dk.nn dk.hl dk.hf dk.bo X,kk L (I.trans D)};rw[N,zm,show cz (.tuple [.str a,.str c])=a++"."++c from HZ a c];rfl
def Dp(T:Txt K mg tk)(F:FO K mg "is_sign_name_or_none" ue)(b:oJ P w K mg base):zP P w K mg base:=by
 refine aH F BQ (fF λ_ _=>rfl) (λ_ _ _ _ h=>eX h) λj g A outer s H vs Q E e h=>?_;refine{_,(ao (av (fO (ce pK (na 1) gK) (dS (cl b e (a2 (na 0) (na 1))))))),?_};obtain⟨p,ws,v,d,rfl,a,hw,c,k⟩:=h;refine{Y,_,Y,?_}
 cases c with
 |a'=>exact aB (k H (ag.refl H))
 |str f=>exact aD {_,_,_,_,Y,a,hw,.str f,k}
 |tup h t=>exact aD {_,_,_,_,Y,a,hw,.tup h t,k}
 |lst h=>exact aD {_,_,_,_,Y,a,hw,.lst h,k}
 |mx h=>exact aD {_,_,_,_,Y,a,hw,.mx h,k}
 |int i=>exact aD {_,_,_,_,Y,a,hw,.int i,k}
 |bl i=>exact aD {_,_,_,_,Y,a,hw,.bl i,k}
def BD(T:Txt K mg tk)(F:FO K mg "is_side" uo)(g:i' P w K mg base)(f:oJ P w K mg base)(i:hZ P w K mg base):yK P w K mg base:=by
 refine aH F Bf (fF λ_ _=>rfl) (λ_ _ _ _ h=>eX h) λq o A outer s H vs Q E j h=>?_;refine{_,(ao (av (eO (cl i j (a2 (na 1) ai)) (eO (cl f j (a2 (na 0) (xt (na 1)))) (dS (cl g j (a2 (xt (na 1)) (fi (v:=.ref dB) rfl T.dB rfl)))))))),?_};obtain⟨p,ws,v,d,rfl,n,hw,m,k⟩:=h;refine{_,d,_,Y,m,_,Y,?_};have k0:=k H (ag.refl H)
 cases m with
 |tup h t =>
  refine aG (λh1=>?_) λh1=>?_
  ·have h1:=qB h1
   obtain⟨x,y,a,b,rfl,rfl,ta,tb⟩:=t.two ();refine{_,_,_,x,Y,Y,aI.of h,Y,?_};refine{_,_,_,_,Y,n,hw,ta,λH1 c=>{_,Y,?_}};refine aG (λh2=>?_) λh2=>?_
   ·refine{_,_,_,y,Y,Y,aI.of (c _ _ h),Y,?_}
    refine{_,b,_,["ahead","behind"],Y,tb.same c,(n.same c).SV,?_}
    have e:fS ws (.tup [a,b])=cH ["ahead","behind"] b:=by show(fE ws a&&_)=_;rw[h2];rfl
    rw[←e];exact k H1 c
   ·have e:fS ws (.tup [a,b])=false:=by show(fE ws a&&_)=_;rw[zw.mpr h2];rfl
    rw[←e];exact k H1 c
  ·rw[←N2 (ws:=ws) (so h1)];exact k0
 |_=>exact aD k0
def F1(T:Txt K mg tk)(F:FO K mg "is_sign_of_roll" uk)(g:sX P w K mg base)(f:xC P w K mg base):xf P w K mg base:=by
 refine aH F Eu (fF λ_ _=>rfl) (λ_ _ _ _ h=>eX h) λB q A outer s H vs Q E j h=>?_
 refine{_,(ak (ax (cY (cI (cl f j (a1 (na 1))))) (ao (av cB)) aO)
   (ao (av (fO (cb gN T.aw boot_isinstance (a2 (na 1) (gC (v:=.ty "str") (by rfl) T.eH boot_str rfl))) (fO (ce aR (xt (na 1)) ah) (dS (cl g j (a2 (na 0) (xt (na 1)))))))))),?_}
 obtain⟨p,ws,v,d,rfl,o,hw,i,k⟩:=h;refine{_,d,Y,i,λH1 c=>{_,Y,?_}};have k0:=k H1 c;refine aG (λh1=>?_) λh1=>?_
 ·have h1:dJ d=false:=by simpa using h1
  have e:eI ws d=false:=by
   unfold eI;split
   ·exact h1
   ·rw[h1];rfl
   ·rfl
  rw[←e];exact k0
 ·have h1:dJ d=true:=by simpa using h1
  refine{_,"str",_,Y,Y,(i.same c).tH ⋯ ⋯,_,Y,?_}
  cases i with
  |@str z ty =>
   refine aB ?_;have e:eI ws (.str z)=true:=h1;rw[←e];exact k0
  |@tup r xs ds h t =>
   refine aD ?_
   have hl:ds.length=2:=Decidable.byContradiction λe=>by rw[MY e]at h1;exact Bool.noConfusion h1
   obtain⟨x,y,a,b,rfl,rfl,ta,tb⟩:=t.two hl
   have e:eI ws (.tup [a,b])=(cH ["picture"] a||du ws b):=by show(dJ _&&_)=_;rw[h1];rfl
   refine{_,_,_,x,Y,Y,aI.of (c _ _ h),Y,?_}
   cases ta with
   |@str z ty =>
    refine{Y,_,Y,?_}
    have n:decide (V.str z=V.str "picture")=cH ["picture"] (.str z):=by
     show _=decide (z∈(["picture"]:List Str));rw[decide_eq_decide];simp
    rw[n];refine aG (λh2=>?_) λh2=>?_
    ·rw[h2,Bool.true_or]at e
     rw[←e];exact k0
    ·rw[zw.mpr h2,je]at e
     refine{_,_,_,y,Y,Y,aI.of (c _ _ h),Y,?_};refine{_,_,_,b,Y,o.same c,hw.mono c,tb.same c,λH2 m=>?_};rw[←e];exact k H2 (c.trans m)
   |_=>exact Bool.noConfusion h1
  |_=>exact Bool.noConfusion h1
def Fx(T:Txt K mg tk)(F:FO K mg "is_sign_names" oE)(g:oJ P w K mg base):xA P w K mg base:=by
 refine aH F CH (fF λ_ _=>rfl) (λ_ _ _ _ h=>eX h) λfa W A outer s H vs Q E M h=>?_
 refine{_,(ak (ax (PW.pt (eD (cY (cI (cb gN T.aw boot_isinstance (a2 (na 1) (gC (v:=.ty "tuple") (by rfl) T.cx boot_tuple rfl))))) (iw (cY (uU gH gH ai (cb eu T.bT boot_len (a1 (na 1))) (fi (v:=.int 12) (by rfl) T.gR {_,Y})))))) (ao (av cB)) aO)
   (ak (ax (cY (cI (cb (pU rfl) T.kX boot_all (a1 (A0 (af oE) yY [("roll",0)] (iu (na 1)) (λ_ _ _=>dn) (λ_ _ _=>(cl g M (a2 (nc 1) (na 0))))))))) (ao (av cB)) aO)
   (ao (av (ce aR (cb Rq T.bT boot_len (a1 (cy (Qk rfl (TM M)) T.MZ boot_set (a1 (na 1))))) (cb eu T.bT boot_len (a1 (na 1)))))))),?_}
 obtain⟨p,ws,v,d,rfl,md,hw,N,k⟩:=h;refine{_,"tuple",_,Y,Y,N.tH ⋯ ⋯,?_};have k0:=k H (ag.refl H)
 cases N with
 |@tup a xs ds h t =>
  refine{_,Y,aD ?_};refine{a,_,Y,.inr (aI.of h),_,_,Y,Y,_,Y,?_}
  have m:¬(1≤ds.length/\ds.length≤12)->gP ws (.tup ds)=false:=λh=>by
   show(decide _&&_)=_;rw[decide_eq_false h];rfl
  have hl:=t.len;refine aG (λh1=>?_) λh1=>?_
  ·have h1:(1:Int)≤(xs.length:Int):=qB h1
   refine{_,_,Y,Y,_,Y,?_};refine aG (λh2=>?_) λh2=>?_
   ·have h2:¬(xs.length:Int)≤12:=by simpa using h2
    rw[←m λe=>h2 ()];exact k0
   ·have h2:(xs.length:Int)≤12:=by simpa using h2
    have J:xs.length≤sizeLine:=qj (aC ());refine{a,Y,{_,aI.of h},tK J (λi ys H'=>ag H H'/\ys=(ds.take i).map λd=>V.bl (fE ws d)) {ag.refl H,Y} (λi ys H' q=>aI.of (q.1 _ _ h)) (λi x ys H' K1 S J ⟨f,D⟩ k1 k2=>?_) λH' q ys ⟨f,D⟩ _ Z=>?_}
    ·obtain⟨d,z,td⟩:=t.at J
     refine aB (B:=S H') ?_;exact{_,_,_,d,Y,md.same f,hw.mono f,td.same f,λH2 I=>k1 _ _ {f.trans I,by rw[Bz z,D]}}
    ·refine{q,ds.map (fE ws),Y,au.of (by rw[aN,D,t.len,va,zq];rfl),?_}
     have e:gP ws (.tup ds)=((ds.map (fE ws)).all id&&decide ((ds.map oj).Nodup)):=by
      show(decide (1≤ds.length/\ds.length≤12)&&_)=_;rw[qs {(),()},wy];rfl
     have r:=f.up (o:=.lst ys) Z;refine{_,Y,?_};refine aG (λb=>?_) λb=>?_
     ·have b:(ds.map (fE ws)).all id=false:=by simpa using b
      rw[b,wz]at e;rw[←e];exact k _ r
     ·have b:(ds.map (fE ws)).all id=true:=by simpa using b
      rw[b,zu]at e
      have G:ds.all (fE ws)=true:=by rw[wy]at b;exact b
      refine rL.mk a xs (ds.map oj) rfl (r _ _ h) (by rw[qf];exact hl) (λi y ks O C=>?_) (by rw[qf];omega) λR H2 U I C=>?_
      ·obtain⟨d,z,td⟩:=t.at O
       rw[zj,z]at C;cases C;exact HN (td.same r) (zk.mp G d (qx z))
      ·have L:=r.trans I
       have j:=H_ (ds.map oj);have c:=OD (ds.map oj);rw[qf]at j c;refine{R,_,Y,(),C,?_};refine{a,_,Y,.inr (aI.of (L _ _ h)),Y,?_}
       have X:decide (V.int ((pb (ds.map oj)).length:Int)=V.int (xs.length:Int))=gP ws (.tup ds):=by
        rw[e,hl];exact decide_eq_decide.mpr {λe=>c.mp (Int.ofNat.inj (V.int.inj e)),λe=>congrArg (λn:Nat=>V.int (n:Int)) (c.mpr e)}
       rw[X];exact k _ L
  ·have h1:¬(1:Int)≤(xs.length:Int):=by simpa using h1
   refine{_,Y,aB ?_};rw[←m λe=>h1 ()];exact k0
 |_=>exact{_,Y,aB (aB k0)}
def Bh(T:Txt K mg tk)(F:FO K mg "read_sign" tV)(n:tR P w K mg base)(o:iA P w K mg base):zV P w K mg base:=by
 refine fI F BX (hJ λ_=>rfl) (λ_ _ _ _ h=>gU h) λO L A outer s H vs Q E D h=>?_
 refine{_,(ak (ax (cI (bm PySem.F.plainAttrs_str PySem.F.slot_str_startswith PySem.F.type_str_startswith K8 (na 0) (a1 ah))) (ao (av (bF (a2 ah (iW o cV D (a1 (aX jW (na 0) (aV ai) aZ))))))) aO)
   (ak (ax (cI (bm PySem.F.plainAttrs_str PySem.F.slot_str_startswith PySem.F.type_str_startswith K8 (na 0) (a1 ah))) (ao (av (bF (a2 ah (iW n cV D (a1 (aX jW (na 0) (aV ai) aZ))))))) aO)
   (ao (av (nu (ck aR (na 0) ah) ah (na 0)))))),?_}
 obtain⟨z,rfl,J,x,hl,k,I⟩:=h
 have g:("*":Str)=⟨#[42]⟩:=∅
 have p:("#":Str)=⟨#[35]⟩:=∅
 have G:z.length≤sizeLine:=pz ()
 by_cases hs:∃y,z=(⟨#[42]⟩:Str)++y
 ·obtain⟨y,rfl⟩:=hs
  have m:Txt.startswith ((⟨#[42]⟩:Str)++y) "*"=true:=by rw[g,ui];rfl
  refine{Y,_,_,Y,Y,?_};rw[m];refine{_,Y,aB ?_};have i:aJ ((⟨#[42]⟩:Str)++y) (some 1) none=y:=HV 42 y;refine{_,Y,_,Y,G,?_};rw[i];refine{y,Y,J,{qg pL.2 x.len,λc C=>x.lo c (pL.1 c C)},qg pL.2 hl,λds v H1 p1 f t1=>?_,λno H1 f=>I (λd h=>?_) _ f}
  rotate_left
  ·cases h with
   |qJ h e=>have:=mm e;first|exact no _ ⟨Y,this.2▸h⟩|exact absurd this.1 ⋯
   |ref h e=>have:=mm e;first|exact no _ (this.2▸h)|exact absurd this.1 ⋯
   |txt h1 h2=>first|exact h1 _ rfl|exact h2 _ rfl
  refine⟨qj (aC (ze rfl)),λq H2 N r B=>?_⟩;obtain⟨rfl,hw⟩:=p1;exact k _ _ _ (.qJ hw rfl) (f.trans r) (.tup B (.cons (.str _) (.cons (t1.same r) .nil)))
 by_cases j:∃y,z=(⟨#[35]⟩:Str)++y
 ·obtain⟨y,rfl⟩:=j
  have m:Txt.startswith ((⟨#[35]⟩:Str)++y) "*"=false:=by rw[g,ui];rfl
  have M:Txt.startswith ((⟨#[35]⟩:Str)++y) "#"=true:=by rw[p,ui];rfl
  refine{Y,_,_,Y,Y,?_};rw[m];refine{_,Y,aD ?_};refine{Y,_,_,Y,Y,?_};rw[M];refine{_,Y,aB ?_};have i:aJ ((⟨#[35]⟩:Str)++y) (some 1) none=y:=HV 35 y;refine{_,Y,_,Y,G,?_};rw[i];refine{y,Y,J,{qg pL.2 x.len,λc C=>x.lo c (pL.1 c C)},qg pL.2 hl,λds v H1 p1 f t1=>?_,λno H1 f=>I (λd h=>?_) _ f}
  rotate_left
  ·cases h with
   |qJ h e=>have:=mm e;first|exact no _ ⟨Y,this.2▸h⟩|exact absurd this.1 ⋯
   |ref h e=>have:=mm e;first|exact no _ (this.2▸h)|exact absurd this.1 ⋯
   |txt h1 h2=>first|exact h1 _ rfl|exact h2 _ rfl
  refine⟨qj (aC (ze rfl)),λq H2 N r B=>?_⟩;exact k _ _ _ (.ref p1 rfl) (f.trans r) (.tup B (.cons (.str _) (.cons (t1.same r) .nil)))
 have n1:∀y,z≠(⟨#[42]⟩:Str)++y:=λy e=>hs {y,e};have n2:∀y,z≠(⟨#[35]⟩:Str)++y:=λy e=>j {y,e}
 have m:Txt.startswith z "*"=false:=by
  rcases HB z with rfl|⟨a,y,rfl⟩
  ·decide +kernel
  ·rw[g,ui];exact decide_eq_false λe=>n1 y (by rw[e])
 have i:Txt.startswith z "#"=false:=by
  rcases HB z with rfl|⟨a,y,rfl⟩
  ·decide +kernel
  ·rw[p,ui];exact decide_eq_false λe=>n2 y (by rw[e])
 refine{Y,_,_,Y,Y,?_};rw[m];refine{_,Y,aD ?_};refine{Y,_,_,Y,Y,?_};rw[i];refine{_,Y,aD ?_};refine{Y,_,Y,?_};have b:=k _ (.str (if z=("_":Str) then " " else z)) H (.txt n1 n2) (ag.refl H) (.str _)
 by_cases t:z=("_":Str)
 ·refine uY t ?_
  rw[q0 t]at b;exact b
 ·refine wX (decide_eq_false t) ?_
  rw[qq t]at b;exact b
def Gp(T:Txt K mg tk)(F:FO K mg "_law_what_of_signs" si)(B:mn P w K mg base)(x:mW P w K mg base)(r:oB P w K mg base)(D:zI P w K mg base)(t:yZ P w K mg base):yT P w K mg base:=by
 refine aH F wQ (G1 λ_ _ _=>rfl) {} λfa cdv A outer s H vs Q E q h=>?_
 refine{_,(ak (sn wQ.nd 3 (cl x q (a2 (xl (vv 1)) (vv 2))))
   (ak (sn wQ.nd 4 (cl B q (a2 (xl (vv 1)) (vv 2))))
   (ak (sn wQ.nd 5 (xa (aA (a2 gK (cl r q (a2 (ae dX (xl (vv 1)) ai) (vv 2))))) (cy mR T.gF boot_int (a1 (ce iz (ae b' (xl (vv 1)) ai) ai)))))
   (ak (ax (ck aR (vv 0) ai) (ao (av (bF (a2 ah (vv 3))))) aO)
   (ak (ax (ck aR (vv 0) ai) (ao (av (bF (ac ah (a2 (vv 4) (vv 3)))))) aO)
   (ak (ax (ck aR (vv 0) ai) (ao (av (bF (a2 ah (vv 4))))) aO)
   (ak (ax (ck aR (vv 0) ai) (ao (av (bF (ac ah (ac (vv 3) (a2 (vv 5) (cl t q (a2 (aX bG (vv 1) (aV ai) aZ) (vv 2))))))))) aO)
   (ak (ax (ck aR (vv 0) ai) (ao (av (bF (ac ah (a2 (vv 3) (cl D q (a2 (aX bG (vv 1) (aV ai) aZ) (vv 2)))))))) aO)
   (ao (av (bF (a1 ah)))))))))))),?_}
 obtain⟨i,dd,p,ws,ns,rfl,d,a,k⟩:=h;obtain⟨a0,h0⟩:=a.get 0 ⋯;obtain⟨a1,h1⟩:=a.get 1 ⋯;have s:=ag.refl H;refine{_,Y,dd,_,0,.int a0,Y,Y,au.of a.at',h0,_,Y,_,p,ws,Y,d,λH1 v1 d1 U n1 t1=>?_};obtain⟨pd,rfl,g⟩:=t1;replace d:=d.mono U;replace a:=a.mono U;replace s:=s.trans U;refine{_,Y,dd,_,1,.int a1,Y,Y,au.of a.at',h1,_,Y,_,p,ws,Y,d,λH2 v2 d2 J n2 t2=>?_};obtain⟨nd,rfl,C⟩:=t2;replace d:=d.mono J;replace a:=a.mono J;replace n1:=n1.same J;replace s:=s.trans J;refine{_,Y,dd,_,1,.int a1,Y,Y,au.of a.at',h1,_,_,Y,Y,{⋯,⋯},_,Y,_,p,ws,Y,d,λH3 v3 d3 z W t3=>?_};obtain⟨sd,rfl,X⟩:=t3;replace d:=d.mono z;replace a:=a.mono z;replace n1:=n1.same z;replace n2:=n2.same z;replace s:=s.trans z;refine{ar rfl,λq4 H4 g4 m e4=>?_};replace d:=d.mono m;replace a:=a.mono m;replace n1:=n1.same m;replace n2:=n2.same m;replace W:=W.same m;replace s:=s.trans m;refine{_,Y,dd,_,1,.int a1,Y,Y,au.of a.at',h1,_,_,Y,Y,(by show(0:Int)<3;decide),_,_,Y,Y,.inr {_,Y,?_}};refine{q4,_,_,Y,Y,au.of e4,uv _,rW _,λv hv=>?_}
 have R:∃b,DT H4 v b/\GX (nh ws) b:=by
  simp only[List.mem_cons,List.not_mem_nil,or_false]at hv
  rcases hv with rfl|rfl
  ·exact⟨_,.a',.inl rfl⟩
  ·exact⟨_,W,.inr ⟨_,Y,X⟩⟩
 obtain⟨b,db,R⟩:=R;refine{_,Y,Y,_,Y,?_};refine aG (λ_=>{_,Y,ar rfl,λI e G c f=>k e _ _ (s.trans c) (.tup f (.cons (.str _) (.cons (n1.same c) .nil))) λnum=>.part _ g}) λ_=>?_;refine{_,Y,Y,_,Y,?_};refine aG (λ_=>{_,Y,_,Y,ar rfl,λI e G c f=>k e _ _ (s.trans c) (.tup f (.cons (.str _) (.cons (n2.same c) (.cons (n1.same c) .nil)))) λnum=>.move _ _ C g}) λ_=>?_;refine{_,Y,Y,_,Y,?_};refine aG (λ_=>{_,Y,ar rfl,λI e G c f=>k e _ _ (s.trans c) (.tup f (.cons (.str _) (.cons (n2.same c) .nil))) λnum=>.cut _ C}) λ_=>?_;refine{_,Y,Y,_,Y,?_};refine aG (λ_=>?_) λ_=>?_
 ·refine{_,Y,_,Y,_,Y,_,Y,dd,_,Y,au.of a.at',λS H5 g5 y j=>?_}
  refine{_,Y,S,p,ws,_,Y,d.mono y,{(a.from 2 ⋯ j).at',by have:=(a.from 2 ⋯ j).len;omega,(a.from 2 ⋯ j).bg},λH6 v6 sg V Z L O N=>?_};refine{ar rfl,λI e G c f=>?_};have n:=(y.trans V).trans c;exact k e _ _ (s.trans n) (.tup f (.cons (.str _) (.cons (n1.same n) (.cons (db.same n) (.cons (Z.same c) .nil))))) λnum=>.put _ _ _ g R L O N
 refine{_,Y,Y,_,Y,?_};refine aG (λ_=>?_) λ_=>?_
 ·refine{_,Y,_,Y,_,Y,dd,_,Y,au.of a.at',λS H5 g5 y j=>?_}
  refine{_,Y,S,p,ws,_,Y,d.mono y,{(a.from 1 ⋯ j).at',by have:=(a.from 1 ⋯ j).len;omega,(a.from 1 ⋯ j).bg},λH6 v6 nn V Z L O M o=>?_};refine{ar rfl,λI e G c f=>?_};have n:=(y.trans V).trans c;exact k e _ _ (s.trans n) (.tup f (.cons (.str _) (.cons (n1.same n) (.cons (Z.same c) .nil)))) λnum=>.out _ _ g L O M o
 ·exact{ar rfl,λI e G c f=>k e _ _ (s.trans c) (.tup f (.cons (.str _) .nil)) λnum=>.nothing}
def Ec(T:Txt K mg tk)(F:FO K mg "is_signs" oH)(c:xf P w K mg base):xp P w K mg base:=by
 refine aH F Ax (fF λ_ _=>rfl) (λ_ _ _ _ h=>eX h) λI D A outer s H vs Q E n h=>?_
 refine{_,(ak (ax (PW.pt (eD (cY (cI (cb gN T.aw boot_isinstance (a2 (na 1) (gC (v:=.ty "tuple") (by rfl) T.cx boot_tuple rfl))))) (iw (cY (uU gH gH ai (cb eu T.bT boot_len (a1 (na 1))) (fi (v:=.int 12) (by rfl) T.gR {_,Y})))))) (ao (av cB)) aO)
   (ao (av (cb (pU rfl) T.kX boot_all (a1 (A0 (af oH) xJ [("roll",0)] (iu (na 1)) (λ_ _ _=>dn) (λ_ _ _=>(cl c n (a2 (nc 1) (na 0)))))))))),?_}
 obtain⟨p,ws,v,d,rfl,y,hw,m,k⟩:=h;refine{_,"tuple",_,Y,Y,m.tH ⋯ ⋯,?_};have k0:=k H (ag.refl H)
 cases m with
 |@tup a xs ds h t =>
  refine{_,Y,aD ?_};refine{a,_,Y,.inr (aI.of h),_,_,Y,Y,_,Y,?_}
  have f:¬(1≤ds.length/\ds.length≤12)->dF ws (.tup ds)=false:=λh=>by
   show(decide _&&_)=_;rw[decide_eq_false h];rfl
  have hl:=t.len;refine aG (λh1=>?_) λh1=>?_
  ·have h1:(1:Int)≤(xs.length:Int):=qB h1
   refine{_,_,Y,Y,_,Y,?_};refine aG (λh2=>?_) λh2=>?_
   ·have h2:¬(xs.length:Int)≤12:=by simpa using h2
    rw[←f λe=>h2 ()];exact k0
   ·have h2:(xs.length:Int)≤12:=by simpa using h2
    have j:xs.length≤sizeLine:=qj (aC ());refine{a,Y,{_,aI.of h},tK j (λi ys H'=>ag H H'/\ys=(ds.take i).map λd=>V.bl (eI ws d)) {ag.refl H,Y} (λi ys H' q=>aI.of (q.1 _ _ h)) (λi x ys H' G C j ⟨b,g⟩ k1 k2=>?_) λH' q ys ⟨b,g⟩ _ o=>?_}
    ·obtain⟨d,z,td⟩:=t.at j
     refine aB (B:=C H') ?_;exact{_,_,_,d,Y,y.same b,hw.mono b,td.same b,λH2 r=>k1 _ _ {b.trans r,by rw[Bz z,g]}}
    ·refine{q,ds.map (eI ws),Y,au.of (by rw[aN,g,t.len,va,zq];rfl),?_}
     have e:dF ws (.tup ds)=(ds.map (eI ws)).all id:=by
      show(decide (1≤ds.length/\ds.length≤12)&&_)=_;rw[qs {(),()},wy];rfl
     rw[←e];exact k _ (b.up o)
  ·have h1:¬(1:Int)≤(xs.length:Int):=by simpa using h1
   refine{_,Y,aB ?_};rw[←f λe=>h1 ()];exact k0
 |_=>exact{_,Y,aB (aB k0)}
def DU(T:Txt K mg tk)(F:FO K mg "read_listed" tQ)(r:zV P w K mg base)(D:om P w K mg base):xn P w K mg base:=by
 refine fI F Cz (fF λ_ _=>rfl) {} λfa cdv A outer s H vs Q E X h=>?_
 refine{_,(ak (ax (ck aR (na 0) ah) (ao (av (aA (a1 (cy lX T.cx boot_tuple (a1 (vE (il (na 1)) (λ_ _ _ _=>dn) (λ_ _ _ _ a=>(iW r a X (a1 (na 0))))))))))) aO)
   (ak (ax (ck aR (na 0) ah) (ao (av (aA (a1 (cy lX T.cx boot_tuple (a1 (vE (il (na 1)) (λ_ _ _ _=>dn) (λ_ _ _ _ a=>(iW D a X (a1 (na 0))))))))))) aO)
   (ak (ax (ck iz (cb eu T.bT boot_len (a1 (na 1))) ai) (ao (j' T.bZ T.b0 (a1 (N8 (na 0))))) aO)
   (ao (av (aA kQ)))))),?_}
 obtain⟨k0,p,ys,rfl,Z,sh,G,hw,k,W⟩:=h;refine{Y,_,Y,?_}
 by_cases h1:k0=("put":Str)
 ·refine uY h1 ?_
  refine{p,Y,{_,au.of G},mM (xs:=ys.map V.str) (by rw[qf];exact pz hw.bg) (λi xs H'=>ag H H'/\∃ds,F2 fm ds (ys.take i)/\c8 H' xs ds) {ag.refl _,[],.nil,.nil} (λi xs H' q=>au.of (q.1 _ _ G)) (λi x xs H' K1 U a ⟨f,ds,g,m⟩ k1 k2=>?_) λH2 q xs ⟨f,ds,g,m⟩ _ L=>?_}
  ·rw[zj]at a
   cases e:ys[i]? with
   |none=>rw[e]at a;exact nomatch a
   |some w =>
    rw[e]at a;have a:V.str w=x:=qD a;subst a;have t:=hw.DD w (qx e);refine aB (B:=U H') ?_;refine{w,Y,Z.same f,t.1,t.2,λd v n R b O=>?_,λno n b=>W (λes h=>?_) _ (f.trans b)}
    ·exact k1 _ _ {f.trans b,ds++[d],by rw[vd,e];exact g.snoc R,(m.same b).snoc O}
    ·cases h with
     |put _ h=>obtain⟨d',_,S⟩:=h.at e;exact no d' S
     |out I _ _=>exact I h1
     |no I _=>exact I h1
  ·rw[qf,va]at g
   refine{q,_,Y,au.of aN,λl n hl b z=>?_};refine{qj (aC (ze rfl)),λJ H4 c j N=>?_};have M:=(f.up (o:=.lst xs) L).trans b;exact k _ J _ _ (.put h1 g) (M.Ni c) (M.trans j) N (.cons (.tup (j _ _ z) ((m.same (ag.new L)).same (b.trans j))) .nil)
 refine wX (decide_eq_false h1) ?_;refine{Y,_,Y,?_}
 by_cases h2:k0=("out":Str)
 ·refine uY h2 ?_
  refine{p,Y,{_,au.of G},mM (xs:=ys.map V.str) (by rw[qf];exact pz hw.bg) (λi xs H'=>ag H H'/\∃ds,F2 dH ds (ys.take i)/\c8 H' xs ds) {ag.refl _,[],.nil,.nil} (λi xs H' q=>au.of (q.1 _ _ G)) (λi x xs H' K1 U a ⟨f,ds,g,m⟩ k1 k2=>?_) λH2 q xs ⟨f,ds,g,m⟩ _ L=>?_}
  ·rw[zj]at a
   cases e:ys[i]? with
   |none=>rw[e]at a;exact nomatch a
   |some w =>
    rw[e]at a;have a:V.str w=x:=qD a;subst a;have t:=hw.DD w (qx e);refine aB (B:=U H') ?_;refine{w,Y,Z.same f,t.1,t.2,λd v n R b O=>?_,λno n b=>W (λes h=>?_) _ (f.trans b)}
    ·exact k1 _ _ {f.trans b,ds++[d],by rw[vd,e];exact g.snoc R,(m.same b).snoc O}
    ·cases h with
     |put C _=>exact h1 C
     |out _ _ h=>obtain⟨d',_,S⟩:=h.at e;exact no d' S
     |no _ I=>exact I h2
  ·rw[qf,va]at g
   refine{q,_,Y,au.of aN,λl n hl b z=>?_};refine{qj (aC (ze rfl)),λJ H4 c j N=>?_};have M:=(f.up (o:=.lst xs) L).trans b;exact k _ J _ _ (.out h1 h2 g) (M.Ni c) (M.trans j) N (.cons (.tup (j _ _ z) ((m.same (ag.new L)).same (b.trans j))) .nil)
 refine wX (decide_eq_false h2) ?_;refine{p,_,Y,.inl (au.of G),_,_,Y,Y,_,Y,?_}
 cases ys with
 |nil =>
  refine aD ?_;refine{qj (aC (ze rfl)),λJ n c b z=>?_};exact k _ J _ _ (.no h1 h2) c b z .nil
 |cons y ys =>
  refine aG (λ_=>?_) λhn=>absurd (qs (by rw[qf,zi];omega)) hn
  refine{k0,Y,sh,λv=>{qj (aC (ze rfl)),W (λes h=>?_) _ (ag.refl H)}}
  cases h with
  |put C _=>exact h1 C
  |out _ C _=>exact h2 C
def Bv(T:Txt K mg tk)(F:FO K mg "_law_what" sY)(gfBy:mW P w K mg base)(gfAf:yS P w K mg base)(gfAd:yT P w K mg base)(gfBs:kW P w K mg base):yr P w K mg base:=by
 refine aH F uZ (G1 λ_ _ _=>rfl) {} λfa cdv A outer s H vs Q E hr h=>?_
 refine{_,(ak (sn uZ.nd 3 (ae b' (xl (vv 0)) ai))
   (ak (sn uZ.nd 4 (aX bG (vv 0) (aV ai) aZ))
   (ak (ax (ck lA (vv 3) ai) (ao (av (cl gfAd hr (ac (vv 3) (a2 (vv 4) (vv 1)))))) aO)
   (ak (ax (ck lA (vv 3) ai) (ao (av (cl gfAf hr (ac (vv 3) (a2 (vv 4) (vv 1)))))) aO)
   (ak (ax (ck aR (vv 3) ai) (ak (sn uZ.nd 5 (xa (aA (ac ah (ac ah (a2 ah ah)))) (ae b' (xl (vv 4)) ai)))
   (ao (av (bF (ac ah (ac (cl gfBy hr (a2 (xl (vv 4)) (vv 1))) (ac (xa (vv 1) (ae b' (xl (vv 4)) (cb eu T.bT boot_len (a1 (vv 1))))) (a2 (vv 5) (ce aR (ae b' (xl (vv 4)) ai) ai))))))))) aO)
   (ak (ax (PW.pt (wV (ck lA (vv 3) ai) (wR (ck iz (vv 2) ai)))) (ao (av (bF (a2 (xa (aA (a2 ah ah)) (ae ny (vv 3) ai)) (ae er ai (ae b' (xl (vv 4)) (ae ny (vv 2) ai))))))) aO)
   (ak (ax (PW.pt (eD (ck aR (vv 3) ai) (iw (ck aR (vv 3) ai)))) (ao (av (bF (a2 (xa (aA (a2 ah ah)) (ae ny (vv 3) ai)) (cl gfBs hr (a1 (xl (vv 4)))))))) aO)
   (ak (ax (ck aR (vv 3) ai) (ao (av (bF (a2 ah (cy lX T.cx boot_tuple (a1 (rm (il (aX bG (vv 4) aZ (aV (cb eu T.bT boot_len (a1 (vv 1)))))) (λ_ _ _=>dn) (λ_ _ _=>(ae b' (vv 0) (xa (aA (a2 ai (ae er (ae oK ai ai) ai))) (ae b' (ae dX (vv 0) ai) ai))))))))))) aO)
   (ao (av (bF (a1 ah)))))))))))),?_}
 obtain⟨d0,p,ws,W,num,rfl,b,L,k⟩:=h;obtain⟨g,g0⟩:=L.get 0 ⋯;refine{_,Y,d0,_,0,.int g,Y,Y,au.of L.at',g0,_,_,Y,Y,(by show(0:Int)<17;decide),?_};refine{_,Y,_,Y,d0,_,Y,au.of L.at',λdd H1 g1 s e1=>?_};replace b:=b.mono s;have a:=L.from 1 ⋯ e1;have hd6:DR H1 dd (W.drop 1) 6:={a.at',by have:=a.len;omega,a.bg};obtain⟨a0,X⟩:=a.get 0 ⋯;obtain⟨a1,h1⟩:=a.get 1 ⋯;obtain⟨a2,h2⟩:=a.get 2 ⋯;obtain⟨a3,h3⟩:=a.get 3 ⋯;refine{_,Y,_,_,Y,Y,_,Y,?_};refine aG (λ_=>?_) λc1=>?_
 ·exact{_,Y,_,Y,_,Y,_,dd,p,ws,_,Y,b,hd6,λe v9 w9 d d9 h9=>k e _ _ (s.trans d) d9 (h9 _)}
 refine{_,Y,_,_,Y,Y,_,Y,?_};refine aG (λ_=>?_) λc2=>?_
 ·exact{_,Y,_,Y,_,Y,_,dd,p,ws,_,Y,b,hd6,λe v9 w9 d d9 h9=>k e _ _ (s.trans d) d9 (h9 _)}
 refine{_,Y,Y,_,Y,?_};refine aG (λ_=>?_) λc3=>?_
 ·refine{ar rfl,λD H2 Z f G=>?_}
  replace b:=b.mono f;replace a:=a.mono f;replace s:=s.trans f;refine{_,Y,dd,_,2,.int a2,Y,Y,au.of a.at',h2,_,_,Y,Y,(by show(0:Int)<4;decide),D,_,_,Y,Y,au.of G,dE _ ⋯,dQ _ ⋯,λv r=>?_}
  obtain⟨z,rfl,C⟩:∃z:Str,v=.str z/\z∈(["read","note","write","give"]:List Str):=by
   obtain⟨z,C,rfl⟩:=qk.mp (show v∈(["read","note","write","give"]:List Str).map V.str from r);exact{z,Y,C}
  refine{_,Y,dd,_,0,.int a0,Y,Y,au.of a.at',X,_,Y,_,p,ws,Y,b,λH3 v3 d3 U n3 t3=>?_};obtain⟨pd,rfl,hpd⟩:=t3;replace b:=b.mono U;replace a:=a.mono U;replace s:=s.trans U;refine{_,Y,_,Y,dd,_,1,.int a1,Y,Y,au.of a.at',h1,_,Y,p,_,Y,.inl (au.of b.at'),_,_,Y,Y,b.len.1,p,_,_,Y,Y,au.of b.at',dE _ b.len.1,dQ _ b.len.1,λv2 hv2=>?_};obtain⟨w,hw,rfl⟩:=qk.mp hv2;exact{_,Y,_,Y,dd,_,3,.int a3,Y,Y,au.of a.at',h3,_,_,Y,Y,(by show(0:Int)<2;decide),Y,ar rfl,λN e M d o=>k e _ _ (s.trans d) (.tup o (.cons (.str _) (.cons (n3.same d) (.cons (.str w) (.cons (.str z) (.cons (.bl _) .nil)))))) (.leave _ _ _ _ hpd hw C)}
 have hk:(0:Int)≤g % 17/\g % 17<17:={dE _ ⋯,dQ _ ⋯};have c2:¬g % 17<11:=λz=>c2 (qs z)
 have c3:¬g % 17=11:=λz=>c3 (by rw[decide_eq_true_eq];exact congrArg V.int z)
 refine{_,Y,_,_,Y,Y,_,Y,?_};refine aG (λc4=>?_) λc4=>aD ?_
 ·have c4:g % 17<14:=qB c4
  refine{_,Y,_,_,Y,Y,_,Y,?_};refine aG (λc5=>?_) λc5=>?_
  ·have c5:1<num:=qB c5
   refine{ar rfl,λD H2 Z f G=>?_};replace b:=b.mono f;replace a:=a.mono f;replace s:=s.trans f;refine{_,Y,_,_,Y,Y,D,_,_,Y,Y,au.of G,(by show 0≤g % 17 - 12;omega),(by show g % 17 - 12<2;omega),λv r=>?_}
   obtain⟨kk,rfl,i⟩:∃z:Str,v=.str z/\(z = "back" \/ z = "again"):=by
    simp only[List.mem_cons,List.not_mem_nil,or_false]at r
    rcases r with rfl|rfl
    ·exact⟨_,Y,.inl rfl⟩
    ·exact⟨_,Y,.inr rfl⟩
   have lo:=dE a0 (m:=num - 1) ();have hi:=dQ a0 (m:=num - 1) ();exact{_,Y,dd,_,0,.int a0,Y,Y,au.of a.at',X,_,Y,_,_,Y,Y,_,_,Y,Y,(by show 0<num - 1;omega),_,_,Y,Y,ar rfl,λN e M d o=>k e _ _ (s.trans d) (.tup o (.cons (.str _) (.cons (.int _) .nil))) (.back _ _ i (by show 1≤1+a0 % (num - 1);omega) (by show 1+a0 % (num - 1)<num;omega))}
  ·refine{_,Y,Y,_,Y,?_}
   refine aG (λR=>?_) λR=>?_
   ·have R:g % 17=14:=V.int.inj (qB R)
    refine aB ?_;refine{ar rfl,λD H2 Z f G=>?_};replace b:=b.mono f;replace a:=a.mono f;replace s:=s.trans f;refine{_,Y,_,_,Y,Y,D,_,_,Y,Y,au.of G,(by show 0≤g % 17 - 14;omega),(by show g % 17 - 14<2;omega),λv r=>?_}
    obtain⟨kk,rfl,i⟩:∃z:Str,v=.str z/\(z = "bring" \/ z = "drop"):=by
     simp only[List.mem_cons,List.not_mem_nil,or_false]at r
     rcases r with rfl|rfl
     ·exact⟨_,Y,.inl rfl⟩
     ·exact⟨_,Y,.inr rfl⟩
    exact⟨_,Y,dd,_,0,.int a0,Y,Y,au.of a.at',X,_,Y,λz C=>⟨ar rfl,λN e M d o=>k e _ _ (s.trans d) (.tup o (.cons (.str _) (.cons (.str z) .nil))) (.jF _ _ i C)⟩⟩
   ·refine⟨_,Y,Y,_,Y,?_⟩
    refine aG (λO=>?_) λO=>?_
    ·have O:g % 17=15:=V.int.inj (qB O)
     refine{ar rfl,λD H2 Z f G=>?_};replace b:=b.mono f;replace a:=a.mono f;replace s:=s.trans f;refine{_,Y,_,_,Y,Y,D,_,_,Y,Y,au.of G,(by show 0≤g % 17 - 14;omega),(by show g % 17 - 14<2;omega),λv r=>?_}
     obtain⟨kk,rfl,i⟩:∃z:Str,v=.str z/\(z = "bring" \/ z = "drop"):=by
      simp only[List.mem_cons,List.not_mem_nil,or_false]at r
      rcases r with rfl|rfl
      ·exact⟨_,Y,.inl rfl⟩
      ·exact⟨_,Y,.inr rfl⟩
     exact⟨_,Y,dd,_,0,.int a0,Y,Y,au.of a.at',X,_,Y,λz C=>⟨ar rfl,λN e M d o=>k e _ _ (s.trans d) (.tup o (.cons (.str _) (.cons (.str z) .nil))) (.jF _ _ i C)⟩⟩
    ·refine⟨_,Y,Y,_,Y,?_⟩
     refine aG (λ_=>?_) λ_=>?_
     ·refine{_,Y,_,Y,p,_,Y,.inl (au.of b.at'),_,Y,dd,_,Y,au.of a.at',λq3 H3 g3 U e3=>?_}
      have hcut:(bR (List.map V.int (W.drop 1)) none (some ((ws.map V.str).length:Int))).length=ws.length:=by
       rw[Nk (by have:=a.len;have:=b.bg;rw[qf,qf];omega),qf]
      have h6:=b.bg;refine{q3,Y,{_,au.of e3},mM (qj (aC ())) (λj ys H'=>ag H3 H'/\∃cs:List Int,ys=cs.map V.int/\cs.length=j/\∀c∈cs,0≤c/\c≤1000000) {ag.refl _,[],Y,Y,λ_ z=>nomatch z} (λ_ _ H' s'=>au.of (s'.1 _ _ e3)) (λj x ys H' K1 K0 hx s' k1 k0=>?_) λH' q ys s' hy hq=>?_}
      ·obtain⟨m,rfl⟩:=rR (qx hx)
       obtain⟨s',cs,rfl,J,t⟩:=s';refine aB (B:=K0 H') ?_;refine{_,Y,_,_,Y,Y,{⋯,⋯,⋯},_,_,Y,Y,ar rfl,λq4 H4 g4 s4 e4=>?_};refine{_,Y,_,_,Y,Y,{⋯,⋯},_,_,Y,Y,(by show(0:Int)<2;decide),q4,_,_,Y,Y,au.of e4,dE _ ⋯,dQ _ ⋯,λm2 y=>?_}
       obtain⟨n,rfl,S,hn2⟩:∃n,m2=V.int n/\0<n/\n≤1000001:=by
        simp only[List.mem_cons,List.not_mem_nil,or_false]at y
        rcases y with rfl|rfl
        ·exact⟨9,Y,⋯,⋯⟩
        ·exact⟨_,Y,⋯,⋯⟩
       refine⟨_,_,Y,Y,S,k1 _ H4 ⟨s'.trans s4,cs++[m % n],by rw[zm];rfl,by rw[qu,zy,J],λc I=>?_⟩⟩;rcases zf.mp I with I|I
       ·exact t c I
       ·rw[zh.mp I]
        exact⟨dE _ S,by have:=dQ m S;omega⟩
      ·obtain⟨s',cs,rfl,J,t⟩:=s'
       exact{q,_,Y,au.of aN,λl H5 g5 s5 e5=>{ar rfl,λN e M d o=>k e _ _ ((s.trans (((U.trans s').up hq).trans s5)).trans d) (.tup o (.cons (.str _) (.cons (.tup (d _ _ e5) (L2.ib _ cs)) .nil))) (.lO cs () t)}}
     ·exact{ar rfl,λN e M d o=>k e _ _ (s.trans d) (.tup o (.cons (.str _) .nil)) .nothing}
 ·refine{_,Y,Y,_,Y,?_}
  refine aG (λR=>?_) λR=>?_
  ·have R:g % 17=14:=V.int.inj (qB R)
   refine aB ?_;refine{ar rfl,λD H2 Z f G=>?_};replace b:=b.mono f;replace a:=a.mono f;replace s:=s.trans f;refine{_,Y,_,_,Y,Y,D,_,_,Y,Y,au.of G,(by show 0≤g % 17 - 14;omega),(by show g % 17 - 14<2;omega),λv r=>?_}
   obtain⟨kk,rfl,i⟩:∃z:Str,v=.str z/\(z = "bring" \/ z = "drop"):=by
    simp only[List.mem_cons,List.not_mem_nil,or_false]at r
    rcases r with rfl|rfl
    ·exact⟨_,Y,.inl rfl⟩
    ·exact⟨_,Y,.inr rfl⟩
   exact⟨_,Y,dd,_,0,.int a0,Y,Y,au.of a.at',X,_,Y,λz C=>⟨ar rfl,λN e M d o=>k e _ _ (s.trans d) (.tup o (.cons (.str _) (.cons (.str z) .nil))) (.jF _ _ i C)⟩⟩
  ·refine⟨_,Y,Y,_,Y,?_⟩
   refine aG (λO=>?_) λO=>?_
   ·have O:g % 17=15:=V.int.inj (qB O)
    refine{ar rfl,λD H2 Z f G=>?_};replace b:=b.mono f;replace a:=a.mono f;replace s:=s.trans f;refine{_,Y,_,_,Y,Y,D,_,_,Y,Y,au.of G,(by show 0≤g % 17 - 14;omega),(by show g % 17 - 14<2;omega),λv r=>?_}
    obtain⟨kk,rfl,i⟩:∃z:Str,v=.str z/\(z = "bring" \/ z = "drop"):=by
     simp only[List.mem_cons,List.not_mem_nil,or_false]at r
     rcases r with rfl|rfl
     ·exact⟨_,Y,.inl rfl⟩
     ·exact⟨_,Y,.inr rfl⟩
    exact⟨_,Y,dd,_,0,.int a0,Y,Y,au.of a.at',X,_,Y,λz C=>⟨ar rfl,λN e M d o=>k e _ _ (s.trans d) (.tup o (.cons (.str _) (.cons (.str z) .nil))) (.jF _ _ i C)⟩⟩
   ·refine⟨_,Y,Y,_,Y,?_⟩
    refine aG (λ_=>?_) λ_=>?_
    ·refine{_,Y,_,Y,p,_,Y,.inl (au.of b.at'),_,Y,dd,_,Y,au.of a.at',λq3 H3 g3 U e3=>?_}
     have hcut:(bR (List.map V.int (W.drop 1)) none (some ((ws.map V.str).length:Int))).length=ws.length:=by
      rw[Nk (by have:=a.len;have:=b.bg;rw[qf,qf];omega),qf]
     have h6:=b.bg;refine{q3,Y,{_,au.of e3},mM (qj (aC ())) (λj ys H'=>ag H3 H'/\∃cs:List Int,ys=cs.map V.int/\cs.length=j/\∀c∈cs,0≤c/\c≤1000000) {ag.refl _,[],Y,Y,λ_ z=>nomatch z} (λ_ _ H' s'=>au.of (s'.1 _ _ e3)) (λj x ys H' K1 K0 hx s' k1 k0=>?_) λH' q ys s' hy hq=>?_}
     ·obtain⟨m,rfl⟩:=rR (qx hx)
      obtain⟨s',cs,rfl,J,t⟩:=s';refine aB (B:=K0 H') ?_;refine{_,Y,_,_,Y,Y,{⋯,⋯,⋯},_,_,Y,Y,ar rfl,λq4 H4 g4 s4 e4=>?_};refine{_,Y,_,_,Y,Y,{⋯,⋯},_,_,Y,Y,(by show(0:Int)<2;decide),q4,_,_,Y,Y,au.of e4,dE _ ⋯,dQ _ ⋯,λm2 y=>?_}
      obtain⟨n,rfl,S,hn2⟩:∃n,m2=V.int n/\0<n/\n≤1000001:=by
       simp only[List.mem_cons,List.not_mem_nil,or_false]at y
       rcases y with rfl|rfl
       ·exact⟨9,Y,⋯,⋯⟩
       ·exact⟨_,Y,⋯,⋯⟩
      refine⟨_,_,Y,Y,S,k1 _ H4 ⟨s'.trans s4,cs++[m % n],by rw[zm];rfl,by rw[qu,zy,J],λc I=>?_⟩⟩;rcases zf.mp I with I|I
      ·exact t c I
      ·rw[zh.mp I]
       exact⟨dE _ S,by have:=dQ m S;omega⟩
     ·obtain⟨s',cs,rfl,J,t⟩:=s'
      exact{q,_,Y,au.of aN,λl H5 g5 s5 e5=>{ar rfl,λN e M d o=>k e _ _ ((s.trans (((U.trans s').up hq).trans s5)).trans d) (.tup o (.cons (.str _) (.cons (.tup (d _ _ e5) (L2.ib _ cs)) .nil))) (.lO cs () t)}}
    ·exact{ar rfl,λN e M d o=>k e _ _ (s.trans d) (.tup o (.cons (.str _) .nil)) .nothing}
def DO(T:Txt K mg tk)(F:FO K mg "is_what" oC)(b:uK P w K eG dY)(hF:∀f sp,jC f sp->∃k fd ps,k≤6/\fw P w K mg base p_ k f fd ps sp/\PySem.W.keepIn K (.ref f)=true/\Binds K fd ps []):zS P w K mg base:=by
 refine aH F KH (G1 λ_ _ _=>rfl) {} λI cdv A outer s H vs Q E X h=>?_
 refine{_,(ak (ax (PW.pt (eD (cY (cI (cb gN T.aw boot_isinstance (a2 (na 2) (gC (v:=.ty "tuple") (by rfl) T.cx boot_tuple rfl))))) (iw (ck aR (cb eu T.bT boot_len (a1 (na 2))) ai)))) (ao (av cB)) aO)
   (ak (ax (PW.pt (eD (cY (cI (cb gN T.aw boot_isinstance (a2 (xt (na 2)) (gC (v:=.ty "str") (by rfl) T.eH boot_str rfl))))) (iw (ck (SI b) (xt (na 2)) (fi (v:=.ref eG) rfl T.eG rfl))))) (ao (av cB)) aO)
   (ak (sn KH.nd 3 (fg b T.eG (xt (na 2))))
   (ak (ax (ck jZ (cb eu T.bT boot_len (a1 (na 2))) (ae er (cb eu T.bT boot_len (a1 (na 3))) ai)) (ao (av cB)) aO)
   (ak (ax (cY (cI (cb (pU rfl) T.kX boot_all (a1 (Ds (own:=["form","part"]) (fr:=[("roll",0)]) rfl (OK (by rfl) T.xR (a2 (na 3) (aX pM (na 2) (aV ai) aZ))) {Y,∅,∅} (Aa (af oC) ["roll","number","thing","forms"] rfl rfl (λ_ h=>um h) ∅ ∅ ∅) (λ_ _ _=>(AN (n:=2) rfl (fc (i_ (i:=0) (by show List.Nodup (["form","part","roll"]:List Str);decide +kernel) rfl (Or.inl rfl)) (fc (i_ (i:=1) (by show List.Nodup (["form","part","roll"]:List Str);decide +kernel) rfl (Or.inl rfl)) nF)))) (λ_=>Js rfl rfl ⋯) (λ_ _ _=>dn) (λ_ _ _=>(cv hF X (na 0) (a2 (nc 2) (na 1))))))))) (ao (av cB)) aO)
   (ao (av (fO (ce R7 (xt (na 2)) (bF (a2 ah ah))) (dS (ce lA (xt (na 2)) (na 1))))))))))),?_}
 obtain⟨p,ws,n,v,d,rfl,U,hw,S,k⟩:=h;refine{_,"tuple",_,Y,Y,S.tH ⋯ ⋯,?_};have k0:=k H (ag.refl H)
 cases S with
 |@tup a xs ds h t =>
  refine{_,Y,aD ?_};refine{a,_,Y,.inr (aI.of h),Y,_,Y,?_}
  cases t with
  |nil=>exact aB k0
  |@cons x xs d0 ds tx t =>
   refine aG (λh1=>absurd (V.int.inj (qB h1)) (λe=>by have e:((xs.length+1:Nat):Int)=0:=e;omega)) λ_=>?_;refine{_,_,_,x,Y,Y,aI.of h,fU,?_};refine{_,"str",_,Y,Y,tx.tH ⋯ ⋯,?_}
   cases tx with
   |@str z ty =>
    refine{_,Y,aD ?_};refine{_,_,_,.str z,Y,Y,aI.of h,fU,?_};refine{z,Y,Y,_,Y,?_};have D:=U.SJ z
    cases J:fV dY z with
    |none =>
     rw[J]at D
     have e:bX ws n (.tup (.str z::ds))=false:=by
      show(match cF z with|some fs=>_|none=>false)=false;rw[D]
     refine aB ?_;rw[←e];exact k0
    |some I =>
     rw[J]at D;obtain⟨fs,m,g⟩:=D;refine aD ?_;refine{_,_,_,.str z,Y,Y,aI.of h,fU,?_};refine{z,I,Y,J,?_}
     have hm:bX ws n (.tup (.str z::ds))=(decide (ds.length=fs.length)&&(all2 ws fs ds&&(!decide (z∈(["back","again"]:List Str))||gJ n ds))):=by
      show(match cF z with|some fs=>_|none=>false)=_;rw[m]
     refine{a,_,Y,.inr (aI.of h),I,_,Y,.inr (aI.of g),_,_,Y,Y,Y,_,Y,?_};have hl:=t.len;refine aG (λh1=>?_) λh1=>?_
     ·have h1:¬ds.length=fs.length:=λe=>by simp[hl,e]at h1
      rw[decide_eq_false h1,wz]at hm;rw[←hm];exact k0
     ·have h1:ds.length=fs.length:=by simp[hl]at h1;omega
      rw[qs h1,zu]at hm;refine{_,Y,a,_,Y,aI.of h,Sb,λq hq=>?_};rw[HE];have G:ag H (upd H q (.tup xs)):=(ag.refl H).up hq;refine{I,q,Y,{_,aI.of (G _ _ g)},{_,aI.of (aN ..)},MW (xs:=fs.map λf=>.ref (yL f)) (ys:=xs) (λi zs H'=>ag (upd H q (.tup xs)) H'/\zs=((List.zipWith (l6 ws) fs ds).take i).map V.bl) {ag.refl _,Y} (λi zs H' ⟨s,_⟩=>{aI.of (s _ _ (G _ _ g)),aI.of (s _ _ (aN ..))}) (by rw[qf];exact qj (aC (qg (Hk m) ⋯))) ?_ ?_}
      ·rintro i x y zs H' p2 K1 K0 B hy ⟨s,rfl⟩ C k1 k2
       obtain⟨f,R,rfl⟩:∃f,fs[i]?=some f/\x=.ref (yL f):=by
        rw[zj]at B
        cases e:fs[i]? with
        |none=>rw[e]at B;exact nomatch B
        |some f=>rw[e]at B;exact{f,Y,(qD B).symm}
       obtain⟨d,hd,td⟩:=t.at hy;have M:=(G.trans s).trans (ag.new (o:=.tup [.ref (yL f),y]) C);refine{p2,_,Y,aI.of aN,Y,_,_,Y,_,_,Y,Y,?_};refine aB ?_;refine{_,_,Y,{f,Y,Y},?_};exact{_,_,_,d,Y,U.same M,hw.mono M,td.same M,λH2 r=>k1 _ _ {(s.trans (ag.new C)).trans r,by rw[Q5 R hd,zm];rfl}}
      ·rintro H' p2 zs ⟨s,rfl⟩ _ C
       have r:ag H _:=(G.trans s).up (o:=.lst (((List.zipWith (l6 ws) fs ds).take (min (fs.map λf=>V.ref (yL f)).length xs.length)).map V.bl)) C;refine{p2,_,Y,au.of aN,?_}
       have ea:((List.zipWith (l6 ws) fs ds).take (min (fs.map λf=>V.ref (yL f)).length xs.length)).all id=all2 ws fs ds:=by
        rw[Mg,vm (by rw[List.length_zipWith,qf];omega)]
       rw[ea];refine{_,Y,?_};refine aG (λh2=>?_) λh2=>?_
       ·have h2:all2 ws fs ds=false:=by simpa using h2
        rw[h2,wz]at hm;rw[←hm];exact k _ r
       ·have h2:all2 ws fs ds=true:=by simpa using h2
        rw[h2,zu]at hm;refine{_,_,_,.str z,Y,Y,aI.of (r _ _ h),fU,⋯,λq3 H5 hq3 Z e5=>?_};have O:=r.trans Z;refine{q3,_,Y,.inr (aI.of e5),Y,Y,_,Y,?_};have L:pY (.str z) [.str "back",.str "again"]=decide (z∈(["back","again"]:List Str)):=o9 z ["back","again"];rw[L];refine aG (λc=>?_) λc=>?_
        ·have c:decide (z∈(["back","again"]:List Str))=false:=by simpa using c
         rw[c]at hm;have hm:bX ws n (.tup (.str z::ds))=true:=hm;rw[←hm];exact k _ O
        ·have c:decide (z∈(["back","again"]:List Str))=true:=by
          cases e:decide (z∈(["back","again"]:List Str)) with
          |true=>rfl
          |false=>exact absurd (by rw[e];rfl) c
         rw[c]at hm;have hm:bX ws n (.tup (.str z::ds))=gJ n ds:=hm;have N:=Se m (qB c);subst N
         cases t with
         |nil=>exact absurd h1 (by simp)
         |cons t1 t2 =>
          cases t1 with
          |int i =>
           refine{_,_,_,.int i,Y,Y,aI.of (O _ _ h),bj (j:=1) rfl,_,_,Y,Y,?_};have hm:bX ws n _=decide (i<n):=hm;rw[←hm];exact k _ O
          |_=>exact Bool.noConfusion h2
   |_=>exact{_,Y,aB (aB k0)}
 |_=>exact{_,Y,aB (aB k0)}
def Fq(T:Txt K mg tk)(F:FO K mg "read_what" r0)(L:xn P w K mg base)(a:uK P w K cR cN)(hF:∀f sp,gY f sp->∃k fd ps,k≤6/\fw P w K mg base (nv P w) k f fd ps sp/\PySem.W.keepIn K (.ref f)=true/\Binds K fd ps []):zR P w K mg base:=by
 refine fI F Cj (hJ λ_=>rfl) {} λN cdv A outer s H vs Q E J h=>?_
 refine{_,(ak (ax (PW.pt (eD (ck aR (cb eu T.bT boot_len (a1 (na 0))) ai) (iw (ck (SI a) (xl (na 0)) (fi (v:=.ref cR) rfl T.cR rfl))))) (ao (j' T.bZ T.b0 (a1 ah))) aO)
   (ak (sn Cj.nd 1 (fg a T.cR (xl (na 0))))
   (ak (Sl (i:=2) Cj.nd rfl (Or.inl rfl) (own:=["read","word"]) (fr:=[]) (Ri (by rfl) T.xR (a2 (na 1) (aX bG (na 0) (aV ai) aZ))) {Y,∅,∅} (mj ∅) (λ_ _ _ _=>(AN (n:=2) rfl (fc (i_ (i:=0) (by show List.Nodup (["read","word"]:List Str);decide +kernel) rfl (Or.inl rfl)) (fc (i_ (i:=1) (by show List.Nodup (["read","word"]:List Str);decide +kernel) rfl (Or.inl rfl)) nF)))) (λ_=>Js rfl rfl ⋯) (λ_ _ _ _=>dn) (λ_ _ _ _ t=>(TU hF t J (na 0) (a1 (na 1)))))
   (ao (av (cy lX T.cx boot_tuple (a1 (ae a9 (ae a9 (aA (a1 (xl (na 0)))) (na 2)) (iW L cV J (a2 (xl (na 0)) (aX bG (na 0) (aV (ae er (cb eu T.bT boot_len (a1 (na 1))) ai)) aZ))))))))))),?_}
 obtain⟨p,zs,rfl,md,ep,hw,k,U⟩:=h;have c1:∀v:V,[v].length≤sizeLine:=λv=>qj (aC (ze rfl))
 cases zs with
 |nil =>
  refine{p,_,Y,.inl (au.of ep),Y,_,Y,?_};refine aB ?_;exact{c1 _,U (λds h=>nomatch h) _ (ag.refl H)}
 |cons k0 rest =>
  have b:H p=some (.lst (.str k0::rest.map V.str)):=ep;have hm:=md.SM k0;refine{p,_,Y,.inl (au.of b),Y,_,Y,?_};refine aG (λh0=>absurd (V.int.inj (qB h0)) (λe=>by have e:(((rest.map V.str).length+1:Nat):Int)=0:=e;omega)) λ_=>?_;refine{_,_,_,.str k0,Y,Y,au.of b,fU,k0,Y,Y,_,Y,?_}
  cases ef:fV cN k0 with
  |none =>
   rw[ef]at hm;refine aB ?_;refine{c1 _,U (λds h=>?_) _ (ag.refl H)}
   cases h with
   |mk h1 _ _=>rw[hm]at h1;exact nomatch h1
  |some N =>
   rw[ef]at hm;obtain⟨rs,O,g⟩:=hm;have h5':=Pw O;refine aD ?_;refine{_,_,_,.str k0,Y,Y,au.of b,fU,k0,N,Y,ef,?_};refine{_,Y,p,_,Y,au.of b,λq H1 hq R I=>?_};rw[HE]at I;refine{N,q,Y,{_,aI.of (R _ _ g)},{_,au.of I},MW (t1:=true) (t2:=false) (xs:=rs.map λr=>.ref (GU r)) (ys:=rest.map V.str) (λi vs H'=>ag H1 H'/\∃ds,ds.length=i/\(∀(j:Nat) (r:Rm) (z:Str),j<i->rs[j]?=some r->rest[j]?=some z->∃d,ds[j]?=some d/\zC r d z)/\c8 H' vs ds) {ag.refl _,[],Y,λ_ _ _ h=>absurd h (yz _),.nil} (λi vs H' ⟨s,_⟩=>{aI.of (s _ _ (R _ _ g)),au.of (s _ _ I)}) (by rw[qf];exact qj (aC ())) ?_ ?_}
   ·rintro i x y vs H' p2 K1 K0 t c ⟨S,ds,hl,D,C⟩ hp k1 k2
    obtain⟨r,J,rfl⟩:∃r,rs[i]?=some r/\x=.ref (GU r):=by
     rw[zj]at t
     cases e:rs[i]? with
     |none=>rw[e]at t;exact nomatch t
     |some f=>rw[e]at t;exact{f,Y,(qD t).symm}
    obtain⟨z,hz,rfl⟩:∃z,rest[i]?=some z/\y=.str z:=by
     rw[zj]at c
     cases e:rest[i]? with
     |none=>rw[e]at c;exact nomatch c
     |some f=>rw[e]at c;exact{f,Y,(qD c).symm}
    have B:=(R.trans S).trans (ag.new (o:=.tup [.ref (GU r),.str z]) hp);have mw:=hw.DD z (ql _ (qx hz));refine{p2,_,Y,aI.of aN,Y,_,_,Y,_,_,Y,Y,?_};refine aB ?_;refine{_,_,Y,{r,Y,Y},?_};refine{z,Y,md.same B,mw.1,mw.2,λd v H2 p4 m d4=>k1 _ _ {(S.trans (ag.new hp)).trans m,ds++[d],by rw[qu,hl];rfl,λj r' z' hj h1 h2=>?_,(C.same ((ag.new hp).trans m)).snoc d4},λno H2 m=>U (λds' h=>?_) _ (B.trans m)}
    ·by_cases e:j<i
     ·obtain⟨d',I,e2⟩:=D j r' z' e h1 h2
      exact{d',by rw[ym ()];exact I,e2}
     ·have e:j=i:=()
      subst e;rw[J]at h1;cases h1;rw[hz]at h2;cases h2;exact{d,by rw[←hl,List.getElem?_concat_length],p4}
    ·cases h with
     |mk h1 h2 h3 =>
      rw[O]at h1;cases h1;obtain⟨d,_,D⟩:=h2.2 i r z J hz;exact no d D
   ·rintro H2 qT vs ⟨S,ds,hl,D,C⟩ _ hT
    rw[qf,qf]at hl D;have hvl:=mH C;have hf:NX rs ds rest:={hl,λj r z h1 h2=>D j r z (by have:=(zr.mp h1).1;have:=(zr.mp h2).1;omega) h1 h2};have z2:=R.trans (S.up (o:=.lst vs) hT);have C:=C.same (ag.new (o:=.lst vs) hT);have eT:upd H2 qT (.lst vs) qT=some (.lst vs):=aN;refine{_,_,_,.str k0,Y,Y,au.of (z2 _ _ b),fU,c1 _,λq3 H3 g3 B e3=>?_};refine{q3,qT,_,_,Y,Y,e3,B _ _ eT,qj (aC (by show 1+_≤_;omega)),λq4 H4 g4 m e4=>?_};have M:=z2.trans (B.trans m);refine{_,_,_,.str k0,Y,Y,au.of (M _ _ b),fU,?_};refine{N,_,Y,.inr (aI.of (M _ _ g)),_,_,Y,Y,_,Y,p,_,Y,au.of (M _ _ b),λq5 H5 g5 s5 e5=>?_}
    have e5:H5 q5=some (.lst ((rest.drop rs.length).map V.str)):=by
     rw[e5,qf]
     have:((rs.length:Int)+1)=((rs.length+1:Nat):Int):=()
     rw[this,eK,kf,←j5]
    have z5:=M.trans s5;have X:Bm (rest.drop rs.length):={qg (by rw[vg,zi];omega) hw.bg,λy c=>hw.DD y (ql _ (jm c))};refine{k0,q5,_,Y,md.same z5,(hw.DD k0 qo).1,e5,X,λes q6 xs6 H6 h6 g6 G e6 d6=>?_,λno H6 G=>U (λds' h=>?_) _ (z5.trans G)}
    rotate_left
    ·cases h with
     |mk h1 h2 h3=>rw[O]at h1;cases h1;exact no _ h3
    have hx6:=mH d6;have he:es.length≤1:=h6.bg;refine{q4,q6,_,_,Y,Y,(s5.trans G) _ _ e4,e6,qj (aC (by rw[qu];show 1+_+_≤_;omega)),λq7 H7 g7 s7 e7=>?_};refine{q7,_,Y,au.of e7,λl H8 hl s8 e8=>?_};have Z:=s7.trans s8;exact k _ _ _ (.mk O hf h6) (z5.trans (G.trans Z)) (.tup e8 (.cons (.str _) ((C.same (B.trans (m.trans (s5.trans (G.trans Z))))).app (d6.same Z))))
def Cq(T:Txt K mg tk)(F:FO K mg "_law_house" kY)(gfBh:yM P w K mg base)(gfBk:oy P w K mg base)(gfCd:xG P w K mg base)(gfBx:yr P w K mg base):xb P w K mg base:=by
 refine aH F fH (fF λ_ _=>rfl) {} λfa cdv A outer s H vs Q E hr h=>?_;have hu1:(A.deeper (envOfC "_law_house" (af kY) ↑s fa cdv)).units+1<cLine:=JG hr
 refine{_,(ak (sn fH.nd 2 (ae Sa (vv 0) (aA (a1 ai))))
   (ak (sn fH.nd 3 (cl gfCd hr (a1 (xl (vv 2)))))
   (ak (sm fH.nd 4 (cb eu T.bT boot_len (a1 (vv 3))))
   (ak (sm fH.nd 5 (A0 (af kY) sM [("_law_many",4)] (il (vv 3)) (λ_ _ _=>dn) (λ_ _ _=>(ae FR (aA (a1 ai)) (vc 1)))))
   (ak (sn fH.nd 6 QJ)
   (ak (sn fH.nd 7 (aA kQ))
   (ak (fo (Ng (by rfl) T.iy (a1 (aX bG (vv 0) (aV ai) (aV (vv 1))))) (gt (fc (gn fH.nd 8) (fc (gn fH.nd 9) nF)))
   (ak (sn fH.nd 10 (cl gfBk hr (a2 (ae er (vv 9) (ae kM (ae kM (ae kM ai ai) (vv 8)) (vv 8))) ai)))
   (ak (sm fH.nd 11 (ae b' (xl (vv 10)) (vc 4)))
   (ak (fo (pF (by rfl) T.gA (a1 (ae b' (ae dX (xl (vv 10)) (vc 4)) ai))) (gn fH.nd 12)
   (ak (sn fH.nd 13 (ae b' (xa (vv 10) (ae er ai (vv 12))) (vc 4)))
   (ak (sn fH.nd 14 (ae b' (ae dX (xa (vv 10) (ae er ai (vv 12))) (vc 4)) (ae er (xi (xi (vc 5) (vv 13)) (vv 13)) ai)))
   (ao (ax (ck iz (vv 14) (xi (xi (vc 5) (vc 11)) (vv 13))) (ak (sm fH.nd 15 (Of hu1 (vv 6) (bF (a2 (vv 13) (vv 14))) (λ_ _=>rfl)))
   (ak (o8 (A0 (af kY) sM [("_law_known",5),("_law_who",11),("_law_theirs",15)] (pF (by rfl) T.gA (a1 (vc 4))) (λ_ _ _=>dn) (λ_ _ _=>(cb (B6 rfl) T.qO boot_max (a2 (xi (xi (vc 1) (vc 2)) (vv 0)) (xi (vc 3) (vv 0)))))) (Fl (vc 5) (vc 11) E5))
   (ao (o8 (cb (B6 rfl) T.qO boot_max (a2 (xi (xi (vc 5) (vc 11)) (vv 13)) (vv 14))) (Fl (xi (vc 5) (vc 11)) (vv 13) E5))))) aO)))))
   (ak (sn fH.nd 16 (ae er (xi (xi (vc 5) (vc 11)) (vc 11)) ai))
   (ak (sn fH.nd 17 (cy lX T.cx boot_tuple (a1 (xi (vc 5) (vc 11)))))
   (ak (Sr hu1 (vv 6) (bF (a2 (vc 11) (vv 16))) (cy O1 T.Ef boot_list (a1 (vv 17))) rfl)
   (ak (o8 (vv 16) (Fl (xi (vc 5) (vc 11)) (vc 11) E5))
   (ak (sn fH.nd 18 (cl gfBx hr (ac (aX bG (vv 10) (aV ai) aZ) (a2 (vv 3) (vv 16)))))
   (ao (ap (vv 7) (a1 (bF (ac (xi (vv 3) (vc 11)) (ac (vv 16) (ac (vv 17) (a2 (cl gfBh hr (a2 (xl (vv 10)) (vv 3))) (vv 18))))))))))))))))))
   (ao (av (bF (a2 (vv 3) (vv 7)))))))))))),?_}
 obtain⟨sp,W,b,rfl,hs,hl,k⟩:=h;refine{_,Y,ar rfl,λp1 H1 g1 s1 e1=>?_};refine{sp,p1,_,_,Y,Y,hs.same s1,e1,by rw[qf];exact qj (aC (by show W.length+1≤1000;omega)),λp2 H2 g2 s2 e2=>?_}
 obtain⟨i0,h0⟩:∃i0,kR (List.map V.int W++[V.int 0]) (0:Int)=some (.int i0):=by
  cases W with
  |nil=>exact{0,Y}
  |cons n W=>exact{n,bj (j:=0) rfl}
 refine{_,Y,p2,_,_,_,Y,Y,au.of e2,h0,_,Y,λH3 rp ws s3 g3 rl h2 nd=>?_};refine{_,Y,rp,_,Y,.inl (au.of rl.at'),?_};generalize hM:(ws.map V.str).length=M
 have hM':ws.length=M:=by rw[←hM,qf]
 have hM0:0<M/\M≤6:={by have:=rl.pos;omega,by have:=rl.bg;omega}
 refine{_,Y,rp,Y,{_,au.of rl.at'},mM (xs:=ws.map V.str) (qj (aC ()))
  (λi ys H'=>ag H3 H'/\∃ks:List Addr,ys=ks.map V.ref/\ks.length=i/\ks.Nodup/\∀kk∈ks,H3 kk=none/\H' kk=some (.lst (Hs.eJ (List.replicate M 0))))
  {ag.refl _,[],Y,Y,vy,λ_ z=>nomatch z} (λ_ _ H' s'=>au.of (s'.1 _ _ rl.at')) (λj x ys H' K1 K0 hx s' k1 k0=>?_) λH' kp ys s' hy hq=>?_}
 ·obtain⟨s',ks,rfl,hk,nd',I⟩:=s'
  refine aB (B:=K0 H') ?_;refine{ar rfl,λq1 H4 g4 Z e4=>?_};refine{_,Y,q1,_,_,Y,Y,e4,(),(),(by show 1 * (M:Int).toNat≤sizeLine;rw[Nat.one_mul,Int.toNat_natCast];exact qj (aC ())),λq2 H5 g5 s5 e5=>?_};rw[Hs.oX]at e5;refine k1 _ _ {(s'.trans Z).trans s5,ks++[q2],by rw[zm];rfl,by rw[qu,zy,hk],?_,λkk hkk=>?_}
  ·refine DM nd' λz=>?_
   have:=Z _ _ (I q2 z).2;rw[g5]at this;cases this
  ·rcases zf.mp hkk with z|z
   ·exact⟨(I kk z).1,s5 _ _ (Z _ _ (I kk z).2)⟩
   ·rw[zh.mp z]
    exact⟨(s'.trans Z).free g5,e5⟩
 ·obtain⟨s',ks,rfl,hk,nd',I⟩:=s'
  rw[hM]at hk;refine λtp H4 g4 Z e4=>?_;refine{ar rfl,λdp H5 g5 s5 e5=>?_};have gk:∀{a o},H' a=some o->(upd H' kp (.lst (ks.map V.ref))) a=some o:=λ{a o} e=>ag.new hq a o e
  have st:Hs.fK H3 H5 kp tp dp ws (List.replicate M (List.replicate M 0)) [] [] ks [] []:=by
   have kd:kp≠dp:=dg (Z _ _ aN) g5;refine{((s'.up hq).trans Z).trans s5,s5 _ _ (Z _ _ aN),by rw[hk,yt],λi kk e=>?_,nd',λz=>?_,kd,λz=>?_,s'.free hq,(s'.up hq).free g4,((s'.up hq).trans Z).free g5,λkk z=>(I kk z).1,s5 _ _ e4,(λd z=>nomatch z),qi _,e5,{Y,λi d z=>by cases z}}
   ·have hi:=(zr.mp e).1
    rw[Hs.jB ()];exact s5 _ _ (Z _ _ (gk (I kk (qx e)).2))
   ·have:=(I kp z).2
    rw[hq]at this;cases this
   ·have:=Z _ _ (gk (I dp z).2)
    rw[g5]at this;cases this
  refine{_,Y,_,Y,_,Y,_,Y,sp,_,Y,((hs.same s1).same s2).same (s3.trans st.same),λq6 H6 g6 s6 e6=>?_};have st6:=st.guard g6 s6 e6
  have R:∀{n:Nat},n≤(bR (List.map V.int W) (some 1) (some b)).length->n≤W.length - 1:=λh=>by
   refine qg h ?_;unfold bR;rw[wx,vg,qf];have:HT.bV W.length 0 (some 1)=min 1 W.length:=HT.cL _ _ 1;rw[this];omega
  have hcut:(bR (List.map V.int W) (some 1) (some b)).length≤63:=qg (FC _ _ _) (by rw[qf];exact hl);have N:=Hs.Kn.start M
  refine{q6,Y,{_,au.of e6},MQ (xs:=bR (List.map V.int W) (some 1) (some b)) (λi σ H7=>∃(kn:List (List Nat)) (ds:List Hs.Dd) (ks:List Addr) (kvs:List (List Key×V)) (des:List V) (v8 v9 v10 v11 C g f G v16 v17 v18:Option V),
    σ=[some (.ref sp),some (.int b),some (.ref p2),some (.ref rp),some (.int M),some (.ref kp),some (.ref tp),some (.ref dp),v8,v9,v10,v11,C,g,f,G,v16,v17,v18] ∧
    Hs.fK (upd H3 q6 (.lst (bR (List.map V.int W) (some 1) (some b)))) H7 kp tp dp ws kn ds ds ks kvs des/\Hs.Kn M ds kn/\Hs.Wh M ds/\ds.length≤i/\∀d∈ds,xO ws d.br/\bY ws d.num d.wt)
   {_,[],ks,[],[],none,none,none,none,none,none,none,none,none,none,none,Y,st6,N.1,N.2,qi _,λ_ z=>nomatch z} ?_ ?_ ?_}
  ·rintro i σ H7 _ ⟨kn,ds,ks,kvs,des,v8,v9,v10,v11,C,g,f,G,v16,v17,v18,rfl,h7,_⟩
   exact au.of (h7.same _ _ aN)
  ·rintro i x σ H7 pe hx ⟨kn,ds,ks,kvs,des,v8,v9,v10,v11,C,g,f,G,v16,v17,v18,rfl,h7,K7,W7,hlen,hbw⟩ hpe
   obtain⟨c,rfl⟩:=rR (qx hx);have hi:i<63:=zo (zr.mp hx).1 hcut;refine{pe,_,Y,aI.of aN,Y,?_};have h7:=h7.mono (ag.new (o:=.tup [.int i,.int c]) hpe);refine{_,_,Y,_,_,Y,Y,?_};refine{_,Y,_,_,Y,Y,.inl {⋯,⋯},_,Y,_,_,Y,Y,.inl {⋯,⋯},_,Y,_,_,Y,Y,.inr {(),()},_,_,Y,Y,_,22,Y,⋯,λH8 p1 ms s8 g8 d8 hl8=>?_};have h8:=h7.guard g8 s8 d8.at';obtain⟨a0,h0⟩:=d8.get 0 ⋯;refine{_,Y,p1,_,0,.int a0,Y,Y,au.of d8.at',h0,_,Y,_,_,Y,Y,(by omega:(0:Int)<M),?_};obtain⟨w,hw⟩:=Int.eq_ofNat_of_zero_le (dE a0 (by omega:(0:Int)<M))
   have y:w<M:=by have:=dQ a0 (by omega:(0:Int)<M);omega
   show cX 11 (V.int (a0 % (M:Int))) _ _ _;rw[hw];have hr3:0≤a0 / (M:Int) % 3/\a0 / (M:Int) % 3<3:={dE _ ⋯,dQ _ ⋯}
   refine{_,Y,p1,_,0,.int a0,Y,Y,au.of d8.at',h0,_,Y,_,_,Y,Y,{(),()},_,_,Y,Y,(by show(0:Int)<3;decide),_,Y,(),(),vD (n:=(a0 / (M:Int) % 3).toNat)
    (λj σ H9=>∃(kn:List (List Nat)) (ks:List Addr) (C g f G:Option V),
     σ=[some (.ref sp),some (.int b),some (.ref p2),some (.ref rp),some (.int M),some (.ref kp),some (.ref tp),some (.ref dp),some (.int i),some (.int c),some (.ref p1),some (.int w),C,g,f,G,v16,v17,v18] ∧
     Hs.fK (upd (upd H3 q6 (.lst (bR (List.map V.int W) (some 1) (some b)))) p1 (.lst (List.map V.int ms))) H9 kp tp dp ws kn ds ds ks kvs des/\Hs.Kn M ds kn)
    ⟨kn,ks,C,g,f,G,Y,h8,K7⟩ ?_ ?_}
   ·rintro j σ H9 hj ⟨kn,ks,C,g,f,G,rfl,O,J⟩
    have hj3:j<3:=()
    have d9:DR H9 p1 ms 22:={O.same _ _ aN,d8.len,d8.bg}
    have hpos:(0:Int)≤1+(0+(j:Int))/\1+(0+(j:Int))<((List.map V.int ms).length:Int):=by rw[qf];omega
    refine{_,Y,_,Y,_,_,Y,Y,p1,_,_,Y,Y,au.of d9.at',hpos.1,hpos.2,λv hv=>?_};obtain⟨b1,_,rfl⟩:=qk.mp hv;refine{_,Y,_,_,Y,Y,(by omega:(0:Int)<M),?_};obtain⟨o,ho⟩:=Int.eq_ofNat_of_zero_le (dE b1 (by omega:(0:Int)<M))
    have hoM:o<M:=by have:=dQ b1 (by omega:(0:Int)<M);omega
    show cX 13 (V.int (b1 % (M:Int))) _ _ _;rw[ho];obtain⟨ko,hko,eko,ako⟩:=O.rowAt (i:=o) (by rw[J.len];exact hoM);obtain⟨kw,hkw,S,U⟩:=O.rowAt (i:=w) (by rw[J.len];exact y);have lo:(Hs.az kn o).length=M:=J.row o hoM;have lw:(Hs.az kn w).length=M:=J.row w y;refine{_,Y,_,Y,_,_,Y,Y,p1,_,_,Y,Y,au.of d9.at',hpos.1,hpos.2,λv hv=>?_};obtain⟨b2,_,rfl⟩:=qk.mp hv;refine{_,Y,_,_,Y,Y,{(),()},_,Y,_,Y,kp,_,_,_,Y,Y,au.of O.jG,ako,_,Y,ko,_,_,_,Y,Y,au.of eko,Hs.f9 (),_,_,Y,Y,_,_,Y,Y,(),?_};have hto:=dE (b2 / (M:Int)) (m:=((Hs.bf (Hs.az kn o) o:Nat):Int)+1) ();have hto2:=dQ (b2 / (M:Int)) (m:=((Hs.bf (Hs.az kn o) o:Nat):Int)+1) ();obtain⟨t,ht⟩:=Int.eq_ofNat_of_zero_le hto;rw[ht]at hto2;show cX 14 (V.int (b2 / (M:Int) % (((Hs.bf (Hs.az kn o) o:Nat):Int)+1))) _ _ _;rw[ht];refine{_,Y,_,Y,_,Y,kp,_,_,_,Y,Y,au.of O.jG,U,_,Y,kw,_,_,_,Y,Y,au.of S,Hs.f9 (),_,_,Y,Y,_,Y,?_};refine aG (λhgt=>?_) λ_=>?_
    ·have hgt:Hs.bf (Hs.az kn w) o<t:=by
      have:=qB hgt;omega
     obtain⟨e,he,ew,en⟩:=J.has (j:=o) (k:=t) hoM () ();subst ew en;obtain⟨qe,ve,ee,_⟩:=O.tab e he;refine{_,Y,_,Y,_,Y,ar rfl,λpt Ht gt st' et=>?_};have hT:=O.mono st';refine{tp,.ref qe,Y,ve▸pT.t (k:=Hs.ip e) hT.l9 et,?_};have le:e.hd.length=M:=W7.len e he;have hn:((M:Int)).toNat=M:=Int.toNat_natCast M
     refine{_,Y,_,Y,(),(),Jk (n:=(M:Int).toNat) (by rw[hn];exact qj (aC ()))
      (λa ys H'=>ag Ht H'/\ys=Hs.eJ ((List.range a).map λa=>max (Hs.bf (Hs.az kn w) a) (Hs.bf e.hd a))) {ag.refl _,Y} (λa ys H' K1 K0 ha s' k1 k0=>?_) λH' pn ys s' hy hq=>?_}
     ·obtain⟨s',rfl⟩:=s'
      rw[hn]at ha;refine aB (B:=K0 H') ?_;refine{_,Y,_,Y,kp,_,_,_,Y,Y,au.of (s' _ _ hT.jG),U,_,Y,kw,_,_,_,Y,Y,au.of (s' _ _ (st' _ _ S)),Hs.yP (Hs.f9 ()),_,Y,_,Y,qe,_,_,_,Y,Y,au.of (s' _ _ (st' _ _ ee)),Hs.yP (Hs.f9 ()),_,_,Y,?_};show K1 (V.int (if((Hs.bf e.hd a:Nat):Int)>((Hs.bf (Hs.az kn w) a:Nat):Int) then((Hs.bf e.hd a:Nat):Int) else((Hs.bf (Hs.az kn w) a:Nat):Int))) H';rw[Hs.ot];refine k1 _ _ {s',?_};rw[j9,zm];unfold Hs.eJ;rw[zm];rfl
     ·obtain⟨s',rfl⟩:=s'
      have hT':=hT.mono s';have D:=hT'.swap (i:=w) (p:=pn) (r:=(List.range (M:Int).toNat).map λa=>max (Hs.bf (Hs.az kn w) a) (Hs.bf e.hd a)) (by rw[J.len];exact y) hq;rw[jj]at D
      have hwl:w<kn.length:=by rw[J.len];exact y
      obtain⟨kw2,hkw2,ekw2,akw2⟩:=D.rowAt (i:=w) (by rw[vq];exact hwl);rw[show Hs.az (kn.set w ((List.range (M:Int).toNat).map λa=>max (Hs.bf (Hs.az kn w) a) (Hs.bf e.hd a))) w=(List.range (M:Int).toNat).map (λa=>max (Hs.bf (Hs.az kn w) a) (Hs.bf e.hd a)) from Hs.aE hwl]at ekw2;rw[jj]at akw2;have L:=D.jG;rw[jj]at L;refine{_,Y,_,Y,kp,_,_,w,Y,Y,(by rw[aP (dg hT'.jG hq)];exact hT'.jG),Hs.lS (by rw[qf,hT'.iq];exact hwl),?_}
      have hlen2:e.c7<((List.range (M:Int).toNat).map λa=>max (Hs.bf (Hs.az kn w) a) (Hs.bf e.hd a)).length:=by rw[qf,yc,hn];exact hoM
      refine{_,Y,_,Y,kp,_,_,_,Y,Y,au.of L,akw2,_,Y,kw2,_,_,_,Y,Y,au.of ekw2,Hs.f9 hlen2,_,Y,_,_,Y,_,Y,_,Y,kp,_,_,_,Y,Y,au.of L,akw2,_,Y,kw2,_,_,e.c7,Y,Y,ekw2,Hs.lS (by rw[qf];exact hlen2),?_};have h11:=D.row (i:=w) (k:=kw2) (r:=((List.range (M:Int).toNat).map λa=>max (Hs.bf (Hs.az kn w) a) (Hs.bf e.hd a)).set e.c7 (max (Hs.bf ((List.range (M:Int).toNat).map λa=>max (Hs.bf (Hs.az kn w) a) (Hs.bf e.hd a)) e.c7) e.num)) hkw2;rw[←Hs.mT]at h11
      have ex:(kn.set w ((List.range (M:Int).toNat).map λa=>max (Hs.bf (Hs.az kn w) a) (Hs.bf e.hd a))).set w (((List.range (M:Int).toNat).map λa=>max (Hs.bf (Hs.az kn w) a) (Hs.bf e.hd a)).set e.c7 (max (Hs.bf ((List.range (M:Int).toNat).map λa=>max (Hs.bf (Hs.az kn w) a) (Hs.bf e.hd a)) e.c7) e.num))=kn.set w (Hs.merged M (Hs.az kn w) e.hd e.c7 e.num):=by
       rw[List.set_set,hn];unfold Hs.merged;rw[Hs.jU _ hoM]
      rw[ex]at h11;have vx:V.int (if((e.num:Nat):Int)>((Hs.bf ((List.range (M:Int).toNat).map λa=>max (Hs.bf (Hs.az kn w) a) (Hs.bf e.hd a)) e.c7:Nat):Int) then((e.num:Nat):Int) else((Hs.bf ((List.range (M:Int).toNat).map λa=>max (Hs.bf (Hs.az kn w) a) (Hs.bf e.hd a)) e.c7:Nat):Int))=Hs.nV (max (Hs.bf ((List.range (M:Int).toNat).map λa=>max (Hs.bf (Hs.az kn w) a) (Hs.bf e.hd a)) e.c7) e.num):=congrArg V.int (Hs.ot _ _);rw[←vx]at h11;exact{_,ks.set w pn,_,_,_,_,Y,h11,J.merge W7 y he hgt}
    ·exact⟨kn,ks,_,_,_,_,Y,O,J⟩
   ·rintro σ H9 ⟨kn,ks,C,g,f,G,rfl,O,J⟩
    have hwl:w<kn.length:=by rw[J.len];exact y
    obtain⟨kw,hkw,S,U⟩:=O.rowAt (i:=w) hwl;have lw:(Hs.az kn w).length=M:=J.row w y;refine{_,Y,_,Y,kp,_,_,_,Y,Y,au.of O.jG,U,_,Y,kw,_,_,_,Y,Y,au.of S,Hs.f9 (),_,_,Y,Y,?_};show cX 16 (Hs.nV (Hs.bf (Hs.az kn w) w+1)) _ _ _;refine{_,Y,_,Y,kp,_,_,_,Y,Y,au.of O.jG,U,kw,_,Y,au.of S,λph H10 g10 s10 e10=>?_};have D:=O.mono s10;refine{_,Y,ph,_,Y,.inr (aI.of e10),λpl H11 g11 s11 e11=>?_};refine{_,Y,_,Y,_,Y,ar rfl,λpt H12 g12 s12 e12=>?_};have h12:=(D.mono s11).mono s12;refine{tp,_,Y,ro.t (k:=Hs.ip (Hs.dN kn w .none [])) h12.l9 e12 (jh h12.kC (aC ())),?_}
    have h13:=h12.put (d:=Hs.dN kn w .none []) (q:=pl) (s12 _ _ e11) (λz=>dg D.jG g11 z.symm) (λz=>dg D.dat g11 z.symm) (λz=>by
      obtain⟨a,ha,e2⟩:=vj.mp z
      exact dg (D.rows a pl (by rw[qm ha,e2])) g11 rfl)
     (λe he=>Hs.uV λz=>by
      have q1:=J.cnt e he;rw[z.1,z.2]at q1;have q2:(Hs.dN kn w .none []).num=Hs.bf (Hs.az kn w) w+1:=rfl;have q3:(Hs.dN kn w .none []).c7=w:=rfl;rw[q2,q3]at q1
      omega)
    refine{_,Y,_,Y,_,Y,kp,_,_,_,Y,Y,au.of h13.jG,U,_,Y,kw,_,_,w,Y,Y,h13.rows w kw hkw,Hs.lS (by rw[qf];omega),?_};have h14:=h13.row (i:=w) (k:=kw) (r:=(Hs.az kn w).set w (Hs.bf (Hs.az kn w) w+1)) hkw;rw[←Hs.mT]at h14;have d14:DR _ p1 ms 22:={h14.same _ _ aN,d8.len,d8.bg};have sG:ag H3 (upd (upd H3 q6 (.lst (bR (List.map V.int W) (some 1) (some b)))) p1 (.lst (List.map V.int ms))):=(ag.new (st.same.free g6)).up (h7.same.free g8);have r14:=rl.mono (sG.trans h14.same);refine{_,Y,_,Y,p1,_,Y,au.of d14.at',λq15 H15 g15 s15 e15=>?_};have d15:=d14.from 4 ⋯ e15;refine{_,Y,_,Y,q15,rp,ws,_,_,Y,r14.mono s15,{d15.at',qg ⋯ d15.len,d15.bg},λH16 vw wt s16 dw hww2=>?_};have h16:=(h14.mono s15).mono s16;have r16:=(r14.mono s15).mono s16;have d16:=(d14.mono s15).mono s16;obtain⟨a3,h3⟩:=d16.get 3 ⋯
    have hww:w<ws.length:=()
    have hwd:kR (ws.map V.str) (w:Int)=some (.str ws[w]):=bj (by rw[zj,qm hww];rfl);refine{_,Y,.inl {Y,_,au.of h16.dat},_,Y,_,Y,rp,_,_,_,Y,Y,au.of r16.at',hwd,_,Y,_,Y,_,Y,p1,_,3,.int a3,Y,Y,au.of d16.at',h3,_,Y,_,rp,ws,Y,r16,λH17 vb br s17 dbr hbr=>?_};refine{_,Y,ar rfl,λpd H18 g18 s18 e18=>?_};have h18:=(h16.mono s17).mono s18;refine{dp,_,_,Y,Y,h18.dat,(by rw[h18.fQ.1];exact aC ()),?_};have pt1:ph≠tp:=λz=>dg O.l9 g10 z.symm;have pt2:ph≠kw:=λz=>dg S g10 z.symm
    have eph:H18 ph=some (.tup (Hs.eJ (Hs.az kn w))):=by
     refine s18 _ _ (s17 _ _ (s16 _ _ (s15 _ _ ?_)));rw[aP pt2,aP pt1];exact s12 _ _ (s11 _ _ e10)
    refine{_,ds++[Hs.dN kn w br wt],ks,_,_,_,_,_,_,_,_,_,_,_,_,_,Y,((h18.HI (d2:=Hs.dN kn w br wt) rfl rfl).add (d:=Hs.dN kn w br wt) (v:=.ref pd) {pd,ws[w],ph,vb,vw,Y,qm hww,e18,eph,dbr.same s18,dw.same (s17.trans s18)}).weak (ag.new (h7.same.free g8)),J.next W7 y,W7.next J y,?_,λd hd=>?_}
    ·rw[qu,zy]
     omega
    ·rcases zf.mp hd with hd|hd
     ·exact hbw d hd
     ·rw[zh.mp hd]
      exact⟨hbr,hww2⟩
  ·rintro σ H7 ⟨kn,ds,ks,kvs,des,v8,v9,v10,v11,C,g,f,G,v16,v17,v18,rfl,h7,K7,W7,hlen,hbw⟩
   have X:Hs.fK H3 H7 kp tp dp ws kn ds ds ks kvs des:=h7.weak (ag.new (st.same.free g6));have s03:ag H H3:=(s1.trans s2).trans s3;refine{_,Y,_,Y,ar rfl,λq8 H8 g8 s8 e8=>?_};exact k H8 q8 rp dp ws ds des ((s03.trans X.same).trans s8) ((s03.trans X.same).free g8) e8 (rl.mono (X.same.trans s8)) h2 nd (s03.free X.fd) (s8 _ _ X.dat) (X.fQ.mono s8) (hM'▸W7) hbw (R hlen)
def Eb(T:Txt K mg tk)(F:FO K mg "is_deed" rk)(N:zH P w K mg base)(X:sU P w K mg base)(M:lE P w K mg base)(W:hZ P w K mg base)(Z:zS P w K mg base):xN P w K mg base:=by
 refine aH F Gv (fF λ_ _=>rfl) (λ_ _ _ _ h=>eX h) λfa cdv A outer s H vs Q E I h=>?_
 refine{_,(ak (ax (PW.pt (eD (cY (cI (cl W I (a2 (na 1) ai)))) (iw (cY (cI (cl M I (a2 (na 0) (aX pM (na 1) aZ (aV ai))))))))) (ao (av cB)) aO)
   (ak (ax (PW.pt (eD (cY (cI (cl X I (a2 (na 0) (xt (na 1)))))) (iw (ck jZ (xu (xt (na 1)) (bm PySem.F.plainAttrs_list PySem.F.slot_list_index PySem.F.type_list_index (SQ I) (na 0) (a1 (xt (na 1))))) (ae ny (xt (na 1)) ai))))) (ao (av cB)) aO)
   (ao (av (eO (cl N I (a2 (na 0) (xt (na 1)))) (dS (cl Z I (ac (na 0) (a2 (xt (na 1)) (xt (na 1))))))))))),?_}
 obtain⟨p,ws,v,d,rfl,md,hw,ht,k⟩:=h;refine{_,d,_,Y,ht,_,Y,?_};have k0:=k H (ag.refl H)
 cases ht with
 |@tup a0 xs ds h t =>
  refine aG (λh1=>?_) λh1=>?_
  ·have h1:¬mY 5 (.tup ds)=true:=by simpa using h1
   refine aB ?_;rw[←OL (ws:=ws) (NN h1)];exact k0
  ·have h1:mY 5 (.tup ds)=true:=by simpa using h1
   have h1:=qB h1;obtain⟨x,y,z,u,w1,a,b,c,d,e,rfl,rfl,ta,tb,tc,td,te⟩:=t.Oy ();refine{_,Y,_,_,Y,aI.of h,(λe=>absurd e.2 (by show ¬(2=5);decide)),λq hq=>?_};have V:ag H (upd H q (.tup [x,y])):=(ag.refl H).up hq;refine{_,_,_,.tup [a,b],Y,md.same V,hw.mono V,.tup (aN ..) (.cons (ta.same V) (.cons (tb.same V) .nil)),λH2 s2=>{_,Y,?_}};have J:=V.trans s2
   have off:∀m,a_ ws (.tup [a,b])=m->m=false->c9 ws (.tup [a,b,c,d,e])=false:=λm e1 e2=>by
    subst e2;unfold c9;split
    ·rename_i e3;cases e3;rw[e1];rfl
    ·rfl
   refine aG (λh2=>?_) λh2=>?_
   ·have h2:a_ ws (.tup [a,b])=false:=by simpa using h2
    rw[←off _ h2 rfl];exact k H2 J
   ·have h2:a_ ws (.tup [a,b])=true:=by simpa using h2
    have j:((cO a&&dA 1 b)&&CF ws a)=true:=h2;rw[qv,qv]at j
    cases ta with
    |@str za ty =>
     cases tb with
     |int n =>
      have g:c9 ws (.tup [.str za,.int n,c,d,e])=(bu ws c&&(kO ws (.str za) (.int n) c&&(bN ws d&&bX ws n e))):=by
       show(a_ ws _&&_)=_;rw[h2];rfl
      refine{_,_,_,z,Y,Y,aI.of (J _ _ h),Y,?_};refine{_,_,_,c,Y,md.same J,hw.mono J,tc.same J,λH4 s4=>{_,Y,?_}};have f:=J.trans s4;refine aG (λo=>?_) λo=>?_
      ·have o:bu ws c=false:=by simpa using o
       rw[o,wz]at g;refine aB ?_;rw[←g];exact k H4 f
      ·have o:bu ws c=true:=by simpa using o
       rw[o,zu]at g
       cases tc with
       |@tup cp r cs hc U =>
        have D:(decide (cs.length=ws.length)&&cs.all (dA 0))=true:=o;rw[qv]at D;have O:za∈ws:=qB j.2;have hi:=u9 O;have hlt:ws.idxOf za<ws.length:=(zr.mp hi).1;have hl5:=qB D.1;have hl6:=U.len;have B:r[ws.idxOf za]?=some (r[ws.idxOf za]'()):=qm _;obtain⟨cd,L,S⟩:=U.at B;have R:=zk.mp D.2 cd (qx L);generalize r[ws.idxOf za]'()=cv at B S
        cases S with
        |int i =>
         have ho:kO ws (.str za) (.int n) (.tup cs)=decide (i=n - 1):=by
          show(match cs[ws.idxOf za]? with|some (.int c)=>decide (c=n - 1)|_=>false)=_;rw[L]
         rw[ho]at g;refine{_,_,_,.ref cp,Y,Y,aI.of (f _ _ h),Y,?_};refine{.inl {Y,_,au.of (hw.mono f).at'},?_};refine{_,_,_,.str za,Y,Y,aI.of (f _ _ h),Y,?_};refine Im (hw.mono f) O ?_;refine{cp,r,_,.int i,Y,Y,aI.of (f _ _ hc),bj B,?_};refine{_,_,_,.int n,Y,Y,aI.of (f _ _ h),Y,?_};refine{_,_,Y,Y,Y,_,Y,?_};refine aG (λC=>?_) λC=>?_
         ·have C:¬i=n - 1:=λx=>by simp[x]at C
          rw[decide_eq_false C,wz]at g;rw[←g];exact k H4 f
         ·have C:i=n - 1:=by simpa using C
          rw[qs C,zu]at g;refine{_,_,_,u,Y,Y,aI.of (f _ _ h),Y,?_};refine{_,_,_,d,Y,md.same f,hw.mono f,td.same f,λH6 s6=>{_,Y,?_}};have G:=f.trans s6;refine aG (λh5=>?_) λh5=>?_
          ·rw[h5,zu]at g
           refine{_,_,_,.int n,Y,Y,aI.of (G _ _ h),Y,?_};refine{_,_,_,w1,Y,Y,aI.of (G _ _ h),Y,?_};refine{_,_,n,_,e,Y,md.same G,hw.mono G,te.same G,λH8 s8=>?_};rw[←g];exact k H8 (G.trans s8)
          ·rw[zw.mpr h5,wz]at g
           rw[←g];exact k H6 G
        |_=>exact Bool.noConfusion R
       |_=>exact Bool.noConfusion o
     |_=>exact Bool.noConfusion j.1.2
    |_=>exact Bool.noConfusion j.1.1
 |_=>exact aB (aB k0)
def AA(T:Txt K mg tk)(F:FO K mg "read_deed" sD)(W:xN P w K mg base)(M:yR P w K mg base)(I:rB P w K mg base)(N:lG P w K mg base)(J:zR P w K mg base):oG P w K mg base:=by
 refine fI F vU (fF λ_ _=>rfl) (λ_ _ _ _ h=>Qr h) λfa cdv A outer s H vs Q E x h=>?_
 refine{_,(ak (ax (cY (cI (cb gN T.aw boot_isinstance (a2 (na 1) (gC (v:=.ty "str") (by rfl) T.eH boot_str rfl))))) (ao (j' T.bZ T.b0 (a1 ah))) aO)
   (ak (sn vU.nd 2 (bm PySem.F.plainAttrs_str PySem.F.slot_str_split PySem.F.type_str_split pH (na 1) (a1 ah)))
   (ak (ax (ck lA (cb eu T.bT boot_len (a1 (na 2))) ai) (ao (j' T.bZ T.b0 (a1 ah))) aO)
   (ak (sn vU.nd 3 (bF (ac (xl (na 2)) (ac (iW N cV x (a1 (xl (na 2)))) (a2 (iW I cV x (a1 (xl (na 2)))) (iW M cV x (a1 (xl (na 2)))))))))
   (ak (sn vU.nd 4 (ae PC (na 3) (bF (a1 (iW J cV x (a1 (aX bG (na 2) (aV ai) aZ)))))))
   (ak (ax (cY (cI (cl W x (a2 (na 0) (na 4))))) (ao (j' T.bZ T.b0 (a1 (nX (na 1))))) aO)
   (ao (av (na 4))))))))),?_}
 have c1:∀v:V,[v].length≤sizeLine:=λv=>qj (aC (ze rfl));rcases h with⟨p,v,rfl,hv,q⟩|⟨p,ws,z,rfl,X,hw,sh,hl,m,k,q⟩
 ·refine⟨_,"str",_,Y,Y,hv,_,Y,?_⟩
  refine aB ?_;exact{c1 _,q _ (ag.refl _)}
 refine{_,"str",_,Y,Y,.str z,_,Y,?_};refine aD ?_;refine{Y,_,32,Y,Y,hl,λq1 H1 g1 s1 o=>?_};obtain⟨ts,f⟩:∃ts,Txt.split z ⟨#[32]⟩=ts:={_,Y};rw[f]at o m;refine{q1,_,Y,.inl (au.of o),_,_,Y,Y,_,Y,?_}
 by_cases i:ts.length<5
 ·refine aG (λ_=>?_) λhn=>absurd (by rw[qf];exact qs ()) hn
  refine{c1 _,q (λd h=>?_) _ s1}
  cases h with
  |mk L h1 h2 h3 h4 =>
   rw[f]at L;subst L;cases h4
   simp at i
   omega
 obtain⟨w,g,e,a,rest,rfl⟩:∃w g e a rest,ts=w::g::e::a::rest:=match ts,i with
  |w::g::e::a::rest,_=>{w,g,e,a,rest,Y}
  |[_,_,_],i=>absurd (by simp) i
  |[_,_],i=>absurd (by simp) i
  |[_],i=>absurd (by simp) i
  |[],i=>absurd (by simp) i
 refine aG (λhn=>absurd (qB hn) (by rw[qf];omega)) λ_=>?_;have r:∀y∈w::g::e::a::rest,uJ y/\y.length≤1000:=m.DD;have o:H1 q1=some (.lst (.str w::.str g::.str e::.str a::rest.map V.str)):=o
 have no:∀d,jP d z->∃n c b ds,dM n g/\n9 c e/\iG "-" .none C3 b a/\iK ds rest/\d=.tuple [.str w,n,c,b,.tuple ds]:=λd h=>by
  cases h with
  |mk L h1 h2 h3 h4 =>
   rw[f]at L;cases L;exact⟨_,_,_,_,h1,h2,h3,h4,Y⟩
 refine{_,_,_,.str w,Y,Y,au.of o,fU,?_};refine{_,_,_,.str g,Y,Y,au.of o,bj (j:=1) rfl,?_};refine{g,Y,X.same s1,(r g (by simp)).1,(r g (by simp)).2,λd2 v2 H2 p2 G t2=>?_,λt H2 G=>q (λd h=>?_) _ (s1.trans G)}
 rotate_left
 ·obtain⟨n,c,b,ds,h1,_⟩:=no d h
  exact absurd h1 (t n)
 have z2:=s1.trans G;refine{_,_,_,.str e,Y,Y,au.of (G _ _ o),bj (j:=2) rfl,?_};refine{e,Y,X.same z2,(r e (by simp)).1,(r e (by simp)).2,λO v3 H3 p3 D t3=>?_,λt H3 D=>q (λd h=>?_) _ (z2.trans D)}
 rotate_left
 ·obtain⟨n,c,b,ds,_,h1,_⟩:=no d h
  exact absurd h1 (t c)
 have z3:=z2.trans D;refine{_,_,_,.str a,Y,Y,au.of (D _ _ (G _ _ o)),bj (j:=3) rfl,?_};refine{a,Y,X.same z3,(r a (by simp)).1,(r a (by simp)).2,λU v4 H4 p4 C t4=>?_,λt H4 C=>q (λd h=>?_) _ (z3.trans C)}
 rotate_left
 ·obtain⟨n,c,b,ds,_,_,h1,_⟩:=no d h
  exact absurd h1 (t b)
 have z4:=z3.trans C;refine{qj (aC (ze rfl)),λq5 H5 g5 s5 e5=>?_};have z5:=z4.trans s5;refine{_,Y,q1,_,Y,au.of (s5 _ _ (C _ _ (D _ _ (G _ _ o)))),λq6 H6 g6 s6 e6=>?_}
 have e6:H6 q6=some (.lst (rest.map V.str)):=by rw[e6,show(4:Int)=((4:Nat):Int) from rfl,eK];rfl
 have z6:=z5.trans s6;have x:Bm rest:={Nat.le_trans (by simp;omega) m.bg,λy hy=>r y (by simp[hy])};refine{q6,rest,Y,X.same z6,e6,x,λS v7 H7 p7 R t7=>?_,λt H7 R=>q (λd h=>?_) _ (z6.trans R)}
 rotate_left
 ·obtain⟨n,c,b,ds,_,_,_,h1,_⟩:=no d h
  exact absurd h1 (t ds)
 have z7:=z6.trans R;refine{c1 _,λq8 H8 g8 s8 e8=>?_};refine{q5,q8,_,_,Y,Y,s8 _ _ (R _ _ (s6 _ _ e5)),e8,qj (aC (ze rfl)),λq9 H9 s9 e9=>?_};have Z:=z7.trans (s8.trans s9);have hD:jP (.tuple [.str w,d2,O,U,.tuple S]) z:=.mk f p2 p3 p4 p7;have y9:=s8.trans s9;have y6:=s5.trans (s6.trans (R.trans y9));have dt:DT H9 (.ref q9) (.tuple [.str w,d2,O,U,.tuple S]):=.tup e9 (.cons (.str w) (.cons (t2.same (D.trans (C.trans y6))) (.cons (t3.same (C.trans y6)) (.cons (t4.same y6) (.cons (t7.same y9) .nil)))));refine{_,ws,_,cU (.tuple [.str w,d2,O,U,.tuple S]),Y,(X.same Z).md,hw.mono Z,dt.tv (Ft (by rw[f];exact m) hD),λH10 B=>{_,Y,?_}};refine aG (λh=>?_) λh=>?_
 ·have h:c9 ws (cU (.tuple [.str w,d2,O,U,.tuple S]))=false:=by simpa using h
  exact{z,Y,sh,λv=>{c1 v,q (λd h2=>by rw[ov _ _ _ h2 hD];exact h) _ (Z.trans B)}}
 ·have h:c9 ws (cU (.tuple [.str w,d2,O,U,.tuple S]))=true:=by simpa using h
  exact k _ _ _ hD h (Z.trans B) (dt.same B)
def BE(T:Txt K mg tk)(F:FO K mg "_law_refused" rH)(j:oG P w K mg base)(f:PU K aq fX):tj P w K mg base:=by
 refine aH F wG (fF λ_ _=>rfl) (λ_ _ _ _ h=>Rn h) λS N A outer s H vs Q E D h=>?_
 refine{_,(ak (R9 j D T.bZ T.mB T.gM T.m3 wG.nd 2 (a2 (na 0) (na 1)) (λ_=>(ak (sn wG.nd 3 (aA (ac (cb (lK f) T.aw boot_isinstance (a2 (na 2) (fi (v:=.ref fA) rfl T.vY rfl))) (ac (cb (lK f) T.aw boot_isinstance (a2 (na 2) (fi (v:=.ref de) rfl T.pO rfl))) (a2 (cb (lK f) T.aw boot_isinstance (a2 (na 2) (fi (v:=.ref ej) rfl T.qS rfl))) (cb (lK f) T.aw boot_isinstance (a2 (na 2) (fi (v:=.ref fB) rfl T.uX rfl))))))))
   (ak (sn wG.nd 3 (ae a9 (na 3) (aA (ac (cb (lK f) T.aw boot_isinstance (a2 (na 2) (fi (v:=.ref c_) rfl T.oQ rfl))) (a2 (cb (lK f) T.aw boot_isinstance (a2 (na 2) (fi (v:=.ref eg) rfl T.t9 rfl))) (cb (lK f) T.aw boot_isinstance (a2 (na 2) (fi (v:=.ref dW) rfl T.uC rfl))))))))
   (ao (av (eO (cb (lK f) T.aw boot_isinstance (a2 (na 2) (fi (v:=.ref aq) rfl T.b0 rfl))) (eO (cb (lK f) T.aw boot_isinstance (a2 (na 2) (gC (v:=.ty "ValueError") (by rfl) T.lQ OA rfl))) (dS (ce R7 cB (na 3)))))))))))
   (ao (av cB))),?_}
 rcases h with⟨p,v,rfl,I,k⟩|⟨p,ws,z,rfl,R,hw,tx,no,k⟩
 ·refine .no p v rfl I λH1 q=>{Y,λa C=>?_}
  have y:ag H1 (upd H1 a (kN a aq)):=ag.new C;have b:upd H1 a (kN a aq) a=some (kN a aq):=aN;refine{a,_,false,Y,b,Y,?_};refine{a,_,false,Y,b,Y,?_};refine{a,_,false,Y,b,Y,?_};refine{a,_,false,Y,b,Y,ar rfl,λx M L c o=>?_};refine{a,_,false,Y,c _ _ b,Y,?_};refine{a,_,false,Y,c _ _ b,Y,?_};refine{a,_,false,Y,c _ _ b,Y,ar rfl,λB G O g m=>?_};refine{x,B,_,_,Y,Y,g _ _ o,m,ar rfl,λn r J i t=>?_};have e:=i _ _ (g _ _ (c _ _ b));refine{a,_,true,Y,e,Y,_,Y,aB ?_};refine{a,_,true,Y,e,Y,_,Y,aB ?_};refine{n,_,Y,.inl (au.of t),Y,Y,?_};exact k r (q.trans (y.trans (c.trans (g.trans i))))
 refine .mk p ws z rfl R hw tx.sh tx.len tx.aK (λd v H1 h1 h2=>?_) λ_ H1 q=>{Y,λa C=>?_}
 ·rw[no d h1]at h2
  exact nomatch h2
 have y:ag H1 (upd H1 a (kN a aq)):=ag.new C;have b:upd H1 a (kN a aq) a=some (kN a aq):=aN;refine{a,_,false,Y,b,Y,?_};refine{a,_,false,Y,b,Y,?_};refine{a,_,false,Y,b,Y,?_};refine{a,_,false,Y,b,Y,ar rfl,λx M L c o=>?_};refine{a,_,false,Y,c _ _ b,Y,?_};refine{a,_,false,Y,c _ _ b,Y,?_};refine{a,_,false,Y,c _ _ b,Y,ar rfl,λB G O g m=>?_};refine{x,B,_,_,Y,Y,g _ _ o,m,ar rfl,λn r J i t=>?_};have e:=i _ _ (g _ _ (c _ _ b));refine{a,_,true,Y,e,Y,_,Y,aB ?_};refine{a,_,true,Y,e,Y,_,Y,aB ?_};refine{n,_,Y,.inl (au.of t),Y,Y,?_};exact k r (q.trans (y.trans (c.trans (g.trans i))))
def Gz(T:Txt K mg tk)(F:FO K mg "_law_by_another" uA)(y:tj P w K mg base)(j:rM P w K mg base)(G:oG P w K mg base):zN P w K mg base:=by
 refine fI F Jv (fF λ_ _=>rfl) {} λfa cdv A outer s H vs Q E m h=>?_
 refine{_,(ak (sn Jv.nd 2 (ae a9 (aX bG (na 0) (aV ai) aZ) (aX bG (na 0) aZ (aV ai))))
   (ak (ax (ck aR (xu (xt (na 1)) (bm PySem.F.plainAttrs_list PySem.F.slot_list_index PySem.F.type_list_index (SQ m) (na 2) (a1 (xt (na 1))))) (ae ny (xt (na 1)) ai)) (ao (av (ce (PR m) (iW G cV m (a2 (na 2) (cl j m (a1 (na 1))))) (na 1)))) aO)
   (ao (av (cl y m (a2 (na 2) (cl j m (a1 (na 1))))))))),?_}
 obtain⟨p,ws,v,za,n,cs,b,wt,aK,rfl,c,mr,D,ok,dt,l2,k⟩:=h;have bg:=c.bg;refine{_,Y,p,_,Y,au.of c.at',λq1 H1 g1 W U=>?_};refine{_,Y,p,_,Y,au.of (W _ _ c.at'),λq2 H2 g2 s2 e2=>?_};rw[show(1:Int)=((1:Nat):Int) from rfl,eK,←j5]at U;rw[show(1:Int)=((1:Nat):Int) from rfl,ik (by rw[qf];omega),←List.map_take]at e2;refine{q1,q2,_,_,Y,Y,s2 _ _ U,e2,Nat.le_of_lt (aC (by simp;omega)),λS X g3 s3 M=>?_};rw[←zm]at M;have f:=W.trans (s2.trans s3)
 have hl:(ws.drop 1++ws.take 1).length=ws.length:=by simp;omega
 have hm:=OB ws;have a:RL X S (ws.drop 1++ws.take 1):={M,(),(),λw hw=>c.wd w ((hm w).mp hw)};generalize ws.drop 1++ws.take 1=ws' at hl hm a M;have o:za∈ws':=(hm za).mpr D.qK;have C:=dt.same f
 have t:sv X v za n (cs.map PyData.int) b aK:=by
  obtain⟨⟨q,hq,bv,wv,R,h0,h1,h2,h3,h4,h5⟩,a1,a2,a3,a4,a5⟩:=ok;exact{{q,hq,bv,wv,R,h0,f _ _ h1,h2.same f,h3.same f,h4.same f,h5},a1,a2,a3,a4,a5}
 have L:=C
 cases L with
 |@tup dp xs _ O td =>
 cases td with
 |cons t0 td =>
 cases t0
 cases td with
 |cons t1 td =>
 cases t1
 cases td with
 |cons t2 td =>
 cases t2 with
 |@tup V B _ hc N =>
 cases td with
 |cons t3 td =>
 cases td with
 |cons t4 td =>
 cases td;have hlt:ws'.idxOf za<ws'.length:=(zr.mp (u9 o)).1;have hcl:=D.lc
 have J:B[ws'.idxOf za]?=some (.int (cs[ws'.idxOf za]'())):=by
  obtain⟨x,hx,tx⟩:=IG N (i:=ws'.idxOf za) (d:=.int (cs[ws'.idxOf za]'())) (by rw[zj,qm ()];rfl);cases tx;exact hx
 refine{_,_,_,.ref V,Y,Y,aI.of O,Y,?_};refine{.inl {Y,_,au.of a.at'},?_};refine{_,_,_,.str za,Y,Y,aI.of O,Y,?_};refine Im a o ?_;refine{V,B,_,_,Y,Y,aI.of hc,bj J,?_};refine{_,_,_,.int n,Y,Y,aI.of O,Y,?_};refine{_,_,Y,Y,Y,_,Y,?_};have tx:=BU (ws':=ws') D c.wd l2 bg;have z:cs[ws'.idxOf za]?=some (cs[ws'.idxOf za]'()):=qm _;refine aG (λh=>?_) λh=>?_
 ·have h:cs[ws'.idxOf za]'()=n - 1:=by simpa using h
  have own:c9 ws' (cU (d0 za n cs b wt))=true:=by rw[Jp D c.wd hm hl,z,h];exact qs rfl
  refine{_,za,n,_,b,aK,Y,t,λH4 g=>?_};rw[FH];refine .mk S ws' _ rfl (mr.same (f.trans g)) (a.mono g) tx.sh tx.len tx.aK (λd u Z r5 m5 r t5=>?_) λno Z r=>?_
  ·have ed:=ov _ _ _ r5 (D.rd c.wd () bg)
   subst ed;have I:=LQ D c.wd;refine{_,_,t5.dv,(C.same (g.trans r)).dv,I.lay,I.lay,qg (ji _ _) (qg I.NC ⋯),?_};show Q (.bl (PyData.eqv _ _)) _;rw[I.self];exact k _ (f.trans (g.trans r))
  ·rw[no _ (D.rd c.wd () bg)]at own
   exact nomatch own
 ·have h:¬cs[ws'.idxOf za]'()=n - 1:=by simpa using h
  refine{_,za,n,_,b,aK,Y,t,λH4 g=>?_};rw[FH];refine .mk S ws' _ rfl (mr.same (f.trans g)) (a.mono g) tx (RJ D c.wd () bg hm hl (by rw[z];exact λe=>h (qD e))) λZ r=>?_;exact k _ (f.trans (g.trans r))
def Fh(T:Txt K mg tk)(F:uM K "law" "law" i6 fa fd)(gfAq:zN P w K mg base)(gfAx:yO P w K mg base)(gfBk:oy P w K mg base)(gfBj:xb P w K mg base)(l:tj P w K mg base)(gfBl:rM P w K mg base)(gfBb:yV P w K mg base)(gfCc:oG P w K mg base):fw P w K mg base p_ 12 fa fd ["_law_script"] lM:=by
 refine F.ok kF {} λcdv A outer s H vs Q E r h=>?_
 refine{_,(ak (o8 (cl gfBj r (a2 (na 0) ai)) (gt (fc (gn kF.nd 1) (fc (gn kF.nd 2) nF))))
   (ak (fo (Ng (by rfl) T.iy (a1 (na 2))) (gt (fc (gn kF.nd 3) (fc (gn kF.nd 4) nF)))
   (ak (sn kF.nd 5 (cl gfBl r (a1 (na 4))))
   (ak (fo (il (cl gfBk r (a2 (ae er (ae dX (xi (na 0) (ae er ai (na 3))) ai) (na 3)) ai))) (gn kF.nd 6)
   (ao (ax (cY (cI (cl l r (a2 (na 1) (cl gfBb r (ac (na 5) (a2 (na 1) (na 6)))))))) (ao (av cB)) aO)))
   (ak (fo (il (aA (MN (Aj aL (na 5) Ig) (rJ (Qn (na 5)) (rJ (Nt (EM PySem.F.plainAttrs_str PySem.F.slot_str_upper PySem.F.type_str_upper GH (na 5))) (rJ (Nt (ae aL (aX jW (na 5) aZ (aV (mK rG ai))) ah)) (pap kQ))))))) (gn kF.nd 7)
   (ao (ax (cY (cI (cl l r (a2 (na 1) (na 7))))) (ao (av cB)) aO)))
   (ao (ax (PW.pt (eD (ck (I9 r) (iW gfCc x_ r (a2 (na 1) (na 5))) (na 4)) (iw (cY (cI (iW gfAq x_ r (a2 (na 1) (na 4)))))))) (ao (av cB)) aO))))))
   (ak (fo (il (cl gfAx r (a1 (na 1)))) (gn kF.nd 5)
   (ao (ax (cY (cI (cl l r (a2 (na 1) (na 5))))) (ao (av cB)) aO)))
   (ak (fo (il (aA (ac ah (ac ah (ac ah (ac gK (ac ai (ac cB (ac (aA kQ) (ac (aA (a1 ah)) (a2 N3 (bF (a2 (xl (na 1)) ai))))))))))))) (gn kF.nd 8)
   (ao (ax (cY (cI (cl l r (a2 (na 1) (na 8))))) (ao (av cB)) aO)))
   (ao (av cB)))))),?_}
 obtain⟨sp,ns,rfl,hs,hl,md,k⟩:=h;refine{sp,ns,_,Y,hs,hl,λH1 p0 p dp ws ds des s1 _ e1 J h2 nd _ ed hdd W hbw hlen=>?_};refine{p0,_,Y,aI.of e1,Y,_,_,Y,_,_,Y,Y,?_};have hdl:des.length=ds.length:=hdd.1;have bg:=J.bg;have hw:=J.wd
 have oO:∀{n:Nat},n≤20000->n≤sizeLine:=λh=>by rw[sizeLine_eq];omega
 have f:∀{v:V} {H' H0:Hp} {Q':VK},pZ ws H' v->ag H1 H'->(∀H'',ag H' H''->Q' (.bl true) H'')->nN [.ref p,v] H' Q' E:=λod s kq=>by
  cases od with
  |s z h1 h2=>exact .mk p ws z rfl (md.same (s1.trans s)) (J.mono s) h1 h2 kq
  |k v h=>exact .no p _ rfl (h _ (ag.refl _)) kq
 refine{dp,Y,{_,au.of ed},MQ (xs:=des) (λi σ H'=>∃v3 v4 X I C G,σ=[some (.ref sp),some (.ref p),some (.ref dp),v3,v4,X,I,C,G]/\ag H1 H') {none,none,none,none,none,none,Y,ag.refl _} (λi σ H' _ ⟨_,_,_,_,_,_,_,s⟩=>au.of (s _ _ ed)) ?_ ?_}
 ·rintro i x σ H4 pe hx ⟨v3,v4,X,I,C,G,rfl,R⟩ hpe
  refine{pe,_,Y,aI.of aN,Y,_,_,Y,_,_,Y,Y,?_};have R:=R.up (o:=.tup [.int i,x]) hpe
  have hi:i<ds.length:=by rw[←hdl];exact(zr.mp hx).1
  have hn:1+i<ns.length:=()
  obtain⟨v,hv,hat⟩:=hdd.2 i _ (qm hi);rw[hx]at hv;cases hv;have t:=vk hi;obtain⟨za,aK,_,n,cs,b,wt,ok,D,dt⟩:=K' J nd W () t (hat.mono R) (hbw _ t).1 (hbw _ t).2;refine{_,za,n,_,b,aK,Y,ok,λH5 s5=>?_};rw[FH];have z5:=R.trans s5;have dt5:=dt.same s5;refine{_,_,Y,Y,sp,_,_,.int ns[1+i],Y,Y,hs.same (s1.trans z5),?_,_,_,Y,Y,{⋯,⋯},_,_,Y,Y,_,4,Y,⋯,λH6 dq ms M g6 d6 hl6=>?_}
  ·rw[show(1:Int)+(i:Int)=((1+i:Nat):Int) from ()]
   exact bj (by rw[zj,qm hn];rfl)
  have z6:=z5.trans M;refine{dq,Y,{_,au.of d6.at'},oY (xs:=ms.map V.int) (λj σ H'=>∃I,σ=[some (.ref sp),some (.ref p),some (.ref dp),some (.int i),some x,some (.str (Txt.join " " (w0 za n cs b aK))),I,C,G]/\ag H6 H') {I,Y,ag.refl _} (λj σ H' _ ⟨_,_,s⟩=>au.of (s _ _ d6.at')) ?_ ?_}
  ·rintro j y σ H7 N ⟨I,rfl,g⟩
   obtain⟨c,rfl⟩:∃n,y=V.int n:=by
    obtain⟨n,_,e⟩:=qk.mp (qx N);exact{n,e.symm}
   have S:=z6.trans g;refine{p,ws,za,n,cs,b,wt,aK,c,Y,J.mono S,D,h2,λz Z tx rf m=>?_};refine f (H0:=Z) (.s z tx rf) (S.trans m) λH9 B=>{_,Y,aD ?_};exact{_,Y,g.trans (m.trans B)}
  rintro σ H7 ⟨v6',rfl,g⟩;have S:=z6.trans g;have L:=BU (ws':=ws) D hw h2 bg;have o1:=N6 D hw h2 bg;have o2:=PK D hw h2 bg;have o3:=Sv D hw h2 bg;have o4:=NS D hw h2 bg;have lz:=L.len;have lz':(Txt.join " " (w0 za n cs b aK)).length≤sizeLine:=oO ()
  have ln:("\n":Str).length=1:=∅
  have lt:("\t":Str).length=1:=∅
  have lq:("?":Str).length=1:=∅
  have o4l:=o4.1.len;rw[bL]at o4l;refine{_,_,Y,Y,oO (),Y,_," ","\t",Y,Y,∅,by rw[lt];omega,?_};refine{Y,_,Y,Y,lz,?_};refine{_,Y,_,Y,_,Y,lz',?_};refine{_,_,Y,Y,oO (),ar rfl,λq8 Z g8 m e8=>?_};have z8:=S.trans m;refine{q8,Y,{_,au.of e8},oY (xs:=[.str (Txt.join " " (w0 za n cs b aK)++"\n"),.str (gZ (Txt.join " " (w0 za n cs b aK)) " " "\t" 1),.str (Txt.upper (Txt.join " " (w0 za n cs b aK))),.str (aJ (Txt.join " " (w0 za n cs b aK)) none (some (-1))++"?")]) (λj σ H'=>∃C,σ=[some (.ref sp),some (.ref p),some (.ref dp),some (.int i),some x,some (.str (Txt.join " " (w0 za n cs b aK))),v6',C,G]/\ag Z H') {C,Y,ag.refl _} (λj σ H' _ ⟨_,_,s⟩=>au.of (s _ _ e8)) ?_ ?_}
  ·rintro j y σ H9 N ⟨C,rfl,B⟩
   have od:pZ ws H9 y:=(ic (.s _ o1.1 o1.2) (ic (.s _ o2.1 o2.2) (ic (.s _ o3.1 o3.2) (ic (.s _ o4.1 o4.2) Lf)))) y (qx N);refine f (H0:=H9) od (z8.trans B) λH10 a=>{_,Y,aD ?_};exact{_,Y,B.trans a}
  rintro σ H9 ⟨v7',rfl,B⟩;have z9:=z8.trans B;have dt9:=dt5.same (M.trans (g.trans (m.trans B)))
  have ok9:sv H9 x za n (cs.map PyData.int) b aK:=by
   have zz:=s5.trans (M.trans (g.trans (m.trans B)));obtain⟨⟨q,hq,bv,wv,O,h0,h1,h2,h3,h4,h5⟩,a1,a2,a3,a4,a5⟩:=ok;exact{{q,hq,bv,wv,O,h0,zz _ _ h1,h2.same zz,h3.same zz,h4.same zz,h5},a1,a2,a3,a4,a5}
  have rd:=D.rd hw () bg;have own:=D.En hw;refine .mk p ws _ rfl (md.same (s1.trans z9)) (J.mono z9) L.sh L.len L.aK (λd u H10 r10 m10 a t10=>?_) λno H10 a=>?_
  ·have ed:=ov _ _ _ r10 rd
   subst ed;have gc:=LQ D hw;refine{_,_,t10.dv,(dt9.same a).dv,gc.lay,gc.lay,qg (ji _ _) (qg gc.NC ⋯),?_};refine{_,Y,?_}
   show if(!PyData.eqv _ _)=true then _ else _
   rw[gc.self];refine{p,ws,x,za,n,cs,b,wt,aK,Y,J.mono (z9.trans a),md.same (s1.trans (z9.trans a)),D,?_,dt9.same a,h2,λH11 s11=>{_,Y,aD ?_}}
   ·obtain⟨⟨q,hq,bv,wv,O,h0,h1,h2,h3,h4,h5⟩,a1,a2,a3,a4,a5⟩:=ok9
    exact{{q,hq,bv,wv,O,h0,a _ _ h1,h2.same a,h3.same a,h4.same a,h5},a1,a2,a3,a4,a5}
   exact{_,_,_,_,_,_,Y,z9.trans (a.trans s11)}
  ·rw[no _ rd]at own
   exact nomatch own
 rintro σ H4 ⟨v3,v4,X,I,C,G,rfl,R⟩;refine{p,ws,Y,J.mono R,h2,λq5 h H5 U g5 s5 e5=>?_};have z5:=R.trans s5;have ok:=Ii bg;have bok:=A9 (hw h (qx U)) U ok.1 ok.2 h2 bg;refine{q5,Y,{_,au.of e5},oY (xs:=(IM h (i7 ws) ws.length).map V.str) (λj σ H'=>∃X,σ=[some (.ref sp),some (.ref p),some (.ref dp),v3,v4,X,I,C,G]/\ag H5 H') {X,Y,ag.refl _} (λj σ H' _ ⟨_,_,s⟩=>au.of (s _ _ e5)) ?_ ?_}
 ·rintro j y σ H6 N ⟨X,rfl,M⟩
  obtain⟨z,hz,rfl⟩:=qk.mp (qx N);have:=bok z hz;refine f (H0:=H6) (.s z this.1 this.2) (z5.trans M) λH7 g=>{_,Y,aD ?_};exact{_,Y,M.trans g}
 rintro σ H6 ⟨v5',rfl,M⟩;have z6:=z5.trans M;refine{ar rfl,λqa Ha ga sa ea=>?_};refine{ar rfl,λqb Hb gb sb eb=>?_};refine λqd Hd gd sd ed'=>?_;have zd:=z6.trans (sa.trans (sb.trans sd));refine{_,_,_,.str h,Y,Y,au.of (J.mono zd).at',AS U,?_};refine{ar rfl,λqt Ht gt st et=>?_};refine{ar rfl,λq7 H7 g7 g e7=>?_};have S:=zd.trans (st.trans g);have wl:∀{x:Str},dC x=true->fb x:=bQ;have t1:=Gb (ws:=ws) (z:="") [""] ∅ ⋯ ⋯ (dI (wl ∅));have t2:=Gb (ws:=ws) (z:=" ") ["",""] ∅ ⋯ ⋯ (aY (wl ∅) (dI (wl ∅)));have t3:=Gb (ws:=ws) (z:="nothing") ["nothing"] ∅ ⋯ ⋯ (dI (wl ∅))
 have od:∀u∈([.str "",.str " ",.str "nothing",.a',.int 5,.bl true,.ref qa,.ref qb,.ref qd,.ref qt]:List V),pZ ws H7 u :=
  ic (.s _ t1.1 t1.2) (ic (.s _ t2.1 t2.2) (ic (.s _ t3.1 t3.2) (ic (.k _ λ_ _=>.a') (ic (.k _ λ_ _=>K_ _) (ic (.k _ λ_ _=>QU _)
   (ic (.k _ λ_ s=>xk (s _ _ (g _ _ (st _ _ (sd _ _ (sb _ _ ea)))))) (ic (.k _ λ_ s=>xk (s _ _ (g _ _ (st _ _ (sd _ _ eb))))) (ic (.k _ λ_ s=>Mq (s _ _ (g _ _ (st _ _ ed')))) (ic (.k _ λ_ s=>Hn (s _ _ (g _ _ et))) Lf)))))))))
 refine{q7,Y,{_,au.of e7},oY (xs:=[.str "",.str " ",.str "nothing",.a',.int 5,.bl true,.ref qa,.ref qb,.ref qd,.ref qt]) (λj σ H'=>∃G,σ=[some (.ref sp),some (.ref p),some (.ref dp),v3,v4,v5',I,C,G]/\ag H7 H') {G,Y,ag.refl _} (λj σ H' _ ⟨_,_,s⟩=>au.of (s _ _ e7)) ?_ ?_}
 ·rintro j y σ Z N ⟨G,rfl,m⟩
  refine f (H0:=Z) ((od y (qx N)).mono m) (S.trans m) λH9 B=>{_,Y,aD ?_};exact{_,Y,m.trans B}
 rintro σ Z ⟨v8',rfl,m⟩;exact k _ (s1.trans (S.trans m))
end
def Qe{P:Program}{w:World}{K:PySem.W.Frag}{mg:Str->Option Value}{base:Heap}(r:sU P w K mg base)(u:yW P w K mg base)(q:sy P w K mg base)(t:yQ P w K mg base)(y:yB P w K mg base)(o:lE P w K mg base)(v:sX P w K mg base)(J:xF P w K mg base)(p:yK P w K mg base)(F:zP P w K mg base)(c:xA P w K mg base)(e:xp P w K mg base)(a:y_ P w K mg base)(i:zL P w K mg base)(d:yX P w K mg base)(n:xg P w K mg base)(x:mg "is_counts"=some (.ref eF))(E:mg "is_deed_number"=some (.ref bS))(G:mg "is_hand"=some (.ref f'))(z:mg "is_leave"=some (.ref fq))(I:mg "is_line_or_none"=some (.ref b9))(B:mg "is_name"=some (.ref cP))(A:mg "is_part"=some (.ref bA))(s:mg "is_plain_word"=some (.ref bh))(D:mg "is_side"=some (.ref da))(H:mg "is_sign_name_or_none"=some (.ref bx))(h:mg "is_sign_names"=some (.ref cJ))(l:mg "is_signs"=some (.ref fj))(m:mg "is_truth"=some (.ref fx))(b:mg "is_way"=some (.ref hB))(g:mg "is_word_or_empty"=some (.ref bW))(j:mg "is_word_or_none"=some (.ref b_)):∀f sp,jC f sp->∃k fd ps,k≤6/\fw P w K mg base p_ k f fd ps sp/\PySem.W.keepIn K (.ref f)=true/\Binds K fd ps []:=by
 rintro f sp ⟨C,rfl,rfl⟩
 cases C with
 |counts=>exact m9 r x
 |num=>exact m9 u E
 |hand=>exact m9 q G
 |leave=>exact m9 t z
 |line=>exact m9 y I
 |name=>exact m9 o B
 |part=>exact m9 v A
 |word=>exact m9 J s
 |side=>exact m9 p D
 |vu=>exact m9 F H
 |pX=>exact m9 c h
 |signs=>exact m9 e l
 |truth=>exact m9 a m
 |way=>exact m9 i b
 |GS=>exact m9 d g
 |won=>exact m9 n j
def Q6{P:Program}{w:World}{K:PySem.W.Frag}{mg:Str->Option Value}{base:Heap}(g:rB P w K mg base)(j:og P w K mg base)(e:x6 P w K mg base)(i:lG P w K mg base)(n:tR P w K mg base)(c:iA P w K mg base)(l:zU P w K mg base)(z:yA P w K mg base)(d:zY P w K mg base)(t:zB P w K mg base)(a:xx P w K mg base)(m:mg "read_counts"=some (.ref dj))(s:mg "read_name"=some (.ref bU))(u:mg "read_name_or_none"=some (.ref bO))(o:mg "read_number"=some (.ref cE))(y:mg "read_part"=some (.ref aW))(q:mg "read_plain"=some (.ref bb))(p:mg "read_plain_or_empty"=some (.ref bC))(h:mg "read_plain_or_none"=some (.ref bH))(r:mg "read_side"=some (.ref cn))(v:mg "read_sign_name_or_none"=some (.ref bc))(b:mg "read_truth"=some (.ref dU)):∀f sp,gY f sp->∃k fd ps,k≤6/\fw P w K mg base (nv P w) k f fd ps sp/\PySem.W.keepIn K (.ref f)=true/\Binds K fd ps []:=by
 rintro f sp ⟨x,rfl,rfl⟩
 cases x with
 |counts=>exact jK g m
 |name=>exact jK j s
 |fD=>exact jK e u
 |number=>exact jK i o
 |part=>exact jK n y
 |plain=>exact jK c q
 |dD=>exact jK l p
 |plainN=>exact jK z h
 |side=>exact jK d r
 |snN=>exact jK t v
 |truth=>exact jK a b
def all_mk{l:PySem.W.OpenLaw}{w:World}{K:PySem.W.Frag}{h:Heap}{mg:Str->Option Value}{fa:Addr}(X:K.In h)(G:h.Ns mainGlobals mg)(hfa:mg "law"=some (.ref fa)){r:Tok}{i:Tok}{u:Tok}{z:Tok}(zb_ValueError:PySem.W.nsIn K mainGlobals "ValueError"=some none)(zb_all:PySem.W.nsIn K mainGlobals "all"=some none)(zb_bool:PySem.W.nsIn K mainGlobals "bool"=some none)(zb_enumerate:PySem.W.nsIn K mainGlobals "enumerate"=some none)(zb_int:PySem.W.nsIn K mainGlobals "int"=some none)(zb_isinstance:PySem.W.nsIn K mainGlobals "isinstance"=some none)(zb_len:PySem.W.nsIn K mainGlobals "len"=some none)(zb_list:PySem.W.nsIn K mainGlobals "list"=some none)(zb_max:PySem.W.nsIn K mainGlobals "max"=some none)(zb_range:PySem.W.nsIn K mainGlobals "range"=some none)(zb_set:PySem.W.nsIn K mainGlobals "set"=some none)(zb_str:PySem.W.nsIn K mainGlobals "str"=some none)(zb_tuple:PySem.W.nsIn K mainGlobals "tuple"=some none)(zb_zip:PySem.W.nsIn K mainGlobals "zip"=some none)(Y:PySem.W.nsIn K mainGlobals "MOST_DIGITS"=some (some (.int 7 r)))(V:PySem.W.nsIn K mainGlobals "MOST_LETTERS"=some (some (.int 8 i)))(zc_MOST_NUMBER:PySem.W.nsIn K mainGlobals "MOST_NUMBER"=some (some (.int 1000000 u)))(zc_MOST_SIGNS:PySem.W.nsIn K mainGlobals "MOST_SIGNS"=some (some (.int 12 z)))(zt_LEAVES:PySem.W.nsIn K mainGlobals "LEAVES"=some (some (.ref dm)))(zt_MAIN:PySem.W.nsIn K mainGlobals "MAIN"=some (some (.ref fW)))(zt_WAYS:PySem.W.nsIn K mainGlobals "WAYS"=some (some (.ref fR)))(zt_WHERES:PySem.W.nsIn K mainGlobals "WHERES"=some (some (.ref dB)))(zt_FORMS:PySem.W.nsIn K mainGlobals "FORMS"=some (some (.ref eG)))(zt_READERS:PySem.W.nsIn K mainGlobals "READERS"=some (some (.ref cR)))(za_is_counts:PySem.W.nsIn K mainGlobals "is_counts"=some (some (.ref eF)))(Q:PySem.W.nsIn K mainGlobals "is_deed_number"=some (some (.ref bS)))(za_is_hand:PySem.W.nsIn K mainGlobals "is_hand"=some (some (.ref f')))(za_is_leave:PySem.W.nsIn K mainGlobals "is_leave"=some (some (.ref fq)))(H:PySem.W.nsIn K mainGlobals "is_line_or_none"=some (some (.ref b9)))(za_is_name:PySem.W.nsIn K mainGlobals "is_name"=some (some (.ref cP)))(za_is_part:PySem.W.nsIn K mainGlobals "is_part"=some (some (.ref bA)))(S:PySem.W.nsIn K mainGlobals "is_plain_word"=some (some (.ref bh)))(za_is_side:PySem.W.nsIn K mainGlobals "is_side"=some (some (.ref da)))(f:PySem.W.nsIn K mainGlobals "is_sign_name_or_none"=some (some (.ref bx)))(R:PySem.W.nsIn K mainGlobals "is_sign_names"=some (some (.ref cJ)))(za_is_signs:PySem.W.nsIn K mainGlobals "is_signs"=some (some (.ref fj)))(za_is_truth:PySem.W.nsIn K mainGlobals "is_truth"=some (some (.ref fx)))(za_is_way:PySem.W.nsIn K mainGlobals "is_way"=some (some (.ref hB)))(A:PySem.W.nsIn K mainGlobals "is_word_or_empty"=some (some (.ref bW)))(J:PySem.W.nsIn K mainGlobals "is_word_or_none"=some (some (.ref b_)))(Z:PySem.W.nsIn K mainGlobals "read_counts"=some (some (.ref dj)))(za_read_name:PySem.W.nsIn K mainGlobals "read_name"=some (some (.ref bU)))(y:PySem.W.nsIn K mainGlobals "read_name_or_none"=some (some (.ref bO)))(za_read_number:PySem.W.nsIn K mainGlobals "read_number"=some (some (.ref cE)))(za_read_part:PySem.W.nsIn K mainGlobals "read_part"=some (some (.ref aW)))(za_read_plain:PySem.W.nsIn K mainGlobals "read_plain"=some (some (.ref bb)))(n:PySem.W.nsIn K mainGlobals "read_plain_or_empty"=some (some (.ref bC)))(p:PySem.W.nsIn K mainGlobals "read_plain_or_none"=some (some (.ref bH)))(za_read_side:PySem.W.nsIn K mainGlobals "read_side"=some (some (.ref cn)))(b:PySem.W.nsIn K mainGlobals "read_sign_name_or_none"=some (some (.ref bc)))(za_read_truth:PySem.W.nsIn K mainGlobals "read_truth"=some (some (.ref dU)))(zm_FORMS:L2.MD w K eG dY)(zm_READERS:L2.MD w K cR cN)(zg_FolkError:PySem.W.nsIn K mainGlobals "FolkError"=some (some (.ref cQ)))(zx_FolkError:PySem.W.excIn K cQ NA "ValueError.__new__"=true)(zg_NoDeed:PySem.W.nsIn K mainGlobals "NoDeed"=some (some (.ref aq)))(zx_NoDeed:PySem.W.excIn K aq NA "ValueError.__new__"=true)(zg_NoLeave:PySem.W.nsIn K mainGlobals "NoLeave"=some (some (.ref de)))(zg_NoPast:PySem.W.nsIn K mainGlobals "NoPast"=some (some (.ref ej)))(zg_NoRow:PySem.W.nsIn K mainGlobals "NoRow"=some (some (.ref fB)))(zg_NoSet:PySem.W.nsIn K mainGlobals "NoSet"=some (some (.ref fA)))(zg_NoThing:PySem.W.nsIn K mainGlobals "NoThing"=some (some (.ref c_)))(zg_Poured:PySem.W.nsIn K mainGlobals "Poured"=some (some (.ref eg)))(zg_Unlike:PySem.W.nsIn K mainGlobals "Unlike"=some (some (.ref dW)))(N:PySem.W.findIn K (.ref aq) "__getattribute__"=some (some (.builtin "BaseException.__getattribute__")))(M:PySem.W.findIn K (.ref aq) "__getattr__"=some none)(E:PySem.W.findIn K (.ref aq) "__class__"=some (some (.builtin "object.__class__")))(F:PySem.W.mroIn K aq (.type "object")=some true)(L:PySem.W.mroIn K aq (.type "BaseException")=some true)(I:(PySem.W.clsIn K aq).isSome=true)(k:PySem.W.kitOne K (.ref aq) (.ref aq)=some true)(a:PySem.W.kitOne K (.ref aq) (.type "ValueError")=some true)(g:PySem.W.kitOne K (.ref aq) (.ref eg)=some false)(j:PySem.W.kitOne K (.ref aq) (.ref dW)=some false)(d:PySem.W.kitOne K (.ref aq) (.ref c_)=some false)(m:PySem.W.kitOne K (.ref aq) (.ref ej)=some false)(o:PySem.W.kitOne K (.ref aq) (.ref fB)=some false)(c:PySem.W.kitOne K (.ref aq) (.ref de)=some false)(q:PySem.W.kitOne K (.ref aq) (.ref fA)=some false)(C:tP K aq cQ=true)(z_fCr:FX K "is_word" tW)(z_fBi:FX K "is_tuple_of" sZ)(z_fCf:FX K "is_number" su)(z_fCb:FX K "is_one_of" se)(z_fCm:FX K "is_main" sf)(z_fBd:FX K "is_any_name" sT)(z_fCn:FX K "is_sign" qN)(z_fCl:FX K "is_hand" rP)(z_fCo:FX K "is_name" rN)(z_fCk:FX K "is_part" sj)(z_fAr:FX K "is_line_or_none" qP)(z_fAz:FX K "is_sign_name" tJ)(z_fAb:FX K "is_sign_name_or_none" ue)(z_fCj:FX K "is_side" uo)(z_fAk:FX K "is_sign_of_roll" uk)(z_fCi:FX K "is_signs" oH)(z_fAv:FX K "is_sign_names" oE)(z_fAw:FX K "is_plain_word" t_)(z_fAl:FX K "is_word_or_none" sV)(z_fAh:FX K "is_word_or_empty" rr)(z_fCs:FX K "is_way" sQ)(z_fCh:FX K "is_leave" ud)(z_fCg:FX K "is_truth" qX)(z_fAs:FX K "is_deed_number" tT)(z_fCe:FX K "is_counts" tM)(z_fCp:FX K "is_what" oC)(z_fBw:FX K "is_branch" tO)(z_fCq:FX K "is_deed" rk)(z_fBg:FX K "read_number" sR)(z_fBn:FX K "read_plain" tS)(z_fBp:FX K "read_name" uE)(z_fBv:FX K "read_part" r8)(z_fAg:FX K "read_name_or_none" tD)(z_fAu:FX K "read_sign_name" rz)(z_fAa:FX K "read_sign_name_or_none" rZ)(z_fBr:FX K "read_side" rD)(z_fBq:FX K "read_sign" tV)(z_fAe:FX K "read_plain_or_none" tI)(z_fAc:FX K "read_plain_or_empty" sr)(z_fBm:FX K "read_truth" tu)(z_fBe:FX K "read_counts" r1)(z_fBc:FX K "read_branch" ri)(z_fBf:FX K "read_listed" tQ)(z_fCa:FX K "read_what" r0)(z_fCc:FX K "read_deed" sD)(z_fBk:FX K "_law_draws" ux)(z_fBs:FX K "_law_word" rS)(z_fCd:FX K "_law_roll" rF)(z_fBt:FX K "_law_name" rx)(z_fBy:FX K "_law_part" qZ)(z_fAt:FX K "_law_sign_name" rQ)(z_fBu:FX K "_law_side" ti)(z_fBz:FX K "_law_sign" rC)(z_fBo:FX K "_law_signs" oz)(z_fAj:FX K "_law_sign_names" uf)(z_fAd:FX K "_law_what_of_signs" si)(z_fAf:FX K "_law_what_of_marks" uG)(z_fBx:FX K "_law_what" sY)(z_fBh:FX K "_law_branch" uD)(z_fBj:FX K "_law_house" kY)(z_fAm:FX K "_law_shown_name" r3)(z_fAi:FX K "_law_shown_sign" tX)(z_fAp:FX K "_law_shown_side" ry)(z_fAy:FX K "_law_or_none" s_)(z_fAn:FX K "_law_shown_what" qV)(z_fBl:FX K "_law_shown" t8)(z_fBa:FX K "_law_refused" rH)(z_fBb:FX K "_law_spoiled" tE)(z_fAo:FX K "_law_bad_things" oD)(z_fAx:FX K "_law_by_hand" mZ)(z_fAq:FX K "_law_by_another" uA)(z_fCt:FX K "law" i6) :
  ∃fd:FuncData,(∀(s:Shared) (v:Value),BindsTo s fd {[v],[]} [("_law_script",v)])/\∀base:Heap,K.In base->base.Ns mainGlobals mg->(∀t∈([]:List Str),base.BuiltinsAt mg (rK K t))->fw l.prog w K mg base p_ 12 fa fd ["_law_script"] lM:=by
 have T:Txt K mg (λx=>if x = "MOST_DIGITS" then r else if x = "MOST_LETTERS" then i else if x = "MOST_NUMBER" then u else if x = "MOST_SIGNS" then z else 0):={PySem.W.mg_none_of X G zb_ValueError,PySem.W.mg_none_of X G zb_all,PySem.W.mg_none_of X G zb_bool,PySem.W.mg_none_of X G zb_enumerate,PySem.W.mg_none_of X G zb_int,PySem.W.mg_none_of X G zb_isinstance,PySem.W.mg_none_of X G zb_len,PySem.W.mg_none_of X G zb_list,PySem.W.mg_none_of X G zb_max,PySem.W.mg_none_of X G zb_range,PySem.W.mg_none_of X G zb_set,PySem.W.mg_none_of X G zb_str,PySem.W.mg_none_of X G zb_tuple,PySem.W.mg_none_of X G zb_zip,PySem.W.mg_of X G Y,PySem.W.mg_of X G V,PySem.W.mg_of X G zc_MOST_NUMBER,PySem.W.mg_of X G zc_MOST_SIGNS,PySem.W.mg_of X G zt_LEAVES,PySem.W.mg_of X G zt_MAIN,PySem.W.mg_of X G zt_WAYS,PySem.W.mg_of X G zt_WHERES,PySem.W.mg_of X G zt_FORMS,PySem.W.mg_of X G zt_READERS,PySem.W.mg_of X G zg_FolkError,{zx_FolkError},PySem.W.mg_of X G zg_NoDeed,{zx_NoDeed},PySem.W.mg_of X G zg_NoLeave,PySem.W.mg_of X G zg_NoPast,PySem.W.mg_of X G zg_NoRow,PySem.W.mg_of X G zg_NoSet,PySem.W.mg_of X G zg_NoThing,PySem.W.mg_of X G zg_Poured,PySem.W.mg_of X G zg_Unlike,Ah C};obtain @⟨_,_,an,_,_,kV,dc,pm,cd,ct,z1,z2,z3,z4⟩:=z_fCt;have e:=hfa.symm.trans (PySem.W.mg_of X G z1);cases e;refine{PySem.W.fnOf "law" "law" (eB i6) (cK i6) (af i6) .none kV dc pm an cd ct,λs v=>.of_eq rfl,λbase _ _ _=>?_};have B:=DF l.prog w base T (z_fCr.fo X G);have D:=Ac l.prog w base T (z_fBi.fo X G);have r_fCf:=BV l.prog w base T (z_fCf.fo X G);have U:=Bs l.prog w base T (z_fCb.fo X G);have r_fCg:=Gd l.prog w base T (z_fCg.fo X G);have r_fBg:=D_ l.prog w base T (z_fBg.fo X G);have r_fBm:=Ad l.prog w base T (z_fBm.fo X G);have r_fBk:=DG l.prog w base T (z_fBk.fo X G);have r_fBs:=Df l.prog w base T (z_fBs.fo X G);have r_fBt:=Dl l.prog w base T (z_fBt.fo X G);have r_fAm:=Dq l.prog w base T (z_fAm.fo X G);have r_fBb:=AQ l.prog w base T (z_fBb.fo X G);have r_fAo:=Gm l.prog w base T (z_fAo.fo X G);have r_fCm:=Dg l.prog w base T (z_fCm.fo X G) r_fCf U D;have r_fBd:=DK l.prog w base T (z_fBd.fo X G) r_fCf D B;have r_fCl:=BR l.prog w base T (z_fCl.fo X G) B;have r_fAw:=Bp l.prog w base T (z_fAw.fo X G) B;have r_fAl:=Aq l.prog w base T (z_fAl.fo X G) B;have r_fAh:=Bl l.prog w base T (z_fAh.fo X G) U B;have r_fCs:=Aw l.prog w base T (z_fCs.fo X G) U;have r_fCh:=BN l.prog w base T (z_fCh.fo X G) U;have r_fAs:=EE l.prog w base T (z_fAs.fo X G) r_fCf;have r_fCe:=F4 l.prog w base T (z_fCe.fo X G) r_fCf D;have O:=Ao l.prog w base T (z_fBn.fo X G) B;have r_fBe:=EC l.prog w base T (z_fBe.fo X G) r_fBg;have r_fCd:=F9 l.prog w base T (z_fCd.fo X G) r_fBk r_fBs;have r_fBy:=Ci l.prog w base T (z_fBy.fo X G) r_fBt;have r_fAt:=CO l.prog w base T (z_fAt.fo X G) r_fBt;have r_fBh:=Ay l.prog w base T (z_fBh.fo X G) r_fBs;have r_fAi:=Bg l.prog w base T (z_fAi.fo X G) r_fAm;have r_fAp:=EZ l.prog w base T (z_fAp.fo X G) r_fAm;have r_fAy:=Cs l.prog w base T (z_fAy.fo X G) r_fAm;have r_fAx:=EK l.prog w base T (z_fAx.fo X G) r_fAo;have r_fCn:=F5 l.prog w base T (z_fCn.fo X G) r_fBd r_fCm U D B;have r_fCo:=E6 l.prog w base T (z_fCo.fo X G) r_fBd;have r_fBw:=FL l.prog w base T (z_fBw.fo X G) r_fCl D B;have r_fBp:=EG l.prog w base T (z_fBp.fo X G) r_fBg O;have r_fAu:=CP l.prog w base T (z_fAu.fo X G) r_fBg O;have r_fAe:=E' l.prog w base T (z_fAe.fo X G) O;have r_fAc:=Ed l.prog w base T (z_fAc.fo X G) O;have r_fBc:=CN l.prog w base T (z_fBc.fo X G) O;have r_fBu:=Fz l.prog w base T (z_fBu.fo X G) r_fAt;have r_fBz:=Au l.prog w base T (z_fBz.fo X G) r_fBy r_fBs;have r_fAj:=CI l.prog w base T (z_fAj.fo X G) r_fAt;have r_fAn:=Cm l.prog w base T (z_fAn.fo X G) r_fAy r_fAm r_fAp r_fAi;have r_fCk:=DB l.prog w base T (z_fCk.fo X G) r_fCm r_fCo;have r_fAr:=Ex l.prog w base T (z_fAr.fo X G) r_fCo;have r_fAz:=Fe l.prog w base T (z_fAz.fo X G) r_fCo r_fCf D;have r_fBv:=BP l.prog w base T (z_fBv.fo X G) r_fBp;have r_fAg:=Ba l.prog w base T (z_fAg.fo X G) r_fBp;have r_fAa:=AF l.prog w base T (z_fAa.fo X G) r_fAu;have r_fBr:=EW l.prog w base T (z_fBr.fo X G) r_fAu;have r_fBo:=D9 l.prog w base T (z_fBo.fo X G) r_fBz;have r_fAf:=Dk l.prog w base T (z_fAf.fo X G) r_fBt r_fBy r_fBu r_fBs;have r_fBl:=Az l.prog w base T (z_fBl.fo X G) r_fAn;have r_fAb:=Dp l.prog w base T (z_fAb.fo X G) r_fAz;have r_fCj:=BD l.prog w base T (z_fCj.fo X G) U r_fAz D;have r_fAk:=F1 l.prog w base T (z_fAk.fo X G) r_fCk r_fCn;have r_fAv:=Fx l.prog w base T (z_fAv.fo X G) r_fAz;have r_fBq:=Bh l.prog w base T (z_fBq.fo X G) r_fBv O;have r_fAd:=Gp l.prog w base T (z_fAd.fo X G) r_fBt r_fBy r_fAt r_fAj r_fBo;have r_fCi:=Ec l.prog w base T (z_fCi.fo X G) r_fAk;have r_fBf:=DU l.prog w base T (z_fBf.fo X G) r_fBq r_fAu;have r_fBx:=Bv l.prog w base T (z_fBx.fo X G) r_fBy r_fAf r_fAd r_fBs;have r_fCp:=DO l.prog w base T (z_fCp.fo X G) (zm_FORMS.SX ∅ ∅) (Qe r_fCe r_fAs r_fCl r_fCh r_fAr r_fCo r_fCk r_fAw r_fCj r_fAb r_fAv r_fCi r_fCg r_fCs r_fAh r_fAl (PySem.W.mg_of X G za_is_counts) (PySem.W.mg_of X G Q) (PySem.W.mg_of X G za_is_hand) (PySem.W.mg_of X G za_is_leave) (PySem.W.mg_of X G H) (PySem.W.mg_of X G za_is_name) (PySem.W.mg_of X G za_is_part) (PySem.W.mg_of X G S) (PySem.W.mg_of X G za_is_side) (PySem.W.mg_of X G f) (PySem.W.mg_of X G R) (PySem.W.mg_of X G za_is_signs) (PySem.W.mg_of X G za_is_truth) (PySem.W.mg_of X G za_is_way) (PySem.W.mg_of X G A) (PySem.W.mg_of X G J));have r_fCa:=Fq l.prog w base T (z_fCa.fo X G) r_fBf (zm_READERS.SX ∅ ∅) (Q6 r_fBe r_fBp r_fAg r_fBg r_fBv O r_fAc r_fAe r_fBr r_fAa r_fBm (PySem.W.mg_of X G Z) (PySem.W.mg_of X G za_read_name) (PySem.W.mg_of X G y) (PySem.W.mg_of X G za_read_number) (PySem.W.mg_of X G za_read_part) (PySem.W.mg_of X G za_read_plain) (PySem.W.mg_of X G n) (PySem.W.mg_of X G p) (PySem.W.mg_of X G za_read_side) (PySem.W.mg_of X G b) (PySem.W.mg_of X G za_read_truth));have r_fBj:=Cq l.prog w base T (z_fBj.fo X G) r_fBh r_fBk r_fCd r_fBx;have r_fCq:=Eb l.prog w base T (z_fCq.fo X G) r_fBw r_fCe r_fCo D r_fCp;have r_fCc:=AA l.prog w base T (z_fCc.fo X G) r_fCq r_fBc r_fBe r_fBg r_fCa;have r_fBa:=BE l.prog w base T (z_fBa.fo X G) r_fCc (Dm {N,M,E,F,L} (jv.mp I) (k_NoDeed:=k) (k_ValueError:=a) (k_Poured:=g) (k_Unlike:=j) (k_NoThing:=d) (k_NoPast:=m) (k_NoRow:=o) (k_NoLeave:=c) (k_NoSet:=q));have r_fAq:=Gz l.prog w base T (z_fAq.fo X G) r_fBa r_fBl r_fCc;exact Fh l.prog w base T (Hm (st:=i6) z2 z3 z4) r_fAq r_fAx r_fBk r_fBj r_fBa r_fBl r_fBb r_fCc
end My
end
namespace PySem.W.Fast
def tw4814216922889749504:=0
def tw13038243145329435776:=0
def tw2348229745511859392:=0
def tw18020039170299791872:=0
def tw10126046173966292576:=0
def tw2817219030992482944:=0
def tw17643257337014002400:=0
def tw7637975607833777952:=0
def tw6615956239306938208:=0
def tw4140582853619281888:=0
def tw15006830633715191841:=0
def tw8480307903865034785:=0
def tw4044283368679704769:=0
def tw10059237226434853057:=0
def tw8011022376322417889:=0
def tw6374796008643702529:=0
def tw15618282193635989345:=0
def tw4166276190852602721:=0
def tw12413996517600934114:=0
def tw17612879153288361378:=0
def tw11442441964093503938:=0
def tw1042807724349156962:=0
def tw5986975196986323778:=0
def tw7651746188416174946:=0
def tw9934267468944165987:=0
def tw15721025274528035075:=0
def tw4836328861610384803:=0
def tw14113935023025429987:=0
def tw14972491172930482819:=0
def tw10929629354045906563:=0
def tw18391850427065502371:=0
def tw9100249977697562275:=0
def tw16126192000423372515:=0
def tw1960102089214662499:=0
def tw12809937936407047107:=0
def tw6507624745117252547:=0
def tw7954041567396865092:=0
def tw961755613191163236:=0
def tw11523120252388819364:=0
def tw12250851951535623812:=0
def tw12529525461572632356:=0
def tw15191132012623291204:=0
def tw17001440615618432868:=0
def tw2630095074885092741:=0
def tw10844154949178866085:=0
def tw15497968498778480101:=0
def tw9230790946833654309:=0
def tw7481793743873978021:=0
def tw1589581140641181509:=0
def tw9273404157420255045:=0
def tw1266882501899563046:=0
def tw3281140355979366438:=0
def tw9848854607163250214:=0
def tw15011802188382243654:=0
def tw1674963992674438151:=0
def tw17268979930686568487:=0
def tw16920205861640987815:=0
def tw7013460819025633479:=0
def tw17183800599819112647:=0
def tw8434508941257822471:=0
def tw11089779668945204487:=0
def tw8836459247174990439:=0
def tw15667944151459275495:=0
def tw15359319398678637608:=0
def tw8895428835632709768:=0
def tw2255335672250378760:=0
def tw5787430291938373384:=0
def tw14408615123360532296:=0
def tw6134791099315258312:=0
def tw14513517715373119529:=0
def tw12941793332973866281:=0
def tw4454933057749099849:=0
def tw1505527984454086185:=0
def tw9817067628326866537:=0
def tw17326597923141744297:=0
def tw15281849549664818889:=0
def tw5529190873079408361:=0
def tw14840368131692488585:=0
def tw2495289019951926346:=0
def tw2750167337598504138:=0
def tw10589508758016024202:=0
def tw13541723714815012490:=0
def tw18303481376147430282:=0
def tw4679751396979772683:=0
def tw14313560639060878699:=0
def tw10888792997616016843:=0
def tw12114591523325511147:=0
def tw8345726884971612683:=0
def tw12377593075769979467:=0
def tw6968969534623818828:=0
def tw13589825048030434380:=0
def tw7345305481922435148:=0
def tw8608137017787684044:=0
def tw18115579610936317196:=0
def tw5757595559994530060:=0
def tw3009493856731178316:=0
def tw1090897759804206732:=0
def tw8182213489323380620:=0
def tw1667901708894638060:=0
def tw15873086371990318060:=0
def tw2666591760199824397:=0
def tw15296227111954080877:=0
def tw10787382872796804333:=0
def tw15715881099182114477:=0
def tw15868948854252349197:=0
def tw7820870418208256078:=0
def tw3936928896967474318:=0
def tw8738762613511846062:=0
def tw6781168556823534990:=0
def tw4830025365036697038:=0
def tw16136515289873638926:=0
def tw2541970610310226478:=0
def tw8497095467349089998:=0
def tw1531041012130564878:=0
def tw3714749985521380270:=0
def tw3689230554308343758:=0
def tw5124951694096968815:=0
def tw13551516968001078735:=0
def tw5224986723346062959:=0
def tw9239839640714664559:=0
def tw596155780784321263:=0
def tw3425499220798258063:=0
def tw1227277241535289424:=0
def tw10316880779598783376:=0
def tw13121300436319051921:=0
def tw12974571705123344561:=0
def tw5930192814152252753:=0
def tw2284847936475751793:=0
def tw1114120424634305041:=0
def tw14962622439086391825:=0
def tw3706409162283779665:=0
def tw2747175341697997393:=0
def tw11247394614486744657:=0
def tw2123788565542433425:=0
def tw13285933700162348721:=0
def tw2750024779694362289:=0
def tw4254887682914082641:=0
def tw13840510651980525586:=0
def tw6812242417011012882:=0
def tw6835033217595222450:=0
def tw1194603301061828114:=0
def tw11479990643969906226:=0
def tw9796279559262831218:=0
def tw11439580784701658994:=0
def tw15843964944065301426:=0
def tw17968385534248506419:=0
def tw13164017500047153459:=0
def tw17126347294811972915:=0
def tw3702045574859340211:=0
def tw14761563248380511699:=0
def tw4191214888726350387:=0
def tw7362268081380730803:=0
def tw13289716737709601747:=0
def tw6025199838355084340:=0
def tw893748136852456500:=0
def tw4851471435439052372:=0
def tw8416334382215614196:=0
def tw4994548428899183412:=0
def tw16958831108322134868:=0
def tw2260478069232660533:=0
def tw13130326327786849461:=0
def tw10399037353823657269:=0
def tw1207887588242471445:=0
def tw14820527484971296277:=0
def tw3840254304229448565:=0
def tw1730825999425258389:=0
def tw7380182838870101941:=0
def tw769544634965903382:=0
def tw903576202294698614:=0
def tw13847919493120544406:=0
def tw3390038631539103959:=0
def tw4332173948415052535:=0
def tw10871450931059288919:=0
def tw1644477401937027991:=0
def tw12315756757632350167:=0
def tw15940027596745263384:=0
def tw15397192421975907672:=0
def tw7800235327848568216:=0
def tw1361475556112326104:=0
def tw17421667781928348120:=0
def tw15690027920135979512:=0
def tw7617252788292255384:=0
def tw9021560505197395768:=0
def tw571222545624431608:=0
def tw2337467807366687801:=0
def tw17773043473488220313:=0
def tw12247796228953773337:=0
def tw8051962725351394681:=0
def tw11960114811071173145:=0
def tw3583579153262347129:=0
def tw9211473829644610425:=0
def tw9715968728156685177:=0
def tw11973077269403509753:=0
def tw2633226882050537498:=0
def tw15660120951123066042:=0
def tw6604929421066801402:=0
def tw8322273240167787770:=0
def tw3318843616721170714:=0
def tw10354812017431874010:=0
def tw1334735633504704026:=0
def tw5615934149292467802:=0
def tw15869313293301992282:=0
def tw6080081301883801594:=0
def tw13223863999138341947:=0
def tw10071279758113218683:=0
def tw10085270322798420187:=0
def tw14448054724664218907:=0
def tw15116170500511770011:=0
def tw5021558824625918427:=0
def tw17397595186332575355:=0
def tw15478678608824108923:=0
def tw4768747262514789243:=0
def tw8949746157873429532:=0
def tw10100844012747995228:=0
def tw16577962496820995452:=0
def tw4955413991551867292:=0
def tw4240875265412799900:=0
def tw8976697323283973820:=0
def tw14421859890548086492:=0
def tw4771520378069190396:=0
def tw15531601883972720380:=0
def tw13481312490608948988:=0
def tw16645092189263334300:=0
def tw17683079545051945053:=0
def tw4713784314498932829:=0
def tw15182087929592097053:=0
def tw6760566539231418653:=0
def tw17163443630264114461:=0
def tw12067129750350056797:=0
def tw13959989370078973309:=0
def tw1674589031076243869:=0
def tw7372705083869086109:=0
def tw16825221578533203453:=0
def tw13667361990574770077:=0
def tw16494292278304486622:=0
def tw2695396261531636158:=0
def tw15521544621258781150:=0
def tw15307057435467032126:=0
def tw13696393453159143998:=0
def tw8108255889032878910:=0
def tw15582487407162043262:=0
def tw11923986588326581150:=0
def tw11120936260120607678:=0
def tw2803812728401129406:=0
def tw7567945291943540670:=0
def tw6295542650868354111:=0
def tw16031157057345071647:=0
def tw1986534945907487263:=0
def tw975804355519261599:=0
def tw14485868853858150403:=0
end PySem.W.Fast
open PySem PySem.W PyProof.Rows
set_option maxRecDepth 100000 in
set_option maxHeartbeats 0 in
theorem PySem.Challenge.cw_pagefolk_k09_texts_of_no_deed_holds : PySem.Challenge.rw_pagefolk_k09_texts_of_no_deed.Holds := by
 w_on;o_law;k_head;(case hw=>w_witness2)
 k_fill
 refine L2.rj (l:=PySem.Challenge.rw_pagefolk_k09_texts_of_no_deed) (n:=63) (k:=12) (x:="_law_script") (CX:=L2.p_) (sp:=My.lM) (Ps:=[]) [] My.MS (fun _=>0) rfl (by decide) rfl ⟨rfl,by decide,by decide,rfl⟩ (fun w h Y=>PySem.W.kIn_of Y) (fun w h Y Q z=>nomatch z) (fun w Q z=>nomatch z) ?hnt ?hnl (fun w t z=>nomatch z) (fun w t z=>nomatch z) ?hms (by decide) ?F My.pA (fun _ _ _ _ z=>z)
 case hms=>(intro w;kernel_rfl)
 case hnt=>(intro w;kernel_rfl)
 case hnl=>(intro w;kernel_rfl)
 case F =>
  intro w mg fa h KX G hmg;refine' My.all_mk KX G hmg ?_ ?_ ?_ ?_ ?_ ?_ ?_ ?_ ?_ ?_ ?_ ?_ ?_ ?_ ?_ ?_ ?_ ?_ ?_ ?_ ?_ ?_ ?_ ?_ ?_ ?_ ?_ ?_ ?_ ?_ ?_ ?_ ?_ ?_ ?_ ?_ ?_ ?_ ?_ ?_ ?_ ?_ ?_ ?_ ?_ ?_ ?_ ?_ ?_ ?_ ?_ ?_ ?_ ?zg_FolkError ?_ ?zg_NoDeed ?_ ?zg_NoLeave ?zg_NoPast ?zg_NoRow ?zg_NoSet ?zg_NoThing ?zg_Poured ?zg_Unlike ?_ ?_ ?_ ?_ ?_ ?_ ?_ ?_ ?_ ?_ ?_ ?_ ?_ ?_ ?_ ?_ ?_ ?_ ?_ ?_ ?_ ?_ ?_ ?_ ?_ ?_ ?_ ?_ ?_ ?_ ?_ ?_ ?_ ?_ ?_ ?_ ?_ ?_ ?_ ?_ ?_ ?_ ?_ ?_ ?_ ?_ ?_ ?_ ?_ ?_ ?_ ?_ ?_ ?_ ?_ ?_ ?_ ?_ ?_ ?_ ?_ ?_ ?_ ?_ ?_ ?_ ?_ ?_ ?_ ?_ ?_ ?_ ?_ ?_ ?_ ?_ ?_ ?_ ?_ ?_ ?_ ?_ ?_ ?_ ?_ ?_ ?_ ?_
  (case zg_FolkError=>k_is)
  (case zg_NoDeed=>k_is)
  (case zg_NoLeave=>k_is)
  (case zg_NoPast=>k_is)
  (case zg_NoRow=>k_is)
  (case zg_NoSet=>k_is)
  (case zg_NoThing=>k_is)
  (case zg_Poured=>k_is)
  (case zg_Unlike=>k_is)
  all_goals try first|k_is|(refine' L2.FX.mk ?z1 ?z2 ?z3 ?z4;(case z1=>k_is);(case z2=>k_is);(case z3=>k_is);(case z4=>k_is))|(refine' L2.MD.mk ?z1 ?z2;(case z1=>k_is);(case z2=>kernel_rfl))|kernel_rfl